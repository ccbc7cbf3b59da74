import PyProof.Rows.All
import Wide.All
import OpenK.AllK
import Wide.FinOn
import HandS.ForMost
import HandS.IsInst
import HandS.TupLe
import HandS.Codes
import HandS.More
import HandS.Exc
import HandS.ExcOwn
import HandS.WordsExc
import HandS.ExcIs
import KE.KExcIs
import HandS.FStr
import HandS.Zip
import HandS.Star
import HandS.StrMore
import HandS.Text
import HandS.Walk
import HandS.Deep
import HandS.TryOnly
import KE.IntTextText
import KE.KUnpackStar
import KE.IntTextLaws
import KE.GoesMore
import KE.GoesEnum
import HandS.DictComp
import HandS.Dict
import HandS.Iter
import HandS.Replace
import HandS.HotCalls
import HandS.ExcInitHot
import PyProof.EqAt
import PyProof.EqKinds
import PyProof.Rows.SortShellAny
import HandS.TupMul
import HandS.TupAny
import HandS.ListItems
import HandS.OwnEq
import KE.KDictPairs
import PyProof.TupleOfGen
import HandS.NoneIn
import PySem.Challenge.RW_tribunal_k23_commands_on_accounts
set_option Elab.async false
set_option pp.maxSteps 300
set_option pp.deepTerms.threshold 6
set_option linter.all false
set_option maxRecDepth 100000
set_option maxHeartbeats 4000000
namespace Toy
open PySem L2
def top (i : Nat) : Stmt := PySem.Challenge.pw_tribunal_k23_commands_on_accounts.main.body.getD i (.Pass ⟨0, 0, 0, 0⟩)
abbrev s_Run_init : Stmt := (inClass (top 8) 0)
abbrev s_run : Stmt := (top 9)
abbrev s_plus : Stmt := (top 10)
abbrev s_minus : Stmt := (top 11)
abbrev s_times : Stmt := (top 12)
abbrev s_append_digit : Stmt := (top 13)
abbrev s_is_less : Stmt := (top 14)
abbrev s_is_equal : Stmt := (top 15)
abbrev s_Machine_init : Stmt := (inClass (top 17) 0)
abbrev s_Machine_push : Stmt := (inClass (top 17) 3)
abbrev s_Machine_take : Stmt := (inClass (top 17) 4)
abbrev s_Machine_push_number : Stmt := (inClass (top 17) 5)
abbrev s_Machine_combine : Stmt := (inClass (top 17) 6)
abbrev s_Machine_move : Stmt := (inClass (top 17) 7)
abbrev s_Machine_jump : Stmt := (inClass (top 17) 8)
abbrev s_Machine_settle : Stmt := (inClass (top 17) 9)
abbrev s_Machine_perform : Stmt := (inClass (top 17) 2)
abbrev s_Machine_finish : Stmt := (inClass (top 17) 1)
abbrev s_Ledger_init : Stmt := (inClass (top 19) 0)
abbrev s_Ledger_eq : Stmt := (inClass (top 19) 1)
abbrev s_first_ledger : Stmt := (top 20)
abbrev s_after_command : Stmt := (top 21)
abbrev s_done : Stmt := (top 22)
abbrev s_payment : Stmt := (top 23)
abbrev s_new_program : Stmt := (top 24)
abbrev s_call : Stmt := (top 25)
abbrev s_exist : Stmt := (top 26)
abbrev s_moved : Stmt := (top 27)
abbrev s_replaced : Stmt := (top 28)
abbrev s_law_cell : Stmt := (top 30)
abbrev s_law_row : Stmt := (top 32)
abbrev s_law_number : Stmt := (top 33)
abbrev s_law_code : Stmt := (top 34)
abbrev s_law_place : Stmt := (top 35)
abbrev s_law_command : Stmt := (top 36)
abbrev s_law_reckon : Stmt := (top 39)
abbrev s_law_need : Stmt := (top 40)
abbrev s_law_act : Stmt := (top 41)
abbrev s_law_sign : Stmt := (top 42)
abbrev s_law_run : Stmt := (top 43)
abbrev s_law_after : Stmt := (top 44)
abbrev s_law_pairs : Stmt := (top 45)
abbrev s_law_shows : Stmt := (top 46)
abbrev s_law : Stmt := (top 47)
abbrev sc_Run_init_N : List Str := ["self", "well", "store", "paid", "steps"]
theorem sc_Run_init : FnScope sc_Run_init_N ["self", "well", "store", "paid", "steps"] (defScope s_Run_init) := ⟨rfl, rfl, rfl, by decide +kernel, rfl, by decide +kernel, by decide +kernel⟩
abbrev sc_run_N : List Str := ["code", "given", "amount", "store", "machine", "kept", "key"]
theorem sc_run : FnScope sc_run_N ["code", "given", "amount", "store"] (defScope s_run) := ⟨rfl, rfl, rfl, by decide +kernel, rfl, by decide +kernel, by decide +kernel⟩
abbrev sc_plus_N : List Str := ["left", "right"]
theorem sc_plus : FnScope sc_plus_N ["left", "right"] (defScope s_plus) := ⟨rfl, rfl, rfl, by decide +kernel, rfl, by decide +kernel, by decide +kernel⟩
abbrev sc_minus_N : List Str := ["left", "right"]
theorem sc_minus : FnScope sc_minus_N ["left", "right"] (defScope s_minus) := ⟨rfl, rfl, rfl, by decide +kernel, rfl, by decide +kernel, by decide +kernel⟩
abbrev sc_times_N : List Str := ["left", "right"]
theorem sc_times : FnScope sc_times_N ["left", "right"] (defScope s_times) := ⟨rfl, rfl, rfl, by decide +kernel, rfl, by decide +kernel, by decide +kernel⟩
abbrev sc_append_digit_N : List Str := ["left", "right"]
theorem sc_append_digit : FnScope sc_append_digit_N ["left", "right"] (defScope s_append_digit) := ⟨rfl, rfl, rfl, by decide +kernel, rfl, by decide +kernel, by decide +kernel⟩
abbrev sc_is_less_N : List Str := ["left", "right"]
theorem sc_is_less : FnScope sc_is_less_N ["left", "right"] (defScope s_is_less) := ⟨rfl, rfl, rfl, by decide +kernel, rfl, by decide +kernel, by decide +kernel⟩
abbrev sc_is_equal_N : List Str := ["left", "right"]
theorem sc_is_equal : FnScope sc_is_equal_N ["left", "right"] (defScope s_is_equal) := ⟨rfl, rfl, rfl, by decide +kernel, rfl, by decide +kernel, by decide +kernel⟩
abbrev sc_Machine_init_N : List Str := ["self", "code", "given", "amount", "store"]
theorem sc_Machine_init : FnScope sc_Machine_init_N ["self", "code", "given", "amount", "store"] (defScope s_Machine_init) := ⟨rfl, rfl, rfl, by decide +kernel, rfl, by decide +kernel, by decide +kernel⟩
abbrev sc_Machine_push_N : List Str := ["self", "value"]
theorem sc_Machine_push : FnScope sc_Machine_push_N ["self", "value"] (defScope s_Machine_push) := ⟨rfl, rfl, rfl, by decide +kernel, rfl, by decide +kernel, by decide +kernel⟩
abbrev sc_Machine_take_N : List Str := ["self"]
theorem sc_Machine_take : FnScope sc_Machine_take_N ["self"] (defScope s_Machine_take) := ⟨rfl, rfl, rfl, by decide +kernel, rfl, by decide +kernel, by decide +kernel⟩
abbrev sc_Machine_push_number_N : List Str := ["self", "sign"]
theorem sc_Machine_push_number : FnScope sc_Machine_push_number_N ["self", "sign"] (defScope s_Machine_push_number) := ⟨rfl, rfl, rfl, by decide +kernel, rfl, by decide +kernel, by decide +kernel⟩
abbrev sc_Machine_combine_N : List Str := ["self", "sign", "work", "right", "left"]
theorem sc_Machine_combine : FnScope sc_Machine_combine_N ["self", "sign"] (defScope s_Machine_combine) := ⟨rfl, rfl, rfl, by decide +kernel, rfl, by decide +kernel, by decide +kernel⟩
abbrev sc_Machine_move_N : List Str := ["self", "sign", "top"]
theorem sc_Machine_move : FnScope sc_Machine_move_N ["self", "sign"] (defScope s_Machine_move) := ⟨rfl, rfl, rfl, by decide +kernel, rfl, by decide +kernel, by decide +kernel⟩
abbrev sc_Machine_jump_N : List Str := ["self", "sign", "place"]
theorem sc_Machine_jump : FnScope sc_Machine_jump_N ["self", "sign"] (defScope s_Machine_jump) := ⟨rfl, rfl, rfl, by decide +kernel, rfl, by decide +kernel, by decide +kernel⟩
abbrev sc_Machine_settle_N : List Str := ["self", "sign", "top"]
theorem sc_Machine_settle : FnScope sc_Machine_settle_N ["self", "sign"] (defScope s_Machine_settle) := ⟨rfl, rfl, rfl, by decide +kernel, rfl, by decide +kernel, by decide +kernel⟩
abbrev sc_Machine_perform_N : List Str := ["self", "sign"]
theorem sc_Machine_perform : FnScope sc_Machine_perform_N ["self", "sign"] (defScope s_Machine_perform) := ⟨rfl, rfl, rfl, by decide +kernel, rfl, by decide +kernel, by decide +kernel⟩
abbrev sc_Machine_finish_N : List Str := ["self", "sign"]
theorem sc_Machine_finish : FnScope sc_Machine_finish_N ["self"] (defScope s_Machine_finish) := ⟨rfl, rfl, rfl, by decide +kernel, rfl, by decide +kernel, by decide +kernel⟩
abbrev sc_Ledger_init_N : List Str := ["self", "balances", "codes", "stores"]
theorem sc_Ledger_init : FnScope sc_Ledger_init_N ["self", "balances", "codes", "stores"] (defScope s_Ledger_init) := ⟨rfl, rfl, rfl, by decide +kernel, rfl, by decide +kernel, by decide +kernel⟩
abbrev sc_Ledger_eq_N : List Str := ["self", "other"]
theorem sc_Ledger_eq : FnScope sc_Ledger_eq_N ["self", "other"] (defScope s_Ledger_eq) := ⟨rfl, rfl, rfl, by decide +kernel, rfl, by decide +kernel, by decide +kernel⟩
abbrev sc_first_ledger_N : List Str := ["grants", "balances"]
theorem sc_first_ledger : FnScope sc_first_ledger_N ["grants"] (defScope s_first_ledger) := ⟨rfl, rfl, rfl, by decide +kernel, rfl, by decide +kernel, by decide +kernel⟩
abbrev sc_after_command_N : List Str := ["ledger", "command", "after"]
theorem sc_after_command : FnScope sc_after_command_N ["ledger", "command"] (defScope s_after_command) := ⟨rfl, rfl, rfl, by decide +kernel, rfl, by decide +kernel, by decide +kernel⟩
abbrev sc_done_N : List Str := ["ledger", "command", "kind", "parts", "payer", "payee", "amount", "account", "code", "caller", "callee", "given"]
theorem sc_done : FnScope sc_done_N ["ledger", "command"] (defScope s_done) := ⟨rfl, rfl, rfl, by decide +kernel, rfl, by decide +kernel, by decide +kernel⟩
abbrev sc_payment_N : List Str := ["ledger", "payer", "payee", "amount"]
theorem sc_payment : FnScope sc_payment_N ["ledger", "payer", "payee", "amount"] (defScope s_payment) := ⟨rfl, rfl, rfl, by decide +kernel, rfl, by decide +kernel, by decide +kernel⟩
abbrev sc_new_program_N : List Str := ["ledger", "account", "code", "codes"]
theorem sc_new_program : FnScope sc_new_program_N ["ledger", "account", "code"] (defScope s_new_program) := ⟨rfl, rfl, rfl, by decide +kernel, rfl, by decide +kernel, by decide +kernel⟩
abbrev sc_call_N : List Str := ["ledger", "caller", "callee", "given", "balance", "ran", "stores"]
theorem sc_call : FnScope sc_call_N ["ledger", "caller", "callee", "given"] (defScope s_call) := ⟨rfl, rfl, rfl, by decide +kernel, rfl, by decide +kernel, by decide +kernel⟩
abbrev sc_exist_N : List Str := ["ledger", "accounts", "account"]
theorem sc_exist : FnScope sc_exist_N ["ledger", "accounts"] (defScope s_exist) := ⟨rfl, rfl, rfl, by decide +kernel, rfl, by decide +kernel, by decide +kernel⟩
abbrev sc_moved_N : List Str := ["balances", "payer", "payee", "amount", "after"]
theorem sc_moved : FnScope sc_moved_N ["balances", "payer", "payee", "amount"] (defScope s_moved) := ⟨rfl, rfl, rfl, by decide +kernel, rfl, by decide +kernel, by decide +kernel⟩
abbrev sc_replaced_N : List Str := ["parts", "at", "part"]
theorem sc_replaced : FnScope sc_replaced_N ["parts", "at", "part"] (defScope s_replaced) := ⟨rfl, rfl, rfl, by decide +kernel, rfl, by decide +kernel, by decide +kernel⟩
abbrev sc_law_cell_N : List Str := ["script", "k"]
theorem sc_law_cell : FnScope sc_law_cell_N ["script", "k"] (defScope s_law_cell) := ⟨rfl, rfl, rfl, by decide +kernel, rfl, by decide +kernel, by decide +kernel⟩
abbrev sc_law_row_N : List Str := ["cell", "count", "size", "state", "row", "k"]
theorem sc_law_row : FnScope sc_law_row_N ["cell", "count", "size"] (defScope s_law_row) := ⟨rfl, rfl, rfl, by decide +kernel, rfl, by decide +kernel, by decide +kernel⟩
abbrev sc_law_number_N : List Str := ["cell"]
theorem sc_law_number : FnScope sc_law_number_N ["cell"] (defScope s_law_number) := ⟨rfl, rfl, rfl, by decide +kernel, rfl, by decide +kernel, by decide +kernel⟩
abbrev sc_law_code_N : List Str := ["cell", "signs", "digits", "digit"]
theorem sc_law_code : FnScope sc_law_code_N ["cell"] (defScope s_law_code) := ⟨rfl, rfl, rfl, by decide +kernel, rfl, by decide +kernel, by decide +kernel⟩
abbrev sc_law_place_N : List Str := ["cell"]
theorem sc_law_place : FnScope sc_law_place_N ["cell"] (defScope s_law_place) := ⟨rfl, rfl, rfl, by decide +kernel, rfl, by decide +kernel, by decide +kernel⟩
abbrev sc_law_command_N : List Str := ["cell", "more", "one"]
theorem sc_law_command : FnScope sc_law_command_N ["cell", "more"] (defScope s_law_command) := ⟨rfl, rfl, rfl, by decide +kernel, rfl, by decide +kernel, by decide +kernel⟩
abbrev sc_law_reckon_N : List Str := ["sign", "left", "right"]
theorem sc_law_reckon : FnScope sc_law_reckon_N ["sign", "left", "right"] (defScope s_law_reckon) := ⟨rfl, rfl, rfl, by decide +kernel, rfl, by decide +kernel, by decide +kernel⟩
abbrev sc_law_need_N : List Str := ["sign"]
theorem sc_law_need : FnScope sc_law_need_N ["sign"] (defScope s_law_need) := ⟨rfl, rfl, rfl, by decide +kernel, rfl, by decide +kernel, by decide +kernel⟩
abbrev sc_law_act_N : List Str := ["sign", "top", "stack", "store", "state"]
theorem sc_law_act : FnScope sc_law_act_N ["sign", "top", "stack", "store", "state"] (defScope s_law_act) := ⟨rfl, rfl, rfl, by decide +kernel, rfl, by decide +kernel, by decide +kernel⟩
abbrev sc_law_sign_N : List Str := ["sign", "given", "amount", "stack", "store", "state", "top", "left"]
theorem sc_law_sign : FnScope sc_law_sign_N ["sign", "given", "amount", "stack", "store", "state"] (defScope s_law_sign) := ⟨rfl, rfl, rfl, by decide +kernel, rfl, by decide +kernel, by decide +kernel⟩
abbrev sc_law_run_N : List Str := ["code", "given", "amount", "store", "stack", "kept", "state", "steps", "k", "left", "key", "sign"]
theorem sc_law_run : FnScope sc_law_run_N ["code", "given", "amount", "store"] (defScope s_law_run) := ⟨rfl, rfl, rfl, by decide +kernel, rfl, by decide +kernel, by decide +kernel⟩
abbrev sc_law_after_N : List Str := ["state", "command", "balances", "codes", "stores", "count", "callee", "run_v"]
theorem sc_law_after : FnScope sc_law_after_N ["state", "command"] (defScope s_law_after) := ⟨rfl, rfl, rfl, by decide +kernel, rfl, by decide +kernel, by decide +kernel⟩
abbrev sc_law_pairs_N : List Str := ["store", "key"]
theorem sc_law_pairs : FnScope sc_law_pairs_N ["store"] (defScope s_law_pairs) := ⟨rfl, rfl, rfl, by decide +kernel, rfl, by decide +kernel, by decide +kernel⟩
abbrev sc_law_shows_N : List Str := ["ledger", "state", "store"]
theorem sc_law_shows : FnScope sc_law_shows_N ["ledger", "state"] (defScope s_law_shows) := ⟨rfl, rfl, rfl, by decide +kernel, rfl, by decide +kernel, by decide +kernel⟩
abbrev sc_law_N : List Str := ["script", "grants", "state", "ledger", "k", "command", "due", "actual", "value", "grant"]
theorem sc_law : FnScope sc_law_N ["script"] (defScope s_law) := ⟨rfl, rfl, rfl, by decide +kernel, rfl, by decide +kernel, by decide +kernel⟩
/-! ### what stands where -/
structure DefAt (K : PySem.W.Frag) (mg : Str → Option Value) (x : Str) (st : Stmt) (ps : List Str) (f : Addr) : Prop where
  F : ∃ fd, Fun K x x st f fd ∧ Binds K fd ps []
  g : mg x = some (.ref f)
  kp : PySem.W.keepIn K (.ref f) = true
structure MethAt (K : PySem.W.Frag) (C : Addr) (x qual : Str) (st : Stmt) (ps : List Str) (f : Addr) : Prop where
  F : ∃ fd, Fun K x qual st f fd ∧ Binds K fd ps []
  fi : PySem.W.findIn K (.ref C) x = some (some (.ref f))
  isf : PySem.W.isFn K (.ref f) = true
  kp : PySem.W.keepIn K (.ref f) = true
theorem def_mk {K : PySem.W.Frag} {x qual : Str} {st : Stmt} {f : Addr} {ps : List Str} {oc : Value} {od an : Option Addr} {osl : Array (Option Value)} {kV doc pm cdv ct : Value}
    (l : K.lookup f = some ⟨oc, od, .func (PySem.W.fnOf x qual (defArgs st) (defBody st) (defScope st) .none kV doc pm an cdv ct), osl⟩)
    (c : PySem.W.codeIn K cdv qual = true) (k : PySem.W.keepIn K (.ref f) = true)
    (h : ∀ (kV doc pm : Value) (an : Option Addr) (cdv ct : Value) (us : List Value), us.length = ps.length → bindArgs (PySem.W.fnOf x qual (defArgs st) (defBody st) (defScope st) .none kV doc pm an cdv ct) ⟨us, []⟩ = pure (ps.zip us)) :
    ∃ fd, Fun K x qual st f fd ∧ Binds K fd ps [] := by
  have F := fun_mk (st := st) l c k
  exact ⟨_, F, F.binds h⟩
theorem mg_no {K : PySem.W.Frag} {h : Heap} {mg : Str → Option Value} {n : Str} (X : K.In h) (G : h.Ns mainGlobals mg) (e : PySem.W.nsIn K mainGlobals n = some none) : mg n = none := PySem.W.mg_none_of X G e
theorem same_new {H : Hp} {p : Addr} {o : HO} (n : H p = Option.none) : Same H (upd H p o) := fun b u e => by
  rw [upd_ne (ne_of_none e n)]
  exact e
theorem same_upd {H H2 : Hp} {p : Addr} {o : HO} (s : Same H H2) (n : H p = Option.none) : Same H (upd H2 p o) := fun b u e => by
  rw [upd_ne (ne_of_none e n)]
  exact s b u e
structure Ads where
  C_Run : Addr
  C_Machine : Addr
  C_Ledger : Addr
  d_Run_init : Addr
  d_run : Addr
  d_plus : Addr
  d_minus : Addr
  d_times : Addr
  d_append_digit : Addr
  d_is_less : Addr
  d_is_equal : Addr
  d_Machine_init : Addr
  d_Machine_push : Addr
  d_Machine_take : Addr
  d_Machine_push_number : Addr
  d_Machine_combine : Addr
  d_Machine_move : Addr
  d_Machine_jump : Addr
  d_Machine_settle : Addr
  d_Machine_perform : Addr
  d_Machine_finish : Addr
  d_Ledger_init : Addr
  d_Ledger_eq : Addr
  d_first_ledger : Addr
  d_after_command : Addr
  d_done : Addr
  d_payment : Addr
  d_new_program : Addr
  d_call : Addr
  d_exist : Addr
  d_moved : Addr
  d_replaced : Addr
  d_law_cell : Addr
  d_law_row : Addr
  d_law_number : Addr
  d_law_code : Addr
  d_law_place : Addr
  d_law_command : Addr
  d_law_reckon : Addr
  d_law_need : Addr
  d_law_act : Addr
  d_law_sign : Addr
  d_law_run : Addr
  d_law_after : Addr
  d_law_pairs : Addr
  d_law_shows : Addr
  C_Failed : Addr
  P_OF_TWO : Addr
structure Txt (K : PySem.W.Frag) (mg : Str → Option Value) (a : Ads) : Prop where
  n_len : mg "len" = none
  n_range : mg "range" = none
  n_isinstance : mg "isinstance" = none
  n_int : mg "int" = none
  n_bool : mg "bool" = none
  n_list : mg "list" = none
  n_tuple : mg "tuple" = none
  n_str : mg "str" = none
  n_dict : mg "dict" = none
  n_sorted : mg "sorted" = none
  n_max : mg "max" = none
  n_abs : mg "abs" = none
  n_all : mg "all" = none
  c_DIGITS : ∃ t, mg "DIGITS" = some (.str "0123456789" t)
  c_MODULUS : ∃ t, mg "MODULUS" = some (.int 1000000 t)
  c_MOST_VALUES : ∃ t, mg "MOST_VALUES" = some (.int 16 t)
  c_MOST_STEPS : ∃ t, mg "MOST_STEPS" = some (.int 200 t)
  g_Run : mg "Run" = some (.ref a.C_Run)
  cl_Run : Cls K a.C_Run
  kc_Run : PySem.W.keepIn K (.ref a.C_Run) = true
  mk_Run : PySem.W.makesIn K a.C_Run = true
  a_Run_well : NoAttr K a.C_Run "well"
  a_Run_store : NoAttr K a.C_Run "store"
  a_Run_paid : NoAttr K a.C_Run "paid"
  a_Run_steps : NoAttr K a.C_Run "steps"
  g_Machine : mg "Machine" = some (.ref a.C_Machine)
  cl_Machine : Cls K a.C_Machine
  kc_Machine : PySem.W.keepIn K (.ref a.C_Machine) = true
  mk_Machine : PySem.W.makesIn K a.C_Machine = true
  a_Machine_code : NoAttr K a.C_Machine "code"
  a_Machine_given : NoAttr K a.C_Machine "given"
  a_Machine_amount : NoAttr K a.C_Machine "amount"
  a_Machine_store : NoAttr K a.C_Machine "store"
  a_Machine_stack : NoAttr K a.C_Machine "stack"
  a_Machine_place : NoAttr K a.C_Machine "place"
  a_Machine_paid : NoAttr K a.C_Machine "paid"
  a_Machine_steps : NoAttr K a.C_Machine "steps"
  g_Ledger : mg "Ledger" = some (.ref a.C_Ledger)
  cl_Ledger : Cls K a.C_Ledger
  kc_Ledger : PySem.W.keepIn K (.ref a.C_Ledger) = true
  mk_Ledger : PySem.W.makesIn K a.C_Ledger = true
  a_Ledger_balances : NoAttr K a.C_Ledger "balances"
  a_Ledger_codes : NoAttr K a.C_Ledger "codes"
  a_Ledger_stores : NoAttr K a.C_Ledger "stores"
  d_Run_init : MethAt K a.C_Run "__init__" "Run.__init__" s_Run_init ["self", "well", "store", "paid", "steps"] a.d_Run_init
  d_run : DefAt K mg "run" s_run ["code", "given", "amount", "store"] a.d_run
  d_plus : DefAt K mg "_plus" s_plus ["left", "right"] a.d_plus
  d_minus : DefAt K mg "_minus" s_minus ["left", "right"] a.d_minus
  d_times : DefAt K mg "_times" s_times ["left", "right"] a.d_times
  d_append_digit : DefAt K mg "_append_digit" s_append_digit ["left", "right"] a.d_append_digit
  d_is_less : DefAt K mg "_is_less" s_is_less ["left", "right"] a.d_is_less
  d_is_equal : DefAt K mg "_is_equal" s_is_equal ["left", "right"] a.d_is_equal
  d_Machine_init : MethAt K a.C_Machine "__init__" "Machine.__init__" s_Machine_init ["self", "code", "given", "amount", "store"] a.d_Machine_init
  d_Machine_push : MethAt K a.C_Machine "push" "Machine.push" s_Machine_push ["self", "value"] a.d_Machine_push
  d_Machine_take : MethAt K a.C_Machine "take" "Machine.take" s_Machine_take ["self"] a.d_Machine_take
  d_Machine_push_number : MethAt K a.C_Machine "push_number" "Machine.push_number" s_Machine_push_number ["self", "sign"] a.d_Machine_push_number
  d_Machine_combine : MethAt K a.C_Machine "combine" "Machine.combine" s_Machine_combine ["self", "sign"] a.d_Machine_combine
  d_Machine_move : MethAt K a.C_Machine "move" "Machine.move" s_Machine_move ["self", "sign"] a.d_Machine_move
  d_Machine_jump : MethAt K a.C_Machine "jump" "Machine.jump" s_Machine_jump ["self", "sign"] a.d_Machine_jump
  d_Machine_settle : MethAt K a.C_Machine "settle" "Machine.settle" s_Machine_settle ["self", "sign"] a.d_Machine_settle
  d_Machine_perform : MethAt K a.C_Machine "perform" "Machine.perform" s_Machine_perform ["self", "sign"] a.d_Machine_perform
  d_Machine_finish : MethAt K a.C_Machine "finish" "Machine.finish" s_Machine_finish ["self"] a.d_Machine_finish
  d_Ledger_init : MethAt K a.C_Ledger "__init__" "Ledger.__init__" s_Ledger_init ["self", "balances", "codes", "stores"] a.d_Ledger_init
  d_Ledger_eq : MethAt K a.C_Ledger "__eq__" "Ledger.__eq__" s_Ledger_eq ["self", "other"] a.d_Ledger_eq
  d_first_ledger : DefAt K mg "first_ledger" s_first_ledger ["grants"] a.d_first_ledger
  d_after_command : DefAt K mg "after_command" s_after_command ["ledger", "command"] a.d_after_command
  d_done : DefAt K mg "_done" s_done ["ledger", "command"] a.d_done
  d_payment : DefAt K mg "_payment" s_payment ["ledger", "payer", "payee", "amount"] a.d_payment
  d_new_program : DefAt K mg "_new_program" s_new_program ["ledger", "account", "code"] a.d_new_program
  d_call : DefAt K mg "_call" s_call ["ledger", "caller", "callee", "given"] a.d_call
  d_exist : DefAt K mg "_exist" s_exist ["ledger", "accounts"] a.d_exist
  d_moved : DefAt K mg "_moved" s_moved ["balances", "payer", "payee", "amount"] a.d_moved
  d_replaced : DefAt K mg "_replaced" s_replaced ["parts", "at", "part"] a.d_replaced
  d_law_cell : DefAt K mg "_law_cell" s_law_cell ["script", "k"] a.d_law_cell
  d_law_row : DefAt K mg "_law_row" s_law_row ["cell", "count", "size"] a.d_law_row
  d_law_number : DefAt K mg "_law_number" s_law_number ["cell"] a.d_law_number
  d_law_code : DefAt K mg "_law_code" s_law_code ["cell"] a.d_law_code
  d_law_place : DefAt K mg "_law_place" s_law_place ["cell"] a.d_law_place
  d_law_command : DefAt K mg "_law_command" s_law_command ["cell", "more"] a.d_law_command
  d_law_reckon : DefAt K mg "_law_reckon" s_law_reckon ["sign", "left", "right"] a.d_law_reckon
  d_law_need : DefAt K mg "_law_need" s_law_need ["sign"] a.d_law_need
  d_law_act : DefAt K mg "_law_act" s_law_act ["sign", "top", "stack", "store", "state"] a.d_law_act
  d_law_sign : DefAt K mg "_law_sign" s_law_sign ["sign", "given", "amount", "stack", "store", "state"] a.d_law_sign
  d_law_run : DefAt K mg "_law_run" s_law_run ["code", "given", "amount", "store"] a.d_law_run
  d_law_after : DefAt K mg "_law_after" s_law_after ["state", "command"] a.d_law_after
  d_law_pairs : DefAt K mg "_law_pairs" s_law_pairs ["store"] a.d_law_pairs
  d_law_shows : DefAt K mg "_law_shows" s_law_shows ["ledger", "state"] a.d_law_shows
theorem Txt.m_Run {K : PySem.W.Frag} {mg : Str → Option Value} {a : Ads} (T : Txt K mg a) : Mk K a.C_Run a.d_Run_init := ⟨T.mk_Run, T.d_Run_init.fi, T.d_Run_init.isf, T.kc_Run⟩
theorem Txt.m_Machine {K : PySem.W.Frag} {mg : Str → Option Value} {a : Ads} (T : Txt K mg a) : Mk K a.C_Machine a.d_Machine_init := ⟨T.mk_Machine, T.d_Machine_init.fi, T.d_Machine_init.isf, T.kc_Machine⟩
theorem Txt.me_Machine_push {K : PySem.W.Frag} {mg : Str → Option Value} {a : Ads} (T : Txt K mg a) : Meth K a.C_Machine "push" a.d_Machine_push := ⟨T.d_Machine_push.fi, T.d_Machine_push.isf, T.d_Machine_push.kp⟩
theorem Txt.me_Machine_take {K : PySem.W.Frag} {mg : Str → Option Value} {a : Ads} (T : Txt K mg a) : Meth K a.C_Machine "take" a.d_Machine_take := ⟨T.d_Machine_take.fi, T.d_Machine_take.isf, T.d_Machine_take.kp⟩
theorem Txt.me_Machine_push_number {K : PySem.W.Frag} {mg : Str → Option Value} {a : Ads} (T : Txt K mg a) : Meth K a.C_Machine "push_number" a.d_Machine_push_number := ⟨T.d_Machine_push_number.fi, T.d_Machine_push_number.isf, T.d_Machine_push_number.kp⟩
theorem Txt.me_Machine_combine {K : PySem.W.Frag} {mg : Str → Option Value} {a : Ads} (T : Txt K mg a) : Meth K a.C_Machine "combine" a.d_Machine_combine := ⟨T.d_Machine_combine.fi, T.d_Machine_combine.isf, T.d_Machine_combine.kp⟩
theorem Txt.me_Machine_move {K : PySem.W.Frag} {mg : Str → Option Value} {a : Ads} (T : Txt K mg a) : Meth K a.C_Machine "move" a.d_Machine_move := ⟨T.d_Machine_move.fi, T.d_Machine_move.isf, T.d_Machine_move.kp⟩
theorem Txt.me_Machine_jump {K : PySem.W.Frag} {mg : Str → Option Value} {a : Ads} (T : Txt K mg a) : Meth K a.C_Machine "jump" a.d_Machine_jump := ⟨T.d_Machine_jump.fi, T.d_Machine_jump.isf, T.d_Machine_jump.kp⟩
theorem Txt.me_Machine_settle {K : PySem.W.Frag} {mg : Str → Option Value} {a : Ads} (T : Txt K mg a) : Meth K a.C_Machine "settle" a.d_Machine_settle := ⟨T.d_Machine_settle.fi, T.d_Machine_settle.isf, T.d_Machine_settle.kp⟩
theorem Txt.me_Machine_perform {K : PySem.W.Frag} {mg : Str → Option Value} {a : Ads} (T : Txt K mg a) : Meth K a.C_Machine "perform" a.d_Machine_perform := ⟨T.d_Machine_perform.fi, T.d_Machine_perform.isf, T.d_Machine_perform.kp⟩
theorem Txt.me_Machine_finish {K : PySem.W.Frag} {mg : Str → Option Value} {a : Ads} (T : Txt K mg a) : Meth K a.C_Machine "finish" a.d_Machine_finish := ⟨T.d_Machine_finish.fi, T.d_Machine_finish.isf, T.d_Machine_finish.kp⟩
theorem Txt.m_Ledger {K : PySem.W.Frag} {mg : Str → Option Value} {a : Ads} (T : Txt K mg a) : Mk K a.C_Ledger a.d_Ledger_init := ⟨T.mk_Ledger, T.d_Ledger_init.fi, T.d_Ledger_init.isf, T.kc_Ledger⟩
theorem Txt.me_Ledger_eq {K : PySem.W.Frag} {mg : Str → Option Value} {a : Ads} (T : Txt K mg a) : Meth K a.C_Ledger "__eq__" a.d_Ledger_eq := ⟨T.d_Ledger_eq.fi, T.d_Ledger_eq.isf, T.d_Ledger_eq.kp⟩
section
open PyProof.Rows
/-! ### own rules: set(list of ints), k in that set; enumerate(a tuple) -/
theorem any_firstMet (zs : List Int) (k : Int) : (PyProof.Rows.firstMet (fun i => zs.getD i 0) zs.length).any (· == k) = decide (k ∈ zs) := by
  rw [PyProof.Rows.firstMet_any, Bool.eq_iff_iff, List.any_eq_true, decide_eq_true_iff]
  constructor
  · rintro ⟨y, hy, e⟩
    obtain ⟨i, hi, rfl⟩ := List.mem_map.mp hy
    have hi' : i < zs.length := List.mem_range.mp hi
    have e' : zs.getD i 0 = k := by simpa using e
    rw [← e', List.getD_eq_getElem?_getD, List.getElem?_eq_getElem hi']
    exact List.getElem_mem hi'
  · intro hk
    obtain ⟨i, hi, e⟩ := List.getElem_of_mem hk
    refine ⟨k, List.mem_map.mpr ⟨i, List.mem_range.mpr hi, ?_⟩, by simp⟩
    show zs.getD i 0 = k
    rw [List.getD_eq_getElem?_getD, List.getElem?_eq_getElem hi]
    exact e
/-- set(xs), xs a list of ints -/
def rSetOfL (K : PySem.W.Frag) : List V → Hp → VK → Prop := fun vs H Q => ∃ (l : Addr) (zs : List Int), vs = [V.ref l] ∧ SqL K H l (zs.map V.int) ∧ zs.length ≤ 1000 ∧
  ∀ (p : Addr) (n : Nat), H p = Option.none → Q (.ref p) (upd H p (.set (fun k => decide (k ∈ zs)) n))
theorem cr_set {X : Cx} (calm : X.calm = true) : CallR X (.type "set") (rSetOfL X.K) := by
  intro pins sh σ H vs us Q I rel hyp
  obtain ⟨l, zs, rfl, hl, few, q⟩ := hyp
  rw [Vals.ref1 rel]
  obtain ⟨its, rv, pl, _⟩ := I.list hl
  have isI := ints_of_vals rv
  have same : its.toArray.size = zs.length := by
    have e := rv.length
    rw [List.length_map] at e
    rw [List.size_toArray]
    exact e.symm
  refine PySem.call_set_list (items := its.toArray) (ns := zs) (I.ok.hd calm) pl.isList (by simpa using isI) (by rw [same]; unfold scanBound; omega) fun h' tk S kp => ?_
  have fresh : H sh.heap.objs.size = Option.none := I.hok.fresh (Nat.le_refl _)
  have e : (fun k => (PyProof.Rows.firstMet (fun i => zs.getD i 0) its.toArray.size).any (· == k)) = fun k => decide (k ∈ zs) := by
    funext k
    rw [same]
    exact any_firstMet zs k
  rw [e] at S
  exact ⟨.ref sh.heap.objs.size, upd H sh.heap.objs.size (.set (fun k => decide (k ∈ zs)) _), I.laid (t' := tk) (fun b o ho => kp b o (Heap.lt_size ho) ho) (Nat.le_refl _) S, rfl, q _ _ fresh⟩
/-- k in such a set -/
def rInSt (neg : Bool) : R2 := fun x y H Q => ∃ (k : Int) (b : Addr) (S : Int → Bool) (n : Nat), x = V.int k ∧ y = V.ref b ∧ H b = some (.set S n) ∧ Q (.bl (if neg then !S k else S k)) H
theorem op_in_set {X : Cx} : OpR X (compareOp .In) (rInSt false) := by
  intro pins sh σ H x y v u Q I r1 r2 hyp
  obtain ⟨k, b, S, n, rfl, rfl, hb, q⟩ := hyp
  obtain ⟨tk, rfl⟩ := r1
  cases r2
  have hS : sh.heap.SetOf (intKind X.prog X.w) b S n := I.hok b _ hb
  exact PySem.wpAny_inSet_of (PySem.intKind_is _ _ _ _) rfl hS ⟨.bl (S k), H, I.tok _, rfl, q⟩
/-- the pairs of enumerate over the tuple at a -/
def Itu (K : PySem.W.Frag) (a : Addr) : It where
  go i H := ∃ (ys : List V) (y : V), SqT K H a ys ∧ ys[i]? = some y
  yld i H v H' := ∃ (p : Addr) (y : V), v = .ref p ∧ H p = Option.none ∧ H' = upd H p (.tup [.int (i : Nat), y]) ∧ ∀ ys, SqT K H a ys → ys[i]? = some y
  stop i H := ∃ ys : List V, SqT K H a ys ∧ ys.length = i
theorem turn_enumT {P : Program} {w : World} {K : PySem.W.Frag} {elts : List Expr} {kk : Nat} {tpos : Pos} (a en it : Addr) (na : a ≠ it) (ne : en ≠ it) (nea : en ≠ a) :
    Turn P w K (.Tuple elts kk tpos) (Itu K a) [en, it] en (fun i h => (∃ old, IsEnum h en it ((i : Nat) : Int) old) ∧ h.IsTupleIter it a i) where
  mem := List.mem_cons_self
  obj := by
    rintro i h ⟨⟨old, he⟩, ⟨o, ho, hc, hd⟩⟩ b hb
    rcases List.mem_cons.mp hb with rfl | hb
    · exact ⟨_, he, fun v z => nomatch z⟩
    · rw [List.mem_singleton.mp hb]
      exact ⟨o, ho, fun v z => by rw [hd] at z; cases z⟩
  keep := by
    rintro i h h' ⟨⟨old, he⟩, hi⟩ kp
    exact ⟨⟨old, kp en List.mem_cons_self _ he⟩, hi.at fun o z => kp it (List.mem_cons_of_mem _ List.mem_cons_self) o z⟩
  item := by
    intro X hP hw hK calm i pins sh σ H E I fp st hg
    subst hP hw hK
    obtain ⟨⟨old, he⟩, hit⟩ := st
    obtain ⟨ys, y, hy, hix⟩ := hg
    obtain ⟨its, rv, tp, _⟩ := I.tuple hy
    obtain ⟨u, hu, ru⟩ := rv.get hix
    have hT : sh.heap.IsTuple a its.toArray := tp
    have hlen : i < its.toArray.size := by
      rw [List.size_toArray]
      exact (List.getElem?_eq_some_iff.mp hu).1
    have len : en < sh.heap.objs.size := Heap.lt_size he
    have lit : it < sh.heap.objs.size := by
      obtain ⟨_, z, _⟩ := hit
      exact Heap.lt_size z
    refine wpAny_pyNext_enum_itemD (Draws.tuple (by simp [I.ok.hd calm]) it a na its.toArray) he ⟨hit, hT⟩ hlen ne (by simp [ne, nea]) fun x h' tk hx ho hst hnew hsz kp => ?_
    have ex : x = u := by
      rw [List.getElem?_toArray, hu] at hx
      exact (Option.some.inj hx).symm
    subst ex
    refine ⟨_, rfl, wpAny_letOwnedTupleGo_enum (s := { sh with heap := h', toks := tk + 1 }) ho fun h2 he2 sb => ?_⟩
    have new2 : h2.get? sh.heap.objs.size = some { cls := .type "tuple", data := .seq #[.int i tk, x] } := (sb.2 _ (Nat.ne_of_gt len)).trans hnew
    have okN : ObjOk X.prog X.w (upd H sh.heap.objs.size (.tup [.int (i : Nat), y])) h2 sh.heap.objs.size (.tup [.int (i : Nat), y]) := by
      refine ⟨(by show 2 ≤ sizeLine; decide), [.int i tk, x], .cons ⟨_, rfl⟩ (.cons ru .nil), ?_⟩
      exact ⟨_, new2, rfl, _, rfl⟩
    have I2 : Inv X pins σ (upd H sh.heap.objs.size (.tup [.int (i : Nat), y])) { sh with heap := h2, toks := tk + 1 } := by
      refine I.turnedNew (ch := [en, it]) (fun b ob hb z => ?_) fp (Nat.le_refl _) okN
      have b1 : b ≠ en := fun q => hb (by rw [q]; exact List.mem_cons_self)
      have b2 : b ≠ it := fun q => hb (by rw [q]; exact List.mem_cons_of_mem _ List.mem_cons_self)
      exact (sb.2 b b1).trans (kp b ob b1 b2 z)
    refine ⟨.ref sh.heap.objs.size, _, I2, rfl, ⟨_, y, rfl, I.hok.fresh (Nat.le_refl _), rfl, fun zs hz => ?_⟩, ⟨⟨x, ?_⟩, hst.1.at fun o z => (sb.2 it (Ne.symm ne)).trans z⟩, fun b hb => ?_⟩
    · rw [I.tuple_inj hz hy]
      exact hix
    · have e1 : ((i + 1 : Nat) : Int) = (i : Int) + 1 := by omega
      rw [e1]
      exact he2
    · have lb : b < sh.heap.objs.size := by
        rcases List.mem_cons.mp hb with rfl | hb
        · exact len
        · rw [List.mem_singleton.mp hb]
          exact lit
      rw [upd_ne (Nat.ne_of_lt lb)]
      exact (fp b hb).1
  done := by
    intro X hP hw hK calm i pins sh σ H E I fp st hg
    subst hP hw hK
    obtain ⟨⟨old, he⟩, hit⟩ := st
    obtain ⟨ys, hy, rfl⟩ := hg
    obtain ⟨its, rv, tp, _⟩ := I.tuple hy
    have hT : sh.heap.IsTuple a its.toArray := tp
    have e : ys.length = its.toArray.size := by
      rw [List.size_toArray]
      exact rv.length
    rw [e] at hit
    obtain ⟨g0, g1, g2, g3, g4, g5⟩ := fp it (List.mem_cons_of_mem _ List.mem_cons_self)
    exact wpAny_pyNext_enum_endD (Draws.tuple (by simp [I.ok.hd calm]) it a na its.toArray) he ⟨hit, hT⟩ fun h' eb => ⟨rfl, I.turned (t' := sh.toks) (fun b o hb z => eb b o hb z) g0 g1 g3 g4 g5⟩
  self := by
    rintro A i s Q E ⟨⟨_, he⟩, _⟩ h
    exact wpAny_pyIter_enum he h
theorem meets_enum1 {v : Value} {o : Obj} {Z : Heap → Prop} (B : Begins v o Z) :
    Meets (Builtin.«enumerate.__new__» ⟨[.type "enumerate", v], []⟩) (fun _ R s => Z s.heap ∧
      R (.ok (.ret (.ref (s.heap.push o).objs.size))) { s with heap := (s.heap.push o).push { cls := .type "enumerate", data := .fields #[.none, .bool false, .ref s.heap.objs.size, rawInt 0, .none, .none] } }) :=
  .of_wp fun prog w A R s hyp => by
    obtain ⟨hp, g, d, tk, os⟩ := s
    obtain ⟨hz, hyp⟩ := hyp
    have sube := sub_enumerate
    have step : ∀ {A' : Around} {E' : Value → Shared → Prop} {Q' : Value → Shared → Prop}, Q' (.ref hp.objs.size) ⟨hp.push o, g, d, tk, os⟩ → wpAny (model prog w) A' (pyIter v) Q' E' ⟨hp, g, d, tk, os⟩ :=
      fun z => B.iter prog w _ _ ⟨hp, g, d, tk, os⟩ _ hz z
    wp_walk using step
    refine wpAny_stack_any fun st => wpAny_pure ?_
    split
    · rename_i c _ _ _ _ _
      cases (c == Value.type "enumerate") <;> (wp_walk using step; exact ⟨_, rfl, hyp⟩)
    · wp_walk using step
      exact ⟨_, rfl, hyp⟩
theorem call_enum1 {prog : Program} {w : World} {A : Around} {E : Value → Shared → Prop} {s : Shared} {v : Value} {o : Obj} {Z : Heap → Prop} {Q : Value → Shared → Prop} (B : Begins v o Z) (hz : Z s.heap)
    (fin : ∀ h', IsEnum h' (s.heap.objs.size + 1) s.heap.objs.size 0 .none → h'.get? s.heap.objs.size = some o → (∀ b u, s.heap.get? b = some u → h'.get? b = some u) → Q (.ref (s.heap.objs.size + 1)) { s with heap := h' }) :
    wpAny (model prog w) A (call (.type "enumerate") [v]) Q E s := by
  have size1 : (s.heap.push o).objs.size = s.heap.objs.size + 1 := Heap.size_push ..
  refine callType_new F.called_enumerate (by decide) (F.typeCall_enumerate_1 _) (F.newCall_enumerate_1 _) (fun obj => F.args_object_init_2 obj _) F.entry_enumerate_new (meets_enum1 B) ⟨hz, ?_⟩
  rw [size1]
  have isE : IsEnum ((s.heap.push o).push { cls := .type "enumerate", data := .fields #[.none, .bool false, .ref s.heap.objs.size, rawInt 0, .none, .none] }) (s.heap.objs.size + 1) s.heap.objs.size 0 .none := by
    have z := Heap.get?_push_size (s.heap.push o) (o := { cls := .type "enumerate", data := .fields #[.none, .bool false, .ref s.heap.objs.size, rawInt 0, .none, .none] }) rfl
    rwa [size1] at z
  exact ⟨⟨_, isE, rfl⟩, fin _ isE (Heap.get?_push_of_some _ (Heap.get?_push_size _ B.free)) fun b u z => Heap.get?_push_of_some _ (Heap.get?_push_of_some _ z)⟩
def iEnumT (K : PySem.W.Frag) (ta : TA) : TI := fun σ H R => ta σ H fun vs H1 => ∃ (a : Addr) (ys : List V), vs = [.ref a] ∧ SqT K H1 a ys ∧ R (Itu K a) H1
theorem pi_enumT {X : Cx} {e : Expr} {ta : TA} {p pos tpos : Pos} {elts : List Expr} {kk : Nat} (gl : Gl X "enumerate") (no : X.mg "enumerate" = none) (pa : PA X [e] ta) (plain : starEach [e] X.env = [(false, eval e X.env)] := by rfl) :
    PI X (.Tuple elts kk tpos) (.Call (.Name "enumerate" p) [e] [] pos) (iEnumT X.K ta) := by
  constructor
  intro pins s σ H R I hyp
  refine PyProof.Rows.Call_ (ld_blt I gl no boot_enumerate (PyProof.Rows.callWith_type1 (thn (pa.run pos pins s σ H _ I hyp) fun us s1 got => ?_) plain rfl))
  obtain ⟨vs, H1, I1, rel, a, ys, rfl, hy, q⟩ := got
  rw [Vals.ref1 rel]
  obtain ⟨its, rv, tp, _⟩ := I1.tuple hy
  have hT : s1.heap.IsTuple a its.toArray := tp
  have la : a < s1.heap.objs.size := by
    obtain ⟨_, z, _⟩ := hT
    exact Heap.lt_size z
  refine call_enum1 (begins_tuple a its.toArray) hT fun h' isE hit kp => wpAny_pyIter_enum isE ?_
  have I2 : Inv X pins σ H1 { s1 with heap := h' } := I1.kept (t' := s1.toks) kp
  refine ⟨s1.heap.objs.size + 1, [s1.heap.objs.size + 1, s1.heap.objs.size], _, _, H1, rfl, I2, turn_enumT a (s1.heap.objs.size + 1) s1.heap.objs.size (Nat.ne_of_lt la) (Nat.succ_ne_self _) (Nat.ne_of_gt (Nat.lt_succ_of_lt la)), ⟨⟨.none, isE⟩, _, hit, rfl, rfl⟩, fun b hb => ?_, q⟩
  have le : s1.heap.objs.size ≤ b := by
    rcases List.mem_cons.mp hb with rfl | hb
    · exact Nat.le_succ _
    · rw [List.mem_singleton.mp hb]
      exact Nat.le_refl _
  exact I1.fpOk le (I1.hok.fresh le)
/-- the forms that one uses: a word by the turn -/
theorem for_enumT {K : PySem.W.Frag} {a : Addr} {ys : List V} {g : TG} {tb : TS} {D : Ends} {σ : L2.St} {H : Hp} (Pv : Nat → L2.St → Hp → Prop) (h0 : Pv 0 σ H) (src : ∀ i σ H, i ≤ ys.length → Pv i σ H → SqT K H a ys)
    (turn : ∀ i y σ H p, ys[i]? = some y → Pv i σ H → H p = Option.none → g (.ref p) σ (upd H p (.tup [.int (i : Nat), y])) fun σ2 H2 => tb { D with nx := Pv (i + 1), ct := Pv (i + 1), bk := D.nx } σ2 H2) (fin : ∀ σ H, Pv ys.length σ H → D.nx σ H) :
    ∃ W : Nat → Nat → L2.St → Hp → Prop, (∃ m, W 0 m σ H) ∧ ∀ i m σ H, W i m σ H →
      ((Itu K a).stop i H ∧ D.nx σ H) ∨ ((Itu K a).go i H ∧ ∃ N : L2.St → Hp → Prop, (∀ σ' H', N σ' H' → ∃ m', m' < m ∧ W (i + 1) m' σ' H') ∧ ∀ x H', (Itu K a).yld i H x H' → g x σ H' fun σ2 H2 => tb { D with nx := N, ct := N, bk := D.nx } σ2 H2) := by
  refine ⟨fun i m σ H => m + i = ys.length ∧ Pv i σ H, ⟨ys.length, Nat.add_zero _, h0⟩, ?_⟩
  rintro i m σ H ⟨em, pv⟩
  have s := src i σ H (by omega) pv
  rcases Nat.lt_or_ge i ys.length with lt | ge
  · refine .inr ⟨⟨ys, ys[i], s, List.getElem?_eq_getElem lt⟩, Pv (i + 1), fun σ' H' z => ⟨m - 1, by omega, by omega, z⟩, ?_⟩
    rintro x H' ⟨p, y, rfl, hp, rfl, hy⟩
    exact turn i y σ H p (hy ys s) pv hp
  · have e : i = ys.length := by omega
    subst e
    exact .inl ⟨⟨ys, s, rfl⟩, fin σ H pv⟩
theorem lc_enumT {K : PySem.W.Frag} {a : Addr} {ys : List V} {g : TG} {tt : TT} {te : TE} {vs : List Nat} {σ : L2.St} {H1 : Hp} {D : Addr} {Qd : Hp → Prop} (Pv : Nat → Hp → Prop) (h0 : Pv 0 (upd H1 D (.lst []))) (src : ∀ i H, i ≤ ys.length → Pv i H → SqT K H a ys)
    (turn : ∀ i y H p, ys[i]? = some y → Pv i H → H p = Option.none → g (.ref p) (wipe σ vs) (upd H p (.tup [.int (i : Nat), y])) fun σ2 H2 => wipe σ2 vs = wipe σ vs ∧ tt σ2 H2 fun b H3 =>
      if b = true then te σ2 H3 fun y H4 => ∃ acc, H4 D = some (.lst acc) ∧ acc.length < sizeLine ∧ Pv (i + 1) (upd H4 D (.lst (acc ++ [y]))) else Pv (i + 1) H3) (fin : ∀ H, Pv ys.length H → Qd H) :
    ∃ W : Nat → Nat → Hp → Prop, (∃ m, W 0 m (upd H1 D (.lst []))) ∧ ∀ i m H, W i m H →
      ((Itu K a).stop i H ∧ Qd H) ∨ ((Itu K a).go i H ∧ ∃ Nx : Hp → Prop, (∀ H', Nx H' → ∃ m', m' < m ∧ W (i + 1) m' H') ∧ ∀ x H', (Itu K a).yld i H x H' → g x (wipe σ vs) H' fun σ2 H2 => wipe σ2 vs = wipe σ vs ∧ tt σ2 H2 fun b H3 =>
        if b = true then te σ2 H3 fun y H4 => ∃ acc, H4 D = some (.lst acc) ∧ acc.length < sizeLine ∧ Nx (upd H4 D (.lst (acc ++ [y]))) else Nx H3) := by
  refine ⟨fun i m H => m + i = ys.length ∧ Pv i H, ⟨ys.length, Nat.add_zero _, h0⟩, ?_⟩
  rintro i m H ⟨em, pv⟩
  have s := src i H (by omega) pv
  rcases Nat.lt_or_ge i ys.length with lt | ge
  · refine .inr ⟨⟨ys, ys[i], s, List.getElem?_eq_getElem lt⟩, Pv (i + 1), fun H' z => ⟨m - 1, by omega, by omega, z⟩, ?_⟩
    rintro x H' ⟨p, y, rfl, hp, rfl, hy⟩
    exact turn i y H p (hy ys s) pv hp
  · have e : i = ys.length := by omega
    subst e
    exact .inl ⟨⟨ys, s, rfl⟩, fin H pv⟩
/-- sum(t), t a tuple of ints -/
def rSumT (K : PySem.W.Frag) : List V → Hp → VK → Prop := fun vs H Q => ∃ (a : Addr) (zs : List Int), vs = [V.ref a] ∧ SqT K H a (zs.map V.int) ∧ Q (.int zs.sum) H
theorem cr_sumT {X : Cx} (calm : X.calm = true) : CallR X (.builtin "sum") (rSumT X.K) := by
  intro pins sh σ H vs us Q I rel hyp
  obtain ⟨a, zs, rfl, hz, q⟩ := hyp
  rw [Vals.ref1 rel]
  obtain ⟨its, rv, tp, _⟩ := I.tuple hz
  have hT : sh.heap.IsTuple a its.toArray := tp
  have isI : IntsAre its zs := Vals.ints rv
  obtain ⟨xs, ex⟩ := isI.allInts.items
  have en : numsOf (intItems xs).toList = zs := by
    rw [← ex]
    exact isI.numsOf
  rw [nums_intItems] at en
  rw [ex] at hT
  refine PySem.W.ktm_sumG (I.ok.hd calm) hT fun h' tk t' kp => ?_
  rw [preSum_eq, List.take_of_length_le (by simp), en]
  exact ⟨.int zs.sum, H, I.kept kp, ⟨_, rfl⟩, q⟩
/-- enumerate over a list, by a word -/
theorem for_enumL {K : PySem.W.Frag} {a : Addr} {ys : List V} {g : TG} {tb : TS} {D : Ends} {σ : L2.St} {H : Hp} (Pv : Nat → L2.St → Hp → Prop) (h0 : Pv 0 σ H) (src : ∀ i σ H, i ≤ ys.length → Pv i σ H → SqL K H a ys)
    (turn : ∀ i y σ H p, ys[i]? = some y → Pv i σ H → H p = Option.none → g (.ref p) σ (upd H p (.tup [.int (i : Nat), y])) fun σ2 H2 => tb { D with nx := Pv (i + 1), ct := Pv (i + 1), bk := D.nx } σ2 H2) (fin : ∀ σ H, Pv ys.length σ H → D.nx σ H) :
    ∃ W : Nat → Nat → L2.St → Hp → Prop, (∃ m, W 0 m σ H) ∧ ∀ i m σ H, W i m σ H →
      ((Ite K a).stop i H ∧ D.nx σ H) ∨ ((Ite K a).go i H ∧ ∃ N : L2.St → Hp → Prop, (∀ σ' H', N σ' H' → ∃ m', m' < m ∧ W (i + 1) m' σ' H') ∧ ∀ x H', (Ite K a).yld i H x H' → g x σ H' fun σ2 H2 => tb { D with nx := N, ct := N, bk := D.nx } σ2 H2) := by
  refine ⟨fun i m σ H => m + i = ys.length ∧ Pv i σ H, ⟨ys.length, Nat.add_zero _, h0⟩, ?_⟩
  rintro i m σ H ⟨em, pv⟩
  have s := src i σ H (by omega) pv
  rcases Nat.lt_or_ge i ys.length with lt | ge
  · refine .inr ⟨⟨ys, ys[i], s, List.getElem?_eq_getElem lt⟩, Pv (i + 1), fun σ' H' z => ⟨m - 1, by omega, by omega, z⟩, ?_⟩
    rintro x H' ⟨p, y, rfl, hp, rfl, hy⟩
    exact turn i y σ H p (hy ys s) pv hp
  · have e : i = ys.length := by omega
    subst e
    exact .inl ⟨⟨ys, s, Nat.le_refl _⟩, fin σ H pv⟩
/-- k in xs, xs a list of ints -/
theorem inV_ints (zs : List Int) (k : Int) : inV (V.int k) (zs.map V.int) = decide (k ∈ zs) := by
  induction zs with
  | nil => rfl
  | cons a r ih =>
    have e : inV (V.int k) ((a :: r).map V.int) = (eqV (V.int a) (V.int k) || inV (V.int k) (r.map V.int)) := rfl
    rw [e, ih]
    by_cases h : a = k
    · subst h
      simp [eqV]
    · have h' : ¬ k = a := fun z => h z.symm
      simp [eqV, h, h']
theorem flat_ints (zs : List Int) : (zs.map V.int).all flatV = true := by
  rw [List.all_eq_true]
  intro x hx
  obtain ⟨z, _, rfl⟩ := List.mem_map.mp hx
  rfl
end

/-! ### x in a dict of the module, x a text -/
section
open PyProof.Rows
/-- b: whether the dict has the key -/
def KHas (K : PySem.W.Frag) (w : World) (a : Addr) (x : Str) (b : Bool) : Prop := ∃ es n r, K.lookup a = some ⟨.type "dict", none, .dict es n, #[]⟩ ∧ PySem.W.KeysLit w.params es.toList ∧ (a == sysModules) = false ∧ PySem.W.nsIn K a x = some r ∧ b = r.isSome
theorem op_inKd {X : Cx} : OpR X (compareOp .In) (fun x y H Q => ∃ p z b, x = .str z ∧ y = .ref p ∧ KHas X.K X.w p z b ∧ Q (.bl b) H) := by
  intro pins s σ H x y v u Q I rx ry h
  obtain ⟨p, z, b, rfl, rfl, ⟨es, n, r, hl, hk, low, e, rfl⟩, q⟩ := h
  obtain ⟨t, rfl⟩ := rx
  obtain rfl : u = Value.ref p := ry
  refine wpAny_in_of (strKind_is X.prog X.w z t) low (PySem.W.mapOf_K (prog := X.prog) (w := X.w) I.kIn hl hk) ?_
  rw [PySem.W.find_K hl e]
  exact ⟨.bl _, H, I.tok _, rfl, q⟩
theorem op_notInKd {X : Cx} : OpR X (compareOp .NotIn) (fun x y H Q => ∃ p z b, x = .str z ∧ y = .ref p ∧ KHas X.K X.w p z b ∧ Q (.bl (!b)) H) := by
  intro pins s σ H x y v u Q I rx ry h
  obtain ⟨p, z, b, rfl, rfl, ⟨es, n, r, hl, hk, low, e, rfl⟩, q⟩ := h
  obtain ⟨t, rfl⟩ := rx
  obtain rfl : u = Value.ref p := ry
  refine wpAny_notIn_of (strKind_is X.prog X.w z t) low (PySem.W.mapOf_K (prog := X.prog) (w := X.w) I.kIn hl hk) ?_
  rw [PySem.W.find_K hl e]
  exact ⟨.bl _, H, I.tok _, rfl, q⟩
end
section
open PyProof.Rows
theorem nsIn_dict {K : PySem.W.Frag} {P : Params} {a : Addr} {es : Array DictEntry} {n : Nat} (hl : K.lookup a = some ⟨.type "dict", none, .dict es n, #[]⟩) (hk : PySem.W.KeysLit P es.toList) (x : Str) :
    PySem.W.nsIn K a x = some ((es.toList.find? fun d => d.key.isStr x).map (·.val)) := by
  unfold PySem.W.nsIn
  rw [hl]
  cases e : es.toList.find? fun d => d.key.isStr x with
  | some d => simp [e]
  | none =>
    have nr : (es.toList.any fun d => d.refKey) = false := by
      rw [List.any_eq_false]
      intro d hd
      obtain ⟨y, t, e1, _⟩ := hk.all d hd
      unfold DictEntry.refKey
      rw [e1]
      simp
    simp [e, nr]
/-- a dict of the module: its keys, texts, and what stands there -/
structure KTab (K : PySem.W.Frag) (w : World) (a : Addr) (kvs : List (Str × Addr)) : Prop where
  at_ : ∃ es n, K.lookup a = some ⟨.type "dict", none, .dict es n, #[]⟩ ∧ PySem.W.KeysLit w.params es.toList ∧ ∀ x : Str, (es.toList.find? fun d => d.key.isStr x).map (·.val) = (kvs.lookup x).map Value.ref
  low : (a == sysModules) = false
theorem KTab.has {K : PySem.W.Frag} {w : World} {a : Addr} {kvs : List (Str × Addr)} (h : KTab K w a kvs) (x : Str) : KHas K w a x (kvs.lookup x).isSome := by
  obtain ⟨es, n, hl, hk, e⟩ := h.at_
  refine ⟨es, n, _, hl, hk, h.low, nsIn_dict hl hk x, ?_⟩
  rw [e]
  cases kvs.lookup x <;> rfl
theorem KTab.get {K : PySem.W.Frag} {w : World} {a : Addr} {kvs : List (Str × Addr)} (h : KTab K w a kvs) {x : Str} {b : Addr} (hx : kvs.lookup x = some b) : KDct K w a x (.ref b) := by
  obtain ⟨es, n, hl, hk, e⟩ := h.at_
  have q := nsIn_dict hl hk x
  rw [e, hx] at q
  exact ⟨es, n, _, hl, hk, q, rfl⟩
theorem isStr_eq {x y : Str} {t : Tok} : (Value.str y t).isStr x = decide (x = y) := by
  show (y == x) = _
  by_cases h : x = y
  · rw [h, decide_eq_true rfl, beq_self_eq_true]
  · rw [decide_eq_false h, beq_eq_false_iff_ne.mpr fun e => h e.symm]
def TabEs : List DictEntry → List (Str × Addr) → Prop
  | [], [] => True
  | d :: l, kv :: r => (∃ t, d.key = .str kv.1 t ∧ d.val = .ref kv.2) ∧ TabEs l r
  | _, _ => False
theorem find_tab (x : Str) : ∀ {l : List DictEntry} {kvs : List (Str × Addr)}, TabEs l kvs → (l.find? fun d => d.key.isStr x).map (·.val) = (kvs.lookup x).map Value.ref
  | [], [], _ => rfl
  | d :: l, (k, b) :: r, h => by
    obtain ⟨⟨t, e1, e2⟩, hr⟩ := h
    have ih := find_tab x hr
    by_cases c : x = k
    · have c1 : d.key.isStr x = true := by rw [e1, isStr_eq, decide_eq_true c]
      rw [List.find?_cons_of_pos (p := fun d : DictEntry => d.key.isStr x) c1, c]
      simp [List.lookup, e2]
    · have c1 : ¬ d.key.isStr x = true := by rw [e1, isStr_eq, decide_eq_false c]; exact Bool.false_ne_true
      rw [List.find?_cons_of_neg (p := fun d : DictEntry => d.key.isStr x) c1, ih]
      have c2 : (x == k) = false := beq_eq_false_iff_ne.mpr c
      simp [List.lookup, c2]
theorem ktab_mk {K : PySem.W.Frag} {w : World} {a : Addr} {es : Array DictEntry} {n : Nat} {kvs : List (Str × Addr)} (hl : K.lookup a = some ⟨.type "dict", none, .dict es n, #[]⟩) (hk : PySem.W.KeysLit w.params es.toList) (low : (a == sysModules) = false) (he : TabEs es.toList kvs) : KTab K w a kvs :=
  ⟨⟨es, n, hl, hk, fun x => find_tab x he⟩, low⟩
end

/-! ### own errors without an own __init__: caught, asked -/
structure XcC (K : PySem.W.Frag) (D : Addr) : Prop where
  cl : (PySem.W.clsIn K D).isSome = true
  ga : PySem.W.findIn K (.ref D) "__getattribute__" = some (some (.builtin "BaseException.__getattribute__"))
  gt : PySem.W.findIn K (.ref D) "__getattr__" = some Option.none
  sub : PySem.W.subIn K (.ref D) (.type "BaseException") = some true
  has : PySem.W.hasDictIn K D = true
  cls : PySem.W.findIn K (.ref D) "__class__" = some (some (.builtin "object.__class__"))
  get : PySem.W.specialIn K (.builtin "object.__class__") "__get__" = some (some (.builtin "getset_descriptor.__get__"))
  tk : PySem.W.takesIn K (.builtin "object.__class__") = some true
  obj : PySem.W.mroIn K D (.type "object") = some true
def rIsN (K : PySem.W.Frag) (a : Addr) (cls : Value) (d : Option Addr) : List V → Hp → VK → Prop := fun xs H Q => ∃ (D : Addr) (c : V) (cv : Value) (b : Bool), xs = [.ref a, c] ∧ cls = .ref D ∧ d = Option.none ∧ XcC K D ∧ ClsV c cv ∧ PySem.W.kitOne K (.ref D) cv = some b ∧ Q (.bl b) H
theorem call_isN {X : Cx} {a : Addr} {cls : Value} {d : Option Addr} {oe : Obj} {pn : List (Addr × Obj)} (hz : Zc cls d oe) (hf : ∃ vs, oe.data = .fields vs) : CallR (X.suite a ((a, oe) :: pn)) (.builtin "isinstance") (rIsN X.K a cls d) := by
  intro pins sh σ H xs us Q I rel hyp
  obtain ⟨D, c, cv, b, rfl, rfl, rfl, C, hcv, e, q⟩ := hyp
  obtain ⟨u1, u2, rfl, r1, r2⟩ := vals2 rel
  have e2 := hcv.eq r2
  subst e2
  cases r1
  obtain ⟨got, _⟩ := I.pin (a, oe) (List.mem_append_left _ List.mem_cons_self)
  obtain ⟨vs, hv⟩ := hf
  have J : PySem.W.InstAt sh.heap a oe D Option.none := by
    obtain ⟨oc, odd, oda, osl⟩ := oe
    obtain ⟨h1, h2⟩ := hz
    dsimp only at h1 h2 hv
    subst h1 h2 hv
    exact ⟨got, rfl, rfl, trivial⟩
  exact PySem.W.kia_one (PySem.W.kitx_exc C.cl C.ga C.gt C.sub C.cls C.get C.tk C.obj) I.kIn J e (fun z => nomatch z) fun tk => ⟨.bl b, H, I.kept (t' := tk) fun _ _ z => z, rfl, q⟩

/-- e.f where the written part is told -/
theorem pe_fldK {X : Cx} {K : PySem.W.Frag} {e : Expr} {f : Str} {ta : TE} {pos : Pos} (hK : X.K = K) (he : PE X e ta) (hb : attributeBase e f X.env (eval e X.env) = eval e X.env) : PE X (.Attribute e f pos) (tFld K ta f) := by
  subst hK
  exact pe_fld he hb
/-- list(xs) where the written part is told -/
def rListOf (K : PySem.W.Frag) : List V → Hp → VK → Prop := fun zs H Q => ∃ (p : Addr) (ys : List V), zs = [V.ref p] ∧ (SqL K H p ys ∨ SqT K H p ys) ∧ (∀ l : Addr, H l = none → Q (.ref l) (upd H l (.lst ys)))
theorem cr_listK {X : Cx} {K : PySem.W.Frag} (hK : X.K = K) : CallR X (.type "list") (rListOf K) := by
  subst hK
  exact call_list_of
/-- len of a list or tuple where the written part is told -/
def rLenOf (K : PySem.W.Frag) : List V → Hp → VK → Prop := fun zs H Q => ∃ (p : Addr) (ys : List V), zs = [V.ref p] ∧ (SqL K H p ys ∨ SqT K H p ys) ∧ Q (.int (ys.length : Int)) H
theorem cr_lenK {X : Cx} {K : PySem.W.Frag} (hK : X.K = K) : CallR X (.builtin "len") (rLenOf K) := by
  subst hK
  exact call_len_seq
/-- o.m(e, ..), m of a built-in type, where the written part is told -/
theorem pe_bmK {X : Cx} {K : PySem.W.Frag} {T id : String} {name : Str} {r : V → List V → Hp → VK → Prop} {o e : Expr} {es : List Expr} {to : TE} {t : TA} {apos cpos : Pos} (hK : X.K = K) (pa : PySem.PlainAttrs T) (slot : PySem.Slot T name id) (hty : typeOf (.builtin id) = pure (.type "method_descriptor")) (hm : MtR X id r) (ho : PE X o to) (ha : PA X (e :: es) t)
    (hbase : attributeBase o name X.env (eval o X.env) = eval o X.env := by rfl)
    (hfew : ((backTo cpos (starEach (e :: es) X.env)).all (fun x => !x.1) && (backToKw cpos (keywordEach [] X.env)).all (fun x => x.1.isSome)
      && decide ((e :: es).length + ([] : List Keyword).length + (if ([] : List Keyword).isEmpty then 0 else 1) < 30)) = true := by rfl)
    (hline : (apos.endLine == cpos.line) = true := by rfl) (hs : starEach (e :: es) X.env = (false, eval e X.env) :: starEach es X.env := by rfl) (hplain : (backTo cpos (starEach es X.env)).any (·.1) = false := by rfl) :
    PE X (.Call (.Attribute o name apos) (e :: es) [] cpos) (tBM K T r to t) := by
  subst hK
  exact pe_bm pa slot hty hm ho ha hbase hfew hline hs hplain

/-! ### a def called while any exception is handled -/
structure FnW (P : Program) (w : World) (K : PySem.W.Frag) (mg : Str → Option Value) (base : Heap) (k : Nat) (f : Addr) (fd : FuncData) (ps : List Str) (sp : Sp) : Prop where
  len : ∀ vs H Q E, sp vs H Q E → vs.length = ps.length
  run : ∀ (A : Around) (out : List Env) (s : Shared) (H : Hp) (ar : Args) (us : List Value) (vs : List V) (Q : VK) (E : XK) (p : Addr × Obj), L2H.RoomH k A → L2H.PinOk out H s p → Env0 P w K mg base A out s H →
    BindsTo s fd ar (ps.zip us) → Vals vs us → sp vs H Q E → codeAny (model P w) A (.call (.ref f) ar) (CR CX0 out P w H s Q E) s
theorem fun_okW {P : Program} {w : World} {K : PySem.W.Frag} {mg : Str → Option Value} {base : Heap} {x qual : Str} {st : Stmt} {f : Addr} {fd : FuncData} {N ps : List Str} {k : Nat} {sp : Sp} (F : Fun K x qual st f fd) (S : FnScope N ps (defScope st))
    (len : ∀ vs H Q E, sp vs H Q E → vs.length = ps.length)
    (body : ∀ (cdv : Value) (A : Around) (out : List Env) (s : Shared) (H : Hp) (vs : List V) (Q : VK) (E : XK) (p : Addr × Obj), L2H.RoomH k (A.deeper (PyProof.Rows.envOfC qual (defScope st) s.heap.objs.size f cdv)) → sp vs H Q E →
      ∃ t, PSs (L2H.cxH CX0 P w K mg base N qual (defScope st) f cdv A out s H E p) (defBody st) t ∧ t { nx := fun _ H' => Q .non H', rt := Q } (start N vs) H) : FnW P w K mg base (k + 1) f fd ps sp := by
  obtain ⟨oc, od, kV, doc, pm, an, cdv, ct, osl, rfl, lk, hcd⟩ := F.ex
  constructor
  · exact len
  intro A out s H ar us vs Q E p room pin env bind vals want
  have up : ∀ b o, base.get? b = some o → s.heap.get? b = some o := fun b o z => (env.bs b o z).1
  have KX : K.In s.heap := env.mod.kin.keeps up
  have places : ∀ y ∈ ps.zip us, (defScope st).names.lookup y.1 = some .local ∨ ((defScope st).names.lookup y.1 = some .cell ∧ ((cellsFrom (s.heap.objs.size + 1) (defScope st).names []).lookup y.1).isSome = true) := by
    rintro ⟨n, v⟩ hy
    exact (S.par n (List.of_mem_zip hy).1).imp id fun q => ⟨q, PySem.W.cellsFrom_some _ _ _ (.inl q)⟩
  refine codeAny_call_function room.depth (KX _ _ lk) rfl S.co S.gen rfl (PySem.W.codeRec_of KX hcd) (bind _ _ _ _ ?_)
  refine wpAny_newFunctionEnv_cells S.kind places fun e he s1 x => ?_
  cases he
  refine ⟨(env.mod.nolimit.keeps up).keeps x.toInCall.keep, codeAny_func ?_⟩
  obtain ⟨t, ht, hq⟩ := body cdv A out s H vs Q E p (room.deeper _) want
  refine wpAny_mono (ht.run [] s1 _ H _ (L2H.inv_startH S pin env (len _ _ _ _ want) vals x) hq) (fun fl s' got => ?_) fun _ _ z => z
  cases fl with
  | next =>
    obtain ⟨_, H2, J, q⟩ := got
    exact ⟨V.non, H2, J.os, J.bare, J.base, J.hok, rfl, q⟩
  | ret u =>
    obtain ⟨v, _, H2, J, rv, q⟩ := got
    exact ⟨v, H2, J.os, J.bare, J.base, J.hok, rv, q⟩
  | brk => exact got.elim fun _ z => z.elim fun _ z => z.2.elim
  | cont => exact got.elim fun _ z => z.elim fun _ z => z.2.elim
theorem pe_callW {X : Cx} {k : Nat} {f : Addr} {fd : FuncData} {ps : List Str} {sp : Sp} {x : Str} {q pos : Pos} {e : Expr} {es : List Expr} {t : TA} {p : Addr × Obj} (F : FnW X.prog X.w X.K X.mg X.base k f fd ps sp) (room : L2H.RoomH k X.A) (hp : p ∈ X.pn) (hg : Gl X x) (hm : X.mg x = some (.ref f)) (hk : PySem.W.keepIn X.K (.ref f) = true)
    (hb : Binds X.K fd ps []) (ha : PA X (e :: es) t) (hdb : (x == ("__debug__" : Str)) = false := by decide) (he : starEach (e :: es) X.env = (false, eval e X.env) :: starEach es X.env := by rfl) (hpl : (backTo pos (starEach es X.env)).any (·.1) = false := by rfl) :
    PE X (.Call (.Name x q) (e :: es) [] pos) (tCallS sp (fun _ => E0) t) := by
  constructor
  intro pins s σ H Q I want
  refine wpAny_Call_Name_kw (ld_glob I hg hm ?_ hdb)
  refine PySem.W.callWith_K (h₀ := X.base) I.ok.mod.kin hk (thn (ha.run pos pins s σ H _ I want) fun us s1 got => ?_) he hpl
  obtain ⟨vs, H1, I1, vals, ask⟩ := got
  refine ⟨I1.kIn, ?_⟩
  have same : us.length = ps.length := vals.length.symm.trans (F.len _ _ _ _ ask)
  have bind := hb s1 us I1.kIn ((congrArg List.length (List.append_nil us)).trans same)
  rw [List.append_nil] at bind
  have at1 := I1.pin p (List.mem_append_left _ hp)
  have pin : L2H.PinOk X.stack H1 s1 p := by
    refine ⟨at1.1, at1.2.1, fun hmm => ?_, at1.2.2.2.2⟩
    rcases List.mem_cons.mp (I1.stkSub p.1 hmm) with z | z
    · exact at1.2.2.1 z
    · exact at1.2.2.2.1 z
  refine wpAny_call (codeAny_mono (F.run X.A X.stack s1 H1 ⟨us, []⟩ us vs Q E0 p room pin I1.env0 bind vals ask) fun r s2 fin => ?_)
  cases r with
  | error z => exact (fin : False).elim
  | ok fl =>
    cases fl with
    | ret u => exact I1.after fin
    | next => exact (fin : False).elim
    | brk => exact (fin : False).elim
    | cont => exact (fin : False).elim

/-! ### x, *xs = t, t a tuple -/
section
open PyProof.Rows
def gStarT (K : PySem.W.Frag) (t : TGs) : TG := fun v σ H Q => ∃ a x xs, v = .ref a ∧ SqT K H a (x :: xs) ∧ xs.length ≤ 1000 ∧ ∀ p, H p = none → t [x, .ref p] σ (_root_.L2.upd H p (.lst xs)) Q
theorem pg_starT {X : Cx} {e1 e2 : Expr} {k : Nat} {p2 pos : Pos} {t : TGs} (hc : X.calm = true) (h : PGs X [e1, e2] t)
    (hs : (assignEach [e1, .Starred e2 p2] X.env).map (·.2) = (assignEach [e1, e2] X.env).map (·.2) := by rfl) (hn : (assignEach [e1, .Starred e2 p2] X.env).length = 2 := by rfl)
    (hst : (assignEach [e1, .Starred e2 p2] X.env).findIdx? (·.1) = some 1 := by rfl) : PG X (.Tuple [e1, .Starred e2 p2] k pos) (gStarT X.K t) := by
  refine ⟨fun pins s σ H v u Q I r hw => ?_⟩
  obtain ⟨a, x, xs, e, hq, hl, hw⟩ := hw
  subst e
  cases r
  obtain ⟨its, rv, ht, hz⟩ := I.tuple hq
  cases its with
  | nil => cases rv
  | cons y ys =>
  have rx : RelV x y := by cases rv; assumption
  have rxs : Vals xs ys := by cases rv; assumption
  have hhd := I.ok.hd hc
  have lys := rxs.length
  rw [assign_Tuple]
  refine wpAny_bind (wpAny_standAt ?_)
  unfold unpack
  rw [hn, hst]
  refine wpAny_bind (wpAny_holding ?_)
  have hlt : a ≠ s.heap.objs.size := by obtain ⟨o, ho, _⟩ := ht; exact Nat.ne_of_lt (Heap.lt_size ho)
  unfold unpackItems
  refine wpAny_bind ?_
  unfold notIterableAtAll
  refine wpAny_bind (wpAny_specialOf ht.typeIs slot_tuple_iter.lookup ?_)
  refine wpAny_pure ?_
  simp only [Bool.false_eq_true, if_false]
  refine wpAny_bind (wpAny_holding (iter_tuple ht ?_))
  have h1z : (y :: ys).toArray.size = ys.length + 1 := by simp
  refine wpAny_bind (wpAny_holding (draw_tuple hlt 1 0 _ _ ⟨_, Heap.get?_push_size _ rfl, rfl, rfl⟩ (ht.push _) (by rw [h1z]; omega) fun h₁ hit₁ hs₁ => ?_))
  have hl₁ : IsTup h₁ a (y :: ys).toArray := (ht.push _).extBut hs₁.extBut hlt
  rw [Nat.zero_add] at hit₁
  obtain ⟨oi, hoi, _⟩ := id hit₁
  obtain ⟨ol, hol, _⟩ := id hl₁
  rw [List.drop_zero]
  have e1 : (y :: ys).toArray.toList.take 1 = [y] := rfl
  rw [e1]
  rw [if_neg (show ¬ ([y].length < 1) by simp)]
  refine wpAny_bind (wpAny_holding (PySem.W.kun_collect (s := { s with heap := h₁ }) (T := "tuple_iterator") (.inr (.inr (.inr rfl))) (Walks.tuple (A := X.A.in1) hhd s.heap.objs.size a hlt (y :: ys).toArray) (fun j u st => st.1.typeIs) (k := 1) (by rw [h1z]; omega) ⟨hit₁, hl₁⟩ (Heap.lt_size hoi) (Heap.lt_size hol) (fun h₂ tk hk => ?_) (by rw [h1z, sizeLine_eq]; omega)))
  have e2 : (y :: ys).toArray.toList.drop 1 = ys := rfl
  rw [e2]
  rw [if_neg (show ¬ (ys.length < 2 - 1 - 1) by omega)]
  have e3 : ys.take (ys.length - (2 - 1 - 1)) = ys := by simp
  have e4 : ys.drop (ys.length - (2 - 1 - 1)) = [] := by simp
  rw [e3, e4]
  have he : ∀ b o, s.heap.get? b = some o → h₂.get? b = some o := fun b o e => by
    have hb : b ≠ s.heap.objs.size := Nat.ne_of_lt (Heap.lt_size e)
    exact hk b o hb (hs₁.extBut b o hb (Heap.get?_push_of_some _ e))
  have I1 : Inv X pins σ H { s with heap := h₂, toks := tk } := I.kept he
  refine wpAny_bind (wpAny_newList (wpAny_pure ?_) (by rw [← lys, sizeLine_eq]; omega))
  have I2 : Inv X pins σ (upd H h₂.objs.size (.lst xs)) { s with heap := h₂.push { cls := .type "list", data := .seq ys.toArray }, toks := tk } :=
    I1.laid (t' := tk) (fun b o g => Heap.get?_push_of_some _ g) (Nat.le_refl _) ⟨by rw [sizeLine_eq]; omega, ys, 0, rxs, Heap.get?_push_size _ rfl⟩
  rw [hs]
  exact h.run pins _ σ _ [x, .ref h₂.objs.size] _ Q I2 (.cons rx (.cons rfl .nil)) (hw _ (I1.hok.fresh (Nat.le_refl _)))
end

/-! ### sorted(a list of ints), of any length -/
def rSortIs (K : PySem.W.Frag) : List V → Hp → VK → Prop := fun vs H Q => ∃ (l : Addr) (zs : List Int), vs = [V.ref l] ∧ SqL K H l (zs.map V.int) ∧
  ∀ (ys : List Int) (p : Addr), ys.Perm zs → ys.Pairwise (· ≤ ·) → H p = none → Q (.ref p) (upd H p (.lst (ys.map V.int)))
theorem cr_sortIs {X : Cx} : CallR X (.builtin "sorted") (rSortIs X.K) := by
  intro pins sh σ H vs us Q I rel want
  obtain ⟨l, zs, rfl, there, fin⟩ := want
  obtain ⟨its, rv, pl, few⟩ := I.list there
  rw [Vals.ref1 rel]
  have isI := rv.ints
  have same := rv.length
  refine PyProof.Rows.sorted_intsAny pl.isList isI (by rw [← same]; exact few) fun out ys h1 h2 h3 => ?_
  obtain ⟨ep, at2⟩ := PyProof.Rows.sortedAll_at sh.heap its out
  have len : (ys.map V.int).length ≤ sizeLine := by
    rw [List.length_map, h2.length_eq]
    rw [List.length_map] at few
    exact few
  exact ⟨.ref _, upd H (sh.heap.objs.size + 1) (.lst (ys.map V.int)), I.laid (t' := sh.toks) (fun _ _ => PyProof.Rows.sortedAll_old) (Nat.le_succ _) ⟨len, out.toList, ep, vals_of_ints h1, at2⟩, rfl, fin ys _ h2 h3 (I.hok.fresh (Nat.le_succ _))⟩
/-- sorted(a dict whose keys are ints), of any length -/
def rSortDs : List V → Hp → VK → Prop := fun vs H Q => ∃ (d : Addr) (es : List (Key × V)) (zs : List Int), vs = [V.ref d] ∧ Rd H d (.dK es) ∧ es.map (·.1) = zs.map Sum.inl ∧
  ∀ (ys : List Int) (p : Addr), ys.Perm zs → ys.Pairwise (· ≤ ·) → H p = none → Q (.ref p) (upd H p (.lst (ys.map V.int)))
theorem cr_sortDs {X : Cx} (calm : X.calm = true) : CallR X (.builtin "sorted") rSortDs := by
  intro pins sh σ H vs us Q I rel want
  obtain ⟨d, es, zs, rfl, there, keys, fin⟩ := want
  rw [Vals.ref1 rel]
  obtain ⟨few, low, vals, kv, dict⟩ := dk_rd I.hok there
  obtain ⟨ep, at1⟩ := dict.dictAt
  have kk : vals.map (·.1) = zs.map Sum.inl := kv.keys.symm.trans keys
  have same : vals.length = zs.length := by
    have e := congrArg List.length kk
    rw [List.length_map, List.length_map] at e
    exact e
  have few2 : vals.length ≤ sizeLine := by rw [← kv.length]; exact few
  refine Calls.call_function_entry PyProof.Rows.kind_sorted PyProof.Rows.plain_sorted PyProof.Rows.entry_sorted (PyProof.Rows.args_sorted1 _) ?_
  unfold Builtin.«sorted»
  refine wpAny_bind (m := checkCount "sorted" 1 1 _) (wpAny_pure ?_)
  refine wpAny_bind (PySem.W.kdu_collect (A := X.A.in1) (PySem.W.kdl_dict (knd := mixKind X.prog X.w) (kvs := vals) (ep := ep) low) (I.ok.hd calm) at1 few2 fun h2 tk acc keep got => ?_)
  have la : acc.toList.length = zs.length := by rw [Array.length_toList, got.1, same]
  have isI : PyProof.Rows.IntsAre acc.toList zs := ints_each la fun j v e => by
    obtain ⟨k, x, e1, e2⟩ := got.2 j v (by rw [← Array.getElem?_toList]; exact e)
    have e3 : (vals.map (·.1))[j]? = some k := by rw [List.getElem?_map, e1]; rfl
    rw [kk, List.getElem?_map] at e3
    cases e4 : zs[j]? with
    | none => rw [e4] at e3; cases e3
    | some y =>
      rw [e4] at e3
      obtain rfl : Sum.inl y = k := Option.some.inj e3
      rcases keyIs_shape (show keyIs (Sum.inl y) v = true from e2) with ⟨i, t, ek, ev⟩ | ⟨z, t, ek, ev⟩
      · cases ek
        exact ⟨y, t, rfl, ev⟩
      · cases ek
  have fewA : acc.toList.length ≤ sizeLine := by rw [la, ← same]; exact few2
  have I1 : L2.Inv X pins σ H { sh with heap := h2, toks := tk } := I.kept keep
  refine wpAny_bind (wpAny_newList ?_ fewA)
  have at2 : (h2.push (PyProof.Rows.seqObj "list" acc.toList.toArray 0)).get? h2.objs.size = some (PyProof.Rows.seqObj "list" acc.toList.toArray 0) := Heap.get?_push_size _ rfl
  show wpAny _ _ _ _ _ { sh with heap := h2.push (PyProof.Rows.seqObj "list" acc.toList.toArray 0), toks := tk }
  refine wpAny_bind (wpAny_holding (wpAny_call_entry PyProof.Rows.slot_list_sort ⟨_, at2, rfl⟩ PyProof.Rows.entry_list_sort
    (PyProof.Rows.list_sort_treeAny (s := { sh with heap := h2.push (PyProof.Rows.seqObj "list" acc.toList.toArray 0), toks := tk }) at2 isI fewA fun out ys g1 g2 g3 => ⟨_, rfl, ?_⟩) (PyProof.Rows.args_list_sort _)))
  obtain ⟨c, at3⟩ := PyProof.Rows.sortedHeap_at (vs := acc.toList) (out := out) at2
  have len : (ys.map V.int).length ≤ sizeLine := by
    rw [List.length_map, g2.length_eq, ← same]
    exact few2
  refine wpAny_pure ⟨_, rfl, .ref h2.objs.size, upd H h2.objs.size (.lst (ys.map V.int)), I1.laid (t' := tk) (fun b u e => ?_) (Nat.le_refl _)
    ⟨len, out.toList, c, vals_of_ints g1, at3⟩, rfl, fin ys _ g2 g3 (I1.hok.fresh (Nat.le_refl _))⟩
  have lt : b < h2.objs.size := Heap.lt_size e
  rw [PyProof.Rows.sortedHeap_old (Nat.ne_of_lt lt) (by rw [PyProof.Rows.size_push']; exact Nat.lt_succ_of_lt lt)]
  exact Heap.get?_push_of_some _ e

/-! ### a tuple times nought -/
section
open PyProof.Rows
theorem tuple_mul0 (l : Addr) (items : Array Value) (n : Nat) (dd : Option Addr) (sl : Array (Option Value)) (u : Tok) (c1 : (items.isEmpty || (0 : Int) == 1) = false) :
    Meets (Builtin.«tuple.__mul__» ⟨[.ref l, .int 0 u], []⟩) (fun _ R s => s.heap.get? l = some { cls := .type "tuple", dict := dd, data := .seq items n, slots := sl } ∧
      R (.ok (.ret (Value.ref s.heap.objs.size))) { s with heap := s.heap.push { cls := Value.type "tuple", data := Data.seq #[] }, toks := s.toks }) :=
  .of_wp fun prog w A R s h => by
    obtain ⟨hp, g, d, tk, os⟩ := s
    obtain ⟨hl, h⟩ := h
    have f1 := AutoSeq1.idx_int
    have c0 : (decide ((0 : Int) < -(2 ^ 63)) || decide ((0 : Int) ≥ 2 ^ 63)) = false := by decide
    have c2 : (decide ((0 : Int) ≤ 0) || items.isEmpty) = true := rfl
    wp_walk using wpAny_loadPart' hl
    repeat (first
      | (refine wpAny_ite_false (decide_eq_false (by rw [c0]; exact Bool.false_ne_true)) ?_; wp_walk using wpAny_loadPart' hl)
      | (refine wpAny_ite_false (decide_eq_false (by rw [c1]; exact Bool.false_ne_true)) ?_; wp_walk using wpAny_loadPart' hl)
      | (refine wpAny_ite_true (decide_eq_true (by rw [c2])) ?_; wp_walk using wpAny_loadPart' hl))
    exact ⟨_, rfl, h⟩
def rRepT0 (K : PySem.W.Frag) : R2 := fun x y H Q => ∃ l xs, x = .ref l ∧ y = .int 0 ∧ SqT K H l xs ∧ xs ≠ [] ∧ ∀ p, H p = none → Q (.ref p) (_root_.L2.upd H p (.tup []))
theorem op_repT0 {X : Cx} : OpR X (binaryOp .Mult) (rRepT0 X.K) := by
  intro pins s σ H x y v u Q I rx ry h
  obtain ⟨l, xs, rfl, rfl, hT, hne, q⟩ := h
  cases rx
  obtain ⟨t, rfl⟩ := ry
  obtain ⟨its, r, ⟨⟨cls, dd, data, sl⟩, ho, hc, n, hd⟩, hs⟩ := I.tuple hT
  simp only at hc hd
  subst hc hd
  have hle : its.length = xs.length := r.length.symm
  have hn : its ≠ [] := fun e => hne (by
    rw [e] at hle
    exact List.eq_nil_of_length_eq_zero hle.symm)
  have hi : its.toArray.isEmpty = false := by
    cases its with
    | nil => exact absurd rfl hn
    | cons a b => rfl
  have c1 : (its.toArray.isEmpty || (0 : Int) == 1) = false := by
    rw [hi, Bool.false_or]
    rfl
  refine wpAny_binaryOp_repeat_ref (T := "tuple") (U := "int") (by decide) ⟨_, ho, rfl⟩ (fun s' => typeIs_int s' 0 t) noFill_tuple_mul F.fills_int_mul F.slot_int_rmul repeat_tuple F.slot_int_index.lookup
    (call_meets F.slot_int_rmul (typeIs_int s 0 t) F.entry_int_rmul (F.args_int_rmul_2 _ _) (int_rmul_tuple 0 t l its.toArray n dd sl)
      ⟨ho, rfl, ⟨_, ho, rfl⟩, call_meets F.slot_tuple_mul ⟨_, ho, rfl⟩ F.entry_tuple_mul (F.args_tuple_mul_2 _ _) (tuple_mul0 l its.toArray n dd sl t c1) ⟨ho, ?_⟩⟩)
  refine ⟨.ref s.heap.objs.size, _, I.laid (t' := s.toks) (o := .tup []) (fun b ob q => Heap.get?_push_of_some _ q) (Nat.le_refl _) ?_, rfl, q _ (I.hok.fresh (Nat.le_refl _))⟩
  exact ⟨(by show 0 ≤ sizeLine; decide), [], .nil, IsTup.new _ _⟩
end

/-! ### a tuple times 0, 1 or more -/
section
open PyProof.Rows
theorem tuple_mul1 (l : Addr) (items : Array Value) (n : Nat) (dd : Option Addr) (sl : Array (Option Value)) (u : Tok) :
    Meets (Builtin.«tuple.__mul__» ⟨[.ref l, .int 1 u], []⟩) (fun _ R s => s.heap.get? l = some { cls := .type "tuple", dict := dd, data := .seq items n, slots := sl } ∧ R (.ok (.ret (.ref l))) s) :=
  .of_wp fun prog w A R s h => by
    obtain ⟨hp, g, d, tk, os⟩ := s
    obtain ⟨hl, h⟩ := h
    have f1 := AutoSeq1.idx_int
    have c0 : (decide ((1 : Int) < -(2 ^ 63)) || decide ((1 : Int) ≥ 2 ^ 63)) = false := by decide
    have c1 : (items.isEmpty || (1 : Int) == 1) = true := by rw [show ((1 : Int) == 1) = true from rfl, Bool.or_true]
    have hT : Shared.TypeIs ⟨hp, g, d, tk, os⟩ (.ref l) "tuple" := ⟨_, hl, rfl⟩
    wp_walk using wpAny_loadPart' hl, wpAny_typeOf hT
    repeat (first
      | (refine wpAny_ite_false (decide_eq_false (by rw [c0]; exact Bool.false_ne_true)) ?_; wp_walk using wpAny_loadPart' hl, wpAny_typeOf hT)
      | (refine wpAny_ite_true (decide_eq_true (by rw [c1])) ?_; wp_walk using wpAny_loadPart' hl, wpAny_typeOf hT))
    all_goals first | exact h | exact ⟨_, rfl, h⟩
def rRepA (K : PySem.W.Frag) : R2 := fun x y H Q => ∃ l k xs, x = .ref l ∧ y = .int k ∧ SqT K H l xs ∧ xs ≠ [] ∧ 0 ≤ k ∧ k ≤ 1000 ∧ xs.length ≤ 1000 ∧
  (k = 1 → Q (.ref l) H) ∧ (k ≠ 1 → ∀ p, H p = none → Q (.ref p) (_root_.L2.upd H p (.tup (List.replicate k.toNat xs).flatten)))
theorem op_repA {X : Cx} : OpR X (binaryOp .Mult) (rRepA X.K) := by
  intro pins s σ H x y v u Q I rx ry h
  obtain ⟨l, k, xs, rfl, rfl, hT, hne, k0, k1, lx, q1, q2⟩ := h
  by_cases c0 : k = 0
  · subst c0
    exact op_repT0 pins s σ H _ _ v u Q I rx ry ⟨l, xs, rfl, rfl, hT, hne, q2 (by decide)⟩
  by_cases c1 : k = 1
  · subst c1
    cases rx
    obtain ⟨t, rfl⟩ := ry
    obtain ⟨its, r, ⟨⟨cls, dd, data, sl⟩, ho, hc, n, hd⟩, hs⟩ := I.tuple hT
    simp only at hc hd
    subst hc hd
    exact wpAny_binaryOp_repeat_ref (T := "tuple") (U := "int") (by decide) ⟨_, ho, rfl⟩ (fun s' => typeIs_int s' 1 t) noFill_tuple_mul F.fills_int_mul F.slot_int_rmul repeat_tuple F.slot_int_index.lookup
      (call_meets F.slot_int_rmul (typeIs_int s 1 t) F.entry_int_rmul (F.args_int_rmul_2 _ _) (int_rmul_tuple 1 t l its.toArray n dd sl)
        ⟨ho, rfl, ⟨_, ho, rfl⟩, call_meets F.slot_tuple_mul ⟨_, ho, rfl⟩ F.entry_tuple_mul (F.args_tuple_mul_2 _ _) (tuple_mul1 l its.toArray n dd sl t) ⟨ho, ⟨.ref l, H, I, rfl, q1 rfl⟩⟩⟩)
  · exact op_repT pins s σ H _ _ v u Q I rx ry ⟨l, k, xs, rfl, rfl, hT, hne, by omega, k1, lx, q2 c1⟩
/-- a tuple times a number: somewhere the tuple lies -/
def rRepB : R2 := fun x y H Q => ∃ l k xs, x = .ref l ∧ y = .int k ∧ H l = some (.tup xs) ∧ xs ≠ [] ∧ 0 ≤ k ∧ k ≤ 1000 ∧ xs.length ≤ 1000 ∧ ∀ p H', Same H H' → H' p = some (.tup (List.replicate k.toNat xs).flatten) → Q (.ref p) H'
theorem op_repB {X : Cx} : OpR X (binaryOp .Mult) rRepB := by
  intro pins s σ H x y v u Q I rx ry h
  obtain ⟨l, k, xs, ex, ey, hT, hne, k0, k1, lx, q⟩ := h
  refine op_repA pins s σ H x y v u Q I rx ry ⟨l, k, xs, ex, ey, SqT.of hT, hne, k0, k1, lx, fun e => q l H (Same.refl H) ?_, fun _ p hp => q p _ (same_new hp) upd_same⟩
  rw [hT, e]
  show _ = some (HO.tup (xs ++ []))
  rw [List.append_nil]
end

/-! ### many new objects at once -/
section
open PyProof.Rows
variable {X : Cx}
theorem inv_more {pins : List (Addr × Obj)} {σ : L2.St} {H H' : Hp} {s : Shared} {h' : Heap} {tk : Nat} (I : L2.Inv X pins σ H s) (k : ∀ b o, s.heap.get? b = some o → h'.get? b = some o)
    (old : ∀ b, b < s.heap.objs.size → H' b = H b) (new : ∀ b o, s.heap.objs.size ≤ b → H' b = some o → ObjOk X.prog X.w H' h' b o) : L2.Inv X pins σ H' { s with heap := h', toks := tk } := by
  have on : ∀ b o, H b = some o → H' b = some o := fun b o e => by rw [old b (I.hok b o e).lt]; exact e
  refine L2.Inv.call' (ch := []) I rfl ?_ (fun b o e => ?_) I.bare (fun b z => absurd z List.not_mem_nil)
  · exact { keep := fun b o e _ _ _ => k b o e, slot := fun b o e _ _ _ => ⟨o.slots, k b o e⟩, free := fun b o e n _ => (old b (Heap.lt_size e)).trans n, there := fun b o e _ => ⟨o, k b o e⟩,
            tups := fun b xs => on b _, frzs := fun b o u => on b _, tbls := fun b ps e => ⟨#[], by rw [Array.append_empty]; exact on b _ e⟩ }
  · rcases Nat.lt_or_ge b s.heap.objs.size with lt | ge
    · rw [old b lt] at e
      exact (I.hok b o e).stay (fun c u _ => k c u) (fun c => on c _) fun c xs => on c _
    · exact new b o ge e
end
/-! ### dict(t), t a tuple of pairs whose object is known -/
section
open PyProof.Rows
theorem vals_pairs {X : Cx} {pins : List (Addr × Obj)} {σ : L2.St} {H : Hp} {s : Shared} (I : L2.Inv X pins σ H s) : ∀ {ps : List Addr} {kvs : List (Key × V)}, Paired (fun p kv => SqT X.K H p [kV kv.1, kv.2]) ps kvs →
    ∃ (rs : List (Key × Value)) (vs : List (Value × Value)), KV kvs rs ∧ rs.length = ps.length ∧ vs.length = ps.length ∧
      ∀ (j : Nat) (u y : Value), vs[j]? = some (u, y) → ∃ b k, ps[j]? = some b ∧ IsTup s.heap b #[u, y] ∧ rs[j]? = some (k, y) ∧ keyIs k u = true
  | _, _, .nil => ⟨[], [], .nil, rfl, rfl, fun _ _ _ e => nomatch e⟩
  | _, _, .cons (a := a) (b := q) h t => by
    obtain ⟨rs, vs, r, l1, l2, at'⟩ := vals_pairs I t
    obtain ⟨its, rv, here, _⟩ := I.tuple h
    obtain ⟨u, y, ei, ru, ry⟩ := vals2 rv
    subst ei
    refine ⟨(q.1, y) :: rs, (u, y) :: vs, .cons ⟨rfl, ry⟩ r, congrArg (· + 1) l1, congrArg (· + 1) l2, fun j u' y' e => ?_⟩
    cases j with
    | zero =>
      cases e
      exact ⟨a, q.1, rfl, here, rfl, kV_is (P := X.prog) (w := X.w) ru⟩
    | succ j => exact at' j u' y' e
def rDictPT (K : PySem.W.Frag) : List V → Hp → VK → Prop := fun xs H Q => ∃ (a : Addr) (o : Obj) (ps : List Addr) (kvs : List (Key × V)), xs = [.ref a] ∧ H a = some (.frz o (.tup (ps.map V.ref))) ∧ o.dict = none ∧ Paired (fun p kv => SqT K H p [kV kv.1, kv.2]) ps kvs ∧
    ∀ p, H p = none → Q (.ref p) (upd H p (.dK (mergeK [] kvs)))
theorem call_dictPT {X : Cx} (calm : X.calm = true) : CallR X (.type "dict") (rDictPT X.K) := by
  intro pins s σ H xs us Q I r want
  obtain ⟨a, o, ps, kvs, rfl, there, bare, pairs, fin⟩ := want
  rw [Vals.ref1 r]
  obtain ⟨ho, hz, its, rv, o2, ho2, hc, n, hdat⟩ := I.hok a _ there
  rw [ho] at ho2
  cases ho2
  have ei := refs_at rv
  subst ei
  rw [List.length_map] at hz
  obtain ⟨rs, vs, rel, l1, l2, at'⟩ := vals_pairs I pairs
  have big : (s.heap.objs.size == sysModules) = false := beq_eq_false_iff_ne.mpr (Nat.ne_of_gt I.big)
  have len : (mergeK [] kvs).length ≤ sizeLine := Nat.le_trans (length_mergeK kvs []) (by rw [rel.length, l1]; exact Nat.le_trans (Nat.le_of_eq (Nat.zero_add _)) hz)
  refine PySem.call_dict_pairs (knd := mixKind X.prog X.w) (kvs := rs) (PySem.PairArg.tuple a (ps.map Value.ref).toArray (fun j => ps.getD j 0) vs) (I.ok.hd calm) ⟨⟨o, n, ho, hc, bare, hdat⟩, by simp [l2], fun j u y e => ?_⟩ ⟨l1.trans l2.symm, fun j u y e => ?_⟩ (by rw [l2]; exact hz) fun h' tk dict keep => ?_
  · obtain ⟨b, k, e1, e2, _⟩ := at' j u y e
    have eb : ps.getD j 0 = b := by rw [List.getD_eq_getElem?_getD, e1]; rfl
    exact ⟨by simp [e1, eb], .inl (by show IsTup s.heap (ps.getD j 0) #[u, y]; rw [eb]; exact e2)⟩
  · obtain ⟨b, k, _, _, e3, e4⟩ := at' j u y e
    exact ⟨k, e3, e4⟩
  · exact ⟨.ref s.heap.objs.size, upd H s.heap.objs.size (.dK (mergeK [] kvs)), I.laid (t' := tk) (fun b u e => keep b u List.not_mem_nil e) (Nat.le_refl _) ⟨len, big, merged [] rs, KV.merge rel .nil, dict⟩, rfl, fin _ (I.hok.fresh (Nat.le_refl _))⟩
end
/-! ### tuple(d.items()) -/
section
open PyProof.Rows
/-- where the pairs lie -/
def pairsH (H : Hp) (as : List Addr) (kvs : List (Key × V)) : Hp := fun b => match (as.zip kvs).find? (fun x => decide (x.1 = b)) with
  | some x => some (.tup [kV x.2.1, x.2.2])
  | none => H b
theorem find_zip : ∀ {as : List Addr} {kvs : List (Key × V)} {j : Nat} {b : Addr} {q : Key × V}, as.Nodup → as[j]? = some b → kvs[j]? = some q → (as.zip kvs).find? (fun x => decide (x.1 = b)) = some (b, q)
  | [], _, j, b, q, _, h, _ => nomatch h
  | _ :: _, [], j, b, q, _, _, h => nomatch h
  | a :: as, p :: kvs, 0, b, q, _, h1, h2 => by
    cases h1
    cases h2
    rw [List.zip_cons_cons, List.find?_cons]
    show (match decide (a = a) with | true => some (a, p) | false => _) = _
    rw [decide_eq_true rfl]
  | a :: as, p :: kvs, j + 1, b, q, nd, h1, h2 => by
    have nd := List.nodup_cons.mp nd
    have ne : a ≠ b := fun e => nd.1 (by rw [e]; exact List.mem_of_getElem? (show as[j]? = some b from h1))
    rw [List.zip_cons_cons, List.find?_cons]
    show (match decide (a = b) with | true => some (a, p) | false => _) = _
    rw [decide_eq_false ne]
    exact find_zip nd.2 h1 h2
theorem find_off {as : List Addr} {kvs : List (Key × V)} {b : Addr} (h : b ∉ as) : (as.zip kvs).find? (fun x => decide (x.1 = b)) = none :=
  List.find?_eq_none.mpr fun x hx e => h (by rw [← of_decide_eq_true e]; exact (List.of_mem_zip (by simpa using hx)).1)
theorem pairsH_off {H : Hp} {as : List Addr} {kvs : List (Key × V)} {b : Addr} (h : b ∉ as) : pairsH H as kvs b = H b := by
  unfold pairsH
  rw [find_off h]
theorem tup_new_items {prog : Program} {w : World} {A : Around} {E : Value → Shared → Prop} {s : Shared} {knd : KeyKind prog w Key} {kvs : List (Key × Value)} {r d : Addr} {ep : Nat} {Q₁ : Value → Shared → Prop} (hh : A.handled = none) (hv : s.heap.IsItemsView r d) (hm : s.heap.DictAt knd d kvs ep) (hn : kvs.length ≤ sizeLine)
    (want : ∀ h' tk (as : List Addr), (∀ b o, s.heap.get? b = some o → h'.get? b = some o) → as.length = kvs.length → PySem.W.KdxG knd kvs s.heap.objs.size h' as →
      Q₁ (.ref h'.objs.size) { s with heap := h'.push { cls := .type "tuple", data := .seq (as.map Value.ref).toArray }, toks := tk }) :
    codeAny (model prog w) A (.call (.builtin "tuple.__new__") ⟨[.type "tuple", .ref r], []⟩) (wants Q₁ E) s := by
  refine codeAny_of_tree ?_
  refine wpAny_bind (m := checkBuiltinCall "tuple.__new__" _) (wpAny_of_eq (PySem.F.newCall_tuple_1 _) (wpAny_pure ⟨plainId_quiet PySem.F.plain_tuple_new _, codeAny_builtin PySem.F.entry_tuple_new ?_⟩))
  rw [Around.under_plainId PySem.F.plain_tuple_new _]
  have g1 := sub_tuple_self
  have g2 := init_tuple_lookup
  have g3 := madeHere_tuple
  obtain ⟨ov, hov, hcv, hdv⟩ := id hv
  have ty : s.TypeIs (.ref r) "dict_items" := ⟨ov, hov, hcv⟩
  obtain ⟨hp, gg, dd, tt, os⟩ := s
  wp_walk using wpAny_typeOf ty, PySem.W.kdx_collect (A := A.in1) (knd := knd) (kvs := kvs) (ep := ep) (show A.in1.handled = none from hh) hv hm hn
  intro h' tk as keep len pairs
  show wpAny _ _ (Builtin.Tuple.tupleExact (as.map Value.ref).toArray >>= fun v => ret v) _ _ _
  unfold Builtin.Tuple.tupleExact
  refine wpAny_bind (wpAny_newObj_type ?_ (by show (as.map Value.ref).toArray.size ≤ sizeLine; simp [len, hn]))
  exact wpAny_pure (want h' tk as keep len pairs)
theorem call_tup_items {prog : Program} {w : World} {A : Around} {E : Value → Shared → Prop} {s : Shared} {knd : KeyKind prog w Key} {kvs : List (Key × Value)} {r d : Addr} {ep : Nat} {Q : Value → Shared → Prop} (hh : A.handled = none) (hv : s.heap.IsItemsView r d) (hm : s.heap.DictAt knd d kvs ep) (hn : kvs.length ≤ sizeLine)
    (want : ∀ h' tk (as : List Addr), (∀ b o, s.heap.get? b = some o → h'.get? b = some o) → as.length = kvs.length → PySem.W.KdxG knd kvs s.heap.objs.size h' as →
      Q (.ref h'.objs.size) { s with heap := h'.push { cls := .type "tuple", data := .seq (as.map Value.ref).toArray }, toks := tk }) :
    wpAny (model prog w) A (call (.type "tuple") [.ref r]) Q E s := by
  refine callType_codes (Q₁ := fun obj s₁ => s₁.TypeIs obj "tuple" ∧ Q obj s₁) PySem.F.called_tuple (PySem.F.typeCall_tuple_1 _) PySem.F.entry_object_init
    (tup_new_items (A := A.in1) hh hv hm hn fun h' tk as k1 k2 k3 => ⟨⟨_, Heap.get?_push_size _ rfl, rfl⟩, want h' tk as k1 k2 k3⟩) fun obj s₁ z => ?_
  exact ⟨z.1, PySem.F.args_object_init_2 obj _, object_init_meets PySem.F.called_tuple.init.lookup PySem.F.called_tuple.made (by decide) prog w A.in1 _ s₁ ⟨z.1, rfl, z.2⟩⟩
def rTupItems : V → Hp → VK → Prop := fun x H Q => ∃ (d : Addr) (kvs : List (Key × V)), x = .ref d ∧ H d = some (.dK kvs) ∧
  ∀ (H' : Hp) (p : Addr) (o : Obj) (ts : List Addr), Same H H' → H p = none → o.dict = none → H' p = some (.frz o (.tup (ts.map V.ref))) → Paired (fun (t : Addr) (q : Key × V) => H' t = some (.tup [kV q.1, q.2])) ts kvs → Q (.ref p) H'
def tTupItems (te : TE) : TE := fun σ H Q => te σ H fun x H1 => rTupItems x H1 Q
theorem pairsH_all {H : Hp} : ∀ {as : List Addr} {kvs : List (Key × V)}, as.length = kvs.length → as.Nodup → ∀ all : List Addr, ∀ alk : List (Key × V), all.Nodup → (∀ (j : Nat) (b : Addr), as[j]? = some b → ∃ i : Nat, all[i]? = some b ∧ alk[i]? = kvs[j]?) → Paired (fun (t : Addr) (q : Key × V) => pairsH H all alk t = some (.tup [kV q.1, q.2])) as kvs
  | [], [], _, _, _, _, _, _ => .nil
  | [], _ :: _, h, _, _, _, _, _ => nomatch h
  | _ :: _, [], h, _, _, _, _, _ => nomatch h
  | a :: as, q :: kvs, h, nd, all, alk, na, sub => by
    have nd := List.nodup_cons.mp nd
    obtain ⟨i, e1, e2⟩ := sub 0 a rfl
    refine .cons ?_ (pairsH_all (Nat.succ.inj h) nd.2 all alk na fun j b e => sub (j + 1) b e)
    unfold pairsH
    rw [find_zip na e1 e2]
theorem pe_tupItems {X : Cx} {e : Expr} {te : TE} {p apos cpos pos : Pos} (calm : X.calm = true) (he : PE X e te) (hg : Gl X "tuple") (hm : X.mg "tuple" = none) (hv : bootBuiltins "tuple" = some (.type "tuple"))
    (hbase : attributeBase e "items" X.env (eval e X.env) = eval e X.env := by rfl) (hline : (apos.endLine == cpos.line) = true := by rfl)
    (hs : starEach [.Call (.Attribute e "items" apos) [] [] cpos] X.env = (false, eval (.Call (.Attribute e "items" apos) [] [] cpos) X.env) :: starEach [] X.env := by rfl) :
    PE X (.Call (.Name "tuple" p) [.Call (.Attribute e "items" apos) [] [] cpos] [] pos) (tTupItems te) := by
  constructor
  intro pins s σ H Q I hq
  refine wpAny_Call_Name_kw (ld_blt I hg hm hv ?_)
  refine PyProof.Rows.callWith_type1 ?_ hs rfl
  rw [hs]
  refine Calls.spliced_cons (wpAny_Call_method (T := "dict") (id := "dict.items") hbase rfl hline PySem.F.plainAttrs_dict PySem.F.slot_dict_items PySem.F.type_dict_items (thn (he.run pins s σ H _ I hq) fun u s1 ⟨x, H1, I1, rx, d, kvs, ex, hd, fin⟩ => ?_))
  subst ex
  obtain rfl : u = Value.ref d := rx
  obtain ⟨few, low, vs, kv, dict⟩ := I1.hok d _ hd
  obtain ⟨ep, here⟩ := dict.dictAt
  have lk : kvs.length = vs.length := Paired.length kv
  refine ⟨dict.typeIs, dict.mapOf.noDict, ?_⟩
  show wpAny _ _ (callWith cpos (.builtin "dict.items") [.ref d] [] []) _ X.xe s1
  refine method_meetsIn PySem.F.slot_dict_items PySem.F.entry_dict_items rfl (PySem.evalArgs_none ⟨rfl, dict.typeIs, PySem.F.args_dict_items_1 _, _, meets_dict_items (mixKind X.prog X.w) d low, ⟨vs, dict⟩, Calls.spliced_nil ?_⟩)
  refine call_tup_items (knd := mixKind X.prog X.w) (kvs := vs) (ep := ep) (I1.ok.hd calm) ⟨_, Heap.get?_push_size _ rfl, rfl, rfl⟩ (here.push _) (by rw [← lk]; exact few) fun h' tk as keep len pairs => ?_
  have nd : as.Nodup := pairs.rise.imp fun h => Nat.ne_of_lt h
  have I2 : L2.Inv X pins σ H1 { s1 with heap := s1.heap.push { cls := .type "dict_items", data := .fields #[.ref d] } } := I1.kept (t' := s1.toks) fun b o e => Heap.get?_push_of_some _ e
  have top : s1.heap.objs.size + 1 ≤ h'.objs.size := Heap.lt_size (keep s1.heap.objs.size _ (Heap.get?_push_size _ rfl))
  have sz2 : ({ s1 with heap := s1.heap.push { cls := .type "dict_items", data := .fields #[.ref d] } } : Shared).heap.objs.size = s1.heap.objs.size + 1 := Heap.size_push _ _
  generalize { s1 with heap := s1.heap.push { cls := .type "dict_items", data := .fields #[.ref d] } } = s2 at I2 keep pairs sz2 ⊢
  have pout : h'.objs.size ∉ as := fun z => by
    obtain ⟨j, hj⟩ := List.mem_iff_getElem?.mp z
    obtain ⟨_, _, _, _, _, q⟩ := pairs.pairs j _ hj
    exact absurd (Heap.lt_size q) (Nat.lt_irrefl _)
  have old : ∀ b, b < s2.heap.objs.size → b ∉ as := fun b hb z => Nat.lt_irrefl _ (Nat.lt_trans hb (pairs.above b z))
  have all := pairsH_all (H := H1) (as := as) (kvs := kvs) (len.trans lk.symm) nd as kvs nd fun j b e => ⟨j, e, rfl⟩
  have off : ∀ {xs : List Addr} {ys : List (Key × V)}, h'.objs.size ∉ xs → Paired (fun (t : Addr) (q : Key × V) => pairsH H1 as kvs t = some (.tup [kV q.1, q.2])) xs ys → Paired (fun (t : Addr) (q : Key × V) => upd (pairsH H1 as kvs) h'.objs.size (.frz { cls := .type "tuple", data := .seq (as.map Value.ref).toArray } (.tup (as.map V.ref))) t = some (.tup [kV q.1, q.2])) xs ys := fun {xs ys} no z => by
    induction z with
    | nil => exact .nil
    | cons h _ ih => exact .cons (by rw [upd_ne (fun e => no (by rw [← e]; exact List.mem_cons_self))]; exact h) (ih fun z => no (List.mem_cons_of_mem _ z))
  have all2 := off pout all
  have le2 : s2.heap.objs.size ≤ h'.objs.size := by
    rw [sz2]
    exact top
  have oneNone : H1 h'.objs.size = none := I2.hok.fresh le2
  have J := inv_more (tk := tk) (H' := upd (pairsH H1 as kvs) h'.objs.size (.frz { cls := .type "tuple", data := .seq (as.map Value.ref).toArray } (.tup (as.map V.ref)))) (h' := h'.push { cls := .type "tuple", data := .seq (as.map Value.ref).toArray }) I2 (fun b o e => Heap.get?_push_of_some _ (keep b o e)) (fun b hb => ?_) (fun b o hb e => ?_)
  · exact ⟨.ref h'.objs.size, _, J, rfl, fin _ _ { cls := .type "tuple", data := .seq (as.map Value.ref).toArray } as (fun b o e => by
      rw [upd_ne (fun q => by rw [q, oneNone] at e; cases e), pairsH_off (old b (I2.hok b o e).lt)]
      exact e) oneNone rfl upd_same all2⟩
  · rw [upd_ne (Nat.ne_of_lt (Nat.lt_of_lt_of_le hb le2)), pairsH_off (old b hb)]
  · by_cases c1 : b = h'.objs.size
    · subst c1
      rw [upd_same] at e
      cases e
      exact ⟨Heap.get?_push_size _ rfl, by rw [List.length_map, len, ← lk]; exact few, as.map Value.ref, LiI.vals_refs as, ⟨_, Heap.get?_push_size _ rfl, rfl, _, rfl⟩⟩
    rw [upd_ne c1] at e
    by_cases c2 : b ∈ as
    · obtain ⟨j, hj⟩ := List.mem_iff_getElem?.mp c2
      obtain ⟨key, k, x, g1, g2, g3⟩ := pairs.pairs j b hj
      have hjl : j < kvs.length := by rw [lk, ← len]; exact (List.getElem?_eq_some_iff.mp hj).1
      have ek : kvs[j]? = some kvs[j] := List.getElem?_eq_getElem hjl
      unfold pairsH at e
      rw [find_zip nd hj ek] at e
      cases e
      obtain ⟨y, hy, ry⟩ := kv_get kv (k := kvs[j].1) (v := kvs[j].2) ek
      rw [g1] at hy
      obtain ⟨rfl, rfl⟩ : k = kvs[j].1 ∧ x = y := by
        have := Option.some.inj hy
        exact ⟨(Prod.mk.inj this).1, (Prod.mk.inj this).2⟩
      exact ⟨(by show 2 ≤ sizeLine; decide), [key, x], .cons (relV_key (show keyIs kvs[j].1 key = true from g2)) (.cons ry .nil), ⟨_, Heap.get?_push_of_some _ g3, rfl, _, rfl⟩⟩
    · rw [pairsH_off c2] at e
      exact absurd (I2.hok b o e).lt (Nat.not_lt.mpr hb)
/-- (), the object told -/
theorem pe_tup0F {X : Cx} {k : Nat} {pos : Pos} : PE X (.Tuple [] k pos) (fun _ H Q => ∀ p (o : Obj), H p = none → o.dict = none → Q (.ref p) (upd H p (.frz o (.tup [])))) := by
  refine ⟨fun pins s σ H Q I hq => ?_⟩
  refine wpAny_Tuple_spliced (thn ((pa_nil (X := X)).run pos pins s σ H (fun xs H' => xs = [] ∧ H' = H) I ⟨rfl, rfl⟩) fun us s1 ⟨xs, H1, I1, r, e1, e2⟩ => ?_)
  subst e1 e2
  cases r
  refine ⟨(by show 0 ≤ sizeLine; decide), ⟨.ref s1.heap.objs.size, upd H1 s1.heap.objs.size (.frz { cls := .type "tuple", data := .seq ([] : List Value).toArray } (.tup [])), I1.laid (t' := s1.toks) (fun b u e => Heap.get?_push_of_some _ e) (Nat.le_refl _) ?_, rfl, hq _ _ (I1.hok.fresh (Nat.le_refl _)) rfl⟩⟩
  exact ⟨Heap.get?_push_size _ rfl, (by show 0 ≤ sizeLine; decide), [], .nil, ⟨_, Heap.get?_push_size _ rfl, rfl, _, rfl⟩⟩
end
/-! ### == by an own __eq__, any answer -/
section
theorem op_eqOwn {X : Cx} {n : Nat} {C f : Addr} {fd : FuncData} {ps : List Str} {sp : Sp} (F : FnOk X.prog X.w X.K X.mg X.base CX0 n f fd ps sp) (room : Room n X.A) (hs : PySem.W.findIn X.K (.ref C) "__eq__" = some (some (.ref f))) (hf : PySem.W.isFn X.K (.ref f) = true) (hb : Binds X.K fd ps []) :
    OpR X (compareOp .Eq) (fun x y H Q => ∃ a b dx dy fs gs, x = .ref a ∧ y = .ref b ∧ H a = some (.ins C dx fs) ∧ H b = some (.ins C dy gs) ∧ sp [.ref a, .ref b] H (fun v H' => (∃ t, v = .bl t) ∧ Q v H') E0) := by
  intro pins s σ H x y v u Q I rx ry want
  obtain ⟨a, b, dx, dy, fs, gs, rfl, rfl, ha, hb2, want⟩ := want
  obtain rfl : v = Value.ref a := rx
  obtain rfl : u = Value.ref b := ry
  obtain ⟨_, J, _⟩ := ins_get I.hok ha
  obtain ⟨_, J2, _⟩ := ins_get I.hok hb2
  obtain ⟨_, J, _⟩ := J.look
  obtain ⟨_, J2, _⟩ := J2.look
  obtain ⟨m, fr⟩ := I.fr
  refine PySem.W.cmp_K (op := .Eq) (tb := .ref C) room.units0 fr I.ok.mod.kin J J2.type (by simp [PySem.W.notFirst]) hs hf ?_
  refine wpAny_mono (run_fnS (E := fun _ => E0) F room hb (fun _ _ _ _ _ _ c => False.elim c) I (show Vals [V.ref a, V.ref b] [Value.ref a, Value.ref b] from .cons rfl (.cons rfl .nil)) want) (fun z s2 q => ?_) fun _ _ q => q
  obtain ⟨v2, H2, I2, rz, ⟨t, ev⟩, q⟩ := q
  subst ev
  obtain rfl : z = Value.bool t := rz
  exact ⟨.bl t, H2, I2, rfl, q⟩
end

/-! ### xs[j] op= e, j not below 0; sums of tuples -/
section
open PyProof.Rows
def rGetLN (K : PySem.W.Frag) : V → V → Hp → VK → Prop := fun o i H Q => ∃ (p : Addr) (xs : List V) (j : Nat) (v : V), o = .ref p ∧ i = .int (j : Int) ∧ SqL K H p xs ∧ xs[j]? = some v ∧ Q v H
theorem get_listN {X : Cx} : PGet X (rGetLN X.K) := by
  intro pins s σ H o i ov iv Q I ro ri h
  obtain ⟨p, xs, j, z, rfl, rfl, hq, hz, q⟩ := h
  obtain rfl : ov = Value.ref p := ro
  obtain ⟨t, rfl⟩ := ri
  obtain ⟨its, r, pl, few⟩ := I.list hq
  obtain ⟨u, hu, ru⟩ := r.get hz
  have hj := (List.getElem?_eq_some_iff.mp hz).1
  have hn := line63
  exact getItem_listL pl.isList (Int.natCast_nonneg j) (by omega) (by rw [Int.toNat_natCast]; exact hu) ⟨z, H, I, ru, q⟩
/-- t + u: somewhere the sum lies -/
def rCatB : R2 := fun x y H Q => ∃ a b xs ys, x = .ref a ∧ y = .ref b ∧ H a = some (.tup xs) ∧ H b = some (.tup ys) ∧ xs.length + ys.length ≤ sizeLine ∧ ∀ p H', Same H H' → H' p = some (.tup (xs ++ ys)) → Q (.ref p) H'
theorem op_catB {X : Cx} : OpR X (binaryOp .Add) rCatB := by
  intro pins s σ H x y v u Q I rx ry h
  obtain ⟨a, b, xs, ys, ex, ey, ha, hb, hz, q⟩ := h
  refine op_catA pins s σ H x y v u Q I rx ry ⟨a, b, xs, ys, ex, ey, SqT.of ha, SqT.of hb, hz, fun e => q b H (Same.refl H) ?_, fun _ e => q a H (Same.refl H) ?_, fun _ _ p hp => q p _ (same_new hp) upd_same⟩
  · rw [hb, e]
    rfl
  · rw [ha, e, List.append_nil]
end

structure TxtE (w : World) (K : PySem.W.Frag) (mg : Str → Option Value) (a : Ads) : Prop where
  g_OF_TWO : mg "OF_TWO" = some (.ref a.P_OF_TWO)
  tab_OF_TWO : KTab K w a.P_OF_TWO [("a", a.d_plus), ("s", a.d_minus), ("m", a.d_times), ("t", a.d_append_digit), ("c", a.d_is_less), ("e", a.d_is_equal)]
  g_Failed : mg "Failed" = some (.ref a.C_Failed)
  x_Failed : PySem.W.excIn K a.C_Failed [.type "ValueError", .type "Exception", .type "BaseException", .type "object"] "ValueError.__new__" = true
  kc_Failed : PySem.W.keepIn K (.ref a.C_Failed) = true
  b_Failed : PySem.W.subIn K (.ref a.C_Failed) (.type "BaseException") = some true
  t_Failed : PySem.W.typeIn K (.ref a.C_Failed) = some (.type "type")
  xc_Failed : XcC K a.C_Failed
  exm_Failed_Failed : PySem.W.exmOne K (.ref a.C_Failed) (.ref a.C_Failed) = some true
  kt_Ledger_Ledger : PySem.W.kitOne K (.ref a.C_Ledger) (.ref a.C_Ledger) = some true
  ic_Ledger : PySem.W.findIn K (.ref a.C_Ledger) "__class__" = some (some (.builtin "object.__class__")) ∧ PySem.W.specialIn K (.builtin "object.__class__") "__get__" = some (some (.builtin "getset_descriptor.__get__")) ∧ PySem.W.takesIn K (.builtin "object.__class__") = some true ∧ PySem.W.mroIn K a.C_Ledger (.type "object") = some true

/-! ### a program's run -/
structure Mc where
  stk : List Nat
  kv : List (Nat × Nat)
  pl : Nat
  pd : Nat
  st : Nat
structure Gv where
  code : Str
  given : Nat
  amount : Nat
def kvV (kv : List (Nat × Nat)) : List (Key × V) := kv.map fun x => (Sum.inl (x.1 : Int), V.int (x.2 : Int))
def getN (kv : List (Nat × Nat)) (k : Nat) : Nat := ((kv.find? fun x => decide (x.1 = k)).map (·.2)).getD 0
def putN (kv : List (Nat × Nat)) (k v : Nat) : List (Nat × Nat) := if (kv.any fun x => decide (x.1 = k)) = true then kv.map (fun x => if x.1 = k then (x.1, v) else x) else kv ++ [(k, v)]
theorem key_dec (i k : Nat) : decide ((Sum.inl (i : Int) : Key) = Sum.inl (k : Int)) = decide (i = k) := by
  by_cases h : i = k
  · rw [decide_eq_true h, decide_eq_true (by rw [h])]
  · rw [decide_eq_false h, decide_eq_false (fun e => h (by have := Sum.inl.inj e; omega))]
theorem val_kv (k : Nat) : ∀ kv : List (Nat × Nat), valV (kvV kv) (Sum.inl (k : Int)) = (kv.find? fun x => decide (x.1 = k)).map fun x => V.int (x.2 : Int)
  | [] => rfl
  | (i, v) :: r => by
    have ih := val_kv k r
    unfold valV kvV at ih ⊢
    rw [List.map_cons, List.find?_cons, List.find?_cons]
    have e : decide ((Sum.inl (i : Int) : Key) = Sum.inl (k : Int)) = decide (i = k) := key_dec i k
    simp only [e]
    by_cases h : i = k
    · simp [h]
    · simp only [decide_eq_false h]
      exact ih
theorem get_kv (kv : List (Nat × Nat)) (k : Nat) : (valV (kvV kv) (Sum.inl (k : Int))).getD (V.int 0) = V.int (getN kv k : Nat) := by
  rw [val_kv]
  unfold getN
  cases kv.find? fun x => decide (x.1 = k) <;> rfl
theorem put_kv (kv : List (Nat × Nat)) (k v : Nat) : putK (kvV kv) (Sum.inl (k : Int)) (V.int (v : Int)) = kvV (putN kv k v) := by
  have e : ((kvV kv).any fun x => decide (x.1 = (Sum.inl (k : Int) : Key))) = kv.any fun x => decide (x.1 = k) := by
    unfold kvV
    rw [List.any_map]
    congr 1
    funext x
    exact key_dec x.1 k
  unfold putK putN
  rw [e]
  split
  · unfold kvV
    rw [List.map_map, List.map_map]
    refine List.map_congr_left fun x _ => ?_
    show (if (Sum.inl (x.1 : Int) : Key) = Sum.inl (k : Int) then _ else _) = _
    by_cases h : x.1 = k
    · rw [if_pos (by rw [h])]
      simp [Function.comp, h]
    · rw [if_neg (fun e => h (by have := Sum.inl.inj e; omega))]
      simp [Function.comp, h]
  · unfold kvV
    rw [List.map_append]
    rfl
theorem len_kv (kv : List (Nat × Nat)) : (kvV kv).length = kv.length := List.length_map ..
theorem len_put (kv : List (Nat × Nat)) (k v : Nat) : (putN kv k v).length ≤ kv.length + 1 := by
  unfold putN
  split
  · rw [List.length_map]
    omega
  · rw [List.length_append]
    exact Nat.le_refl _
/-- two values made one -/
def work (c l r : Nat) : Nat := if c = 97 then l + r else if c = 115 then l - r else if c = 109 then l * r else if c = 116 then 10 * l + r else if c = 99 then (if l < r then 1 else 0) else if l = r then 1 else 0
def pushM (v : Nat) (m : Mc) : Option Mc := if 16 ≤ m.stk.length then none else some { m with stk := m.stk ++ [v % 1000000] }
def takeM (m : Mc) : Option (Nat × Mc) := m.stk.getLast?.map fun t => (t, { m with stk := m.stk.dropLast })
def numberM (G : Gv) (c : Nat) (m : Mc) : Option Mc := if c = 103 then pushM G.given m else if c = 105 then pushM G.amount m else pushM m.stk.length m
def combineM (c : Nat) (m : Mc) : Option Mc := (takeM m).bind fun x => (takeM x.2).bind fun y => pushM (work c y.1 x.1) y.2
def moveM (c : Nat) (m : Mc) : Option Mc := (takeM m).bind fun x => if c = 104 then (pushM x.1 x.2).bind (pushM x.1) else if c = 108 then pushM (getN x.2.kv x.1) x.2 else (takeM x.2).map fun y => { y.2 with kv := putN y.2.kv x.1 y.1 }
def jumpM (c : Nat) (m : Mc) : Option Mc := (takeM m).bind fun x => if c = 106 then some { x.2 with pl := x.1 } else (takeM x.2).map fun y => if y.1 = 0 then { y.2 with pl := x.1 } else y.2
def settleM (c : Nat) (m : Mc) : Option Mc := (takeM m).bind fun x => if c = 121 then some { x.2 with pd := x.2.pd + x.1 } else if x.1 = 0 then none else some x.2
def performM (G : Gv) (c : Nat) (m : Mc) : Option Mc :=
  if 48 ≤ c ∧ c ≤ 57 then pushM (c - 48) m
  else if c = 103 ∨ c = 105 ∨ c = 110 then numberM G c m
  else if c = 97 ∨ c = 115 ∨ c = 109 ∨ c = 116 ∨ c = 99 ∨ c = 101 then combineM c m
  else if c = 104 ∨ c = 108 ∨ c = 117 then moveM c m
  else if c = 106 ∨ c = 102 then jumpM c m
  else settleM c m
theorem take_cat (s : List Nat) (t : Nat) (kv : List (Nat × Nat)) (pl pd st : Nat) : takeM ⟨s ++ [t], kv, pl, pd, st⟩ = some (t, ⟨s, kv, pl, pd, st⟩) := by
  simp [takeM]
/-- what all machines keep -/
def Fit (m : Mc) : Prop := m.stk.length ≤ 16 ∧ m.kv.length ≤ 7900 ∧ ∀ v ∈ m.stk, v < 1000000
theorem Fit.take {m : Mc} (f : Fit m) {x : Nat × Mc} (e : takeM m = some x) : Fit x.2 ∧ x.1 < 1000000 ∧ x.2.st = m.st ∧ x.2.kv = m.kv ∧ x.2.pl = m.pl ∧ x.2.pd = m.pd ∧ x.2.stk.length + 1 = m.stk.length ∧ m.stk = x.2.stk ++ [x.1] := by
  obtain ⟨stk, kv, pl, pd, st⟩ := m
  rcases List.eq_nil_or_concat stk with rfl | ⟨s, t, rfl⟩
  · cases e
  · rw [List.concat_eq_append] at e f ⊢
    rw [take_cat] at e
    obtain rfl := Option.some.inj e
    obtain ⟨f1, f2, f3⟩ := f
    have f1 : (s ++ [t]).length ≤ 16 := f1
    rw [List.length_append, List.length_singleton] at f1
    exact ⟨⟨by show s.length ≤ 16; omega, f2, fun v hv => f3 v (List.mem_append_left _ hv)⟩, f3 t (by simp), rfl, rfl, rfl, rfl, by simp, rfl⟩
theorem Fit.push {m m' : Mc} (f : Fit m) {v : Nat} (e : pushM v m = some m') : Fit m' ∧ m'.st = m.st ∧ m'.kv = m.kv ∧ m'.pl = m.pl ∧ m'.pd = m.pd ∧ m'.stk = m.stk ++ [v % 1000000] := by
  unfold pushM at e
  split at e
  · cases e
  · rename_i h
    obtain rfl := Option.some.inj e
    refine ⟨⟨?_, f.2.1, fun x hx => ?_⟩, rfl, rfl, rfl, rfl, rfl⟩
    · show (m.stk ++ [v % 1000000]).length ≤ 16
      rw [List.length_append, List.length_singleton]
      omega
    · rcases List.mem_append.mp hx with hx | hx
      · exact f.2.2 x hx
      · rw [List.mem_singleton.mp hx]
        exact Nat.mod_lt _ (by decide)
/-- a machine in the heap -/
def MAt (C : Addr) (H : Hp) (p D L : Addr) (G : Gv) (m : Mc) : Prop := ∃ dx, H p = some (.ins C dx [("code", .str G.code), ("given", .int (G.given : Nat)), ("amount", .int (G.amount : Nat)), ("store", .ref D), ("stack", .ref L), ("place", .int (m.pl : Nat)), ("paid", .int (m.pd : Nat)), ("steps", .int (m.st : Nat))]) ∧
  H D = some (.dK (kvV m.kv)) ∧ H L = some (.lst (m.stk.map fun n => V.int (n : Nat)))
def Oth (p D L : Addr) (H H' : Hp) : Prop := ∀ b o, b ≠ p → b ≠ D → b ≠ L → H b = some o → H' b = some o
theorem Oth.rfl {p D L : Addr} {H : Hp} : Oth p D L H H := fun _ _ _ _ _ e => e
theorem Oth.trans {p D L : Addr} {H H1 H2 : Hp} (h : Oth p D L H H1) (k : Oth p D L H1 H2) : Oth p D L H H2 := fun b o n1 n2 n3 e => k b o n1 n2 n3 (h b o n1 n2 n3 e)
theorem MAt.ne {C : Addr} {H : Hp} {p D L : Addr} {G : Gv} {m : Mc} (h : MAt C H p D L G m) : p ≠ D ∧ p ≠ L ∧ D ≠ L := by
  obtain ⟨dx, h1, h2, h3⟩ := h
  refine ⟨fun e => ?_, fun e => ?_, fun e => ?_⟩
  · rw [e, h2] at h1; cases h1
  · rw [e, h3] at h1; cases h1
  · rw [e, h3] at h2; cases h2
/-- what a method of the machine tells -/
def Res (C CE p D L : Addr) (G : Gv) (H : Hp) (m : Mc) (r : Option Mc) (Q : VK) (E : XK) : Prop :=
  (∀ m' H', r = some m' → MAt C H' p D L G m' → Oth p D L H H' → Q .non H') ∧ (r = none → ∀ m' H', MAt C H' p D L G m' → m'.st = m.st → Oth p D L H H' → E (.ref CE) none H')
theorem Res.on {C CE p D L : Addr} {G : Gv} {H H1 : Hp} {m m1 : Mc} {r : Option Mc} {Q : VK} {E : XK} (h : Res C CE p D L G H m r Q E) (s : m1.st = m.st) (o : Oth p D L H H1) : Res C CE p D L G H1 m1 r Q E :=
  ⟨fun m' H' e h1 o1 => h.1 m' H' e h1 (o.trans o1), fun e m' H' h1 s1 o1 => h.2 e m' H' h1 (s1.trans s) (o.trans o1)⟩
def spPush (C CE : Addr) : Sp := fun vs H Q E => ∃ (p D L : Addr) (G : Gv) (m : Mc) (v : Nat), vs = [.ref p, .int (v : Nat)] ∧ MAt C H p D L G m ∧ Fit m ∧ Res C CE p D L G H m (pushM v m) Q E
def spTake (C CE : Addr) : Sp := fun vs H Q E => ∃ (p D L : Addr) (G : Gv) (m : Mc), vs = [.ref p] ∧ MAt C H p D L G m ∧ Fit m ∧
  (∀ t m' H', takeM m = some (t, m') → MAt C H' p D L G m' → Oth p D L H H' → Q (.int (t : Nat)) H') ∧ (takeM m = none → ∀ m' H', MAt C H' p D L G m' → m'.st = m.st → Oth p D L H H' → E (.ref CE) none H')
def spSign (C CE : Addr) (op : Gv → Nat → Mc → Option Mc) (ok : Nat → Prop) : Sp := fun vs H Q E => ∃ (p D L : Addr) (G : Gv) (m : Mc) (c : Nat), vs = [.ref p, .str ⟨#[c]⟩] ∧ ok c ∧ MAt C H p D L G m ∧ Fit m ∧ Res C CE p D L G H m (op G c m) Q E
def spWork (c : Nat) : Sp := fun vs H Q _ => ∃ l r : Nat, vs = [.int (l : Nat), .int (r : Nat)] ∧ l < 1000000 ∧ r < 1000000 ∧ Q (.int (work c l r : Nat)) H
def spMInit (C : Addr) : Sp := fun vs H Q _ => ∃ (p dx d : Addr) (G : Gv) (kv : List (Nat × Nat)), vs = [.ref p, .str G.code, .int (G.given : Nat), .int (G.amount : Nat), .ref d] ∧ H p = some (.ins C dx []) ∧ Rd H d (.dK (kvV kv)) ∧
  ∀ D L H', H D = none → H L = none → MAt C H' p D L G ⟨[], kv, 0, 0, 0⟩ → (∀ b o, b ≠ p → H b = some o → H' b = some o) → Q .non H'
def spRun0 (C : Addr) : Sp := fun vs H Q _ => ∃ (j dx : Addr) (w s p n : V), vs = [.ref j, w, s, p, n] ∧ H j = some (.ins C dx []) ∧ ∀ H', H' j = some (.ins C dx [("well", w), ("store", s), ("paid", p), ("steps", n)]) → (∀ b o, b ≠ j → H b = some o → H' b = some o) → Q .non H'
/-! ### a call of what a local holds -/
section
variable {X : Cx} {k i : Nat} {x : Str} {q pos : Pos} {e : Expr} {es : List Expr} {t : TA}
def tCallV (P : Program) (w : World) (K : PySem.W.Frag) (mg : Str → Option Value) (base : Heap) (k i : Nat) (t : TA) : TE := fun σ H Q => ∃ f fd ps sp, σ[i]? = some (some (.ref f)) ∧ FnOk P w K mg base CX0 k f fd ps sp ∧ Binds K fd ps [] ∧ PySem.W.keepIn K (.ref f) = true ∧ t σ H fun vs H1 => sp vs H1 Q E0
theorem pe_callV (hr : Room k X.A) (hN : X.N[i]? = some x) (hv : Vis X.env.scope x) (ha : PA X (e :: es) t) (hd : (x == ("__debug__" : Str)) = false := by decide) (hcd : (x == ("__classdict__" : Str)) = false := by decide)
    (he : starEach (e :: es) X.env = (false, eval e X.env) :: starEach es X.env := by rfl) (hpl : (backTo pos (starEach es X.env)).any (·.1) = false := by rfl) :
    PE X (.Call (.Name x q) (e :: es) [] pos) (tCallV X.prog X.w X.K X.mg X.base k i t) := by
  refine ⟨fun pins s σ H Q I h => ?_⟩
  obtain ⟨f, fd, ps, sp, hs, F, hb, hk, h⟩ := h
  refine wpAny_Call_Name_kw (thn ((pe_var (pos := q) hN hv hd hcd).run pins s σ H (fun v H1 => v = .ref f ∧ H1 = H) I ⟨_, hs, rfl, rfl⟩) fun u s0 ⟨v, H0, I0, rv, ev, eh⟩ => ?_)
  subst ev eh
  obtain rfl : u = Value.ref f := rv
  refine PySem.W.callWith_K (h₀ := X.base) I0.ok.mod.kin hk (thn (ha.run pos pins s0 σ H0 _ I0 h) fun us s1 ⟨vs, H1, I1, r, q⟩ => ⟨I1.kIn, ?_⟩) he hpl
  exact run_fnS (E := fun _ => E0) F hr hb (fun _ _ _ _ _ _ c => False.elim c) I1 r q
end
/-! ### an object made while any exception is handled -/
section
variable {X : Cx} {k : Nat} {f C : Addr} {fd : FuncData} {ps : List Str} {sp : Sp} {x : Str} {q pos : Pos} {e : Expr} {es : List Expr} {t : TA} {p : Addr × Obj}
theorem L2H.RoomH.make {k : Nat} {A : Around} (r : L2H.RoomH (k + 1) A) (C : Addr) (us : List Value) (kw : List (Str × Value)) : L2H.RoomH k (A.under (.builtin "type.__call__" ⟨.ref C :: us, kw⟩)) :=
  ⟨by have := r.dp; rw [make_depth]; omega, by have := r.un; rw [make_units]; omega⟩
theorem pe_makeW (M : Mk X.K C f) (F : FnW X.prog X.w X.K X.mg X.base k f fd ps sp) (room : L2H.RoomH (k + 1) X.A) (hp : p ∈ X.pn) (hg : Gl X x) (hm : X.mg x = some (.ref C)) (hb : Binds X.K fd ps [])
    (ha : PA X (e :: es) t) (hdb : (x == ("__debug__" : Str)) = false := by decide) (he : starEach (e :: es) X.env = (false, eval e X.env) :: starEach es X.env := by rfl) (hpl : (backTo pos (starEach es X.env)).any (·.1) = false := by rfl) :
    PE X (.Call (.Name x q) (e :: es) [] pos) (tMake C sp [] E0 t) := by
  refine ⟨fun pins s σ H Q I h => ?_⟩
  refine wpAny_Call_Name_kw (ld_glob I hg hm ?_ hdb)
  refine PySem.W.callWith_K (h₀ := X.base) I.ok.mod.kin M.kp (thn (ha.run pos pins s σ H _ I h) fun us s1 ⟨vs, H1, I1, r, q⟩ => ⟨I1.kIn, ?_⟩) he hpl
  have hq := q (s1.heap.objs.size + 1) s1.heap.objs.size (I1.hok.fresh (Nat.le_succ _)) (I1.hok.fresh (Nat.le_refl _)) (Nat.ne_of_lt (Nat.lt_succ_self _))
  have I2 := L2.Inv.made (C := C) I1
  rw [List.append_nil] at hq
  have r2 : Vals (V.ref (s1.heap.objs.size + 1) :: vs) (Value.ref (s1.heap.objs.size + 1) :: us) := .cons rfl r
  have hl : (Value.ref (s1.heap.objs.size + 1) :: us).length = ps.length := by
    have e := r2.length
    rw [F.len _ _ _ _ hq] at e
    exact e.symm
  have bind := hb _ (Value.ref (s1.heap.objs.size + 1) :: us) I2.kIn (by rw [List.append_nil]; exact hl)
  rw [List.append_nil] at bind
  have at1 := I2.pin p (List.mem_append_left _ hp)
  have pin := L2H.PinOk.mk (outer := X.stack) (p := p) at1.1 at1.2.1 (fun hmm => by
    rcases List.mem_cons.mp (I2.stkSub p.1 hmm) with z | z
    · exact at1.2.2.1 z
    · exact at1.2.2.2.1 z) at1.2.2.2.2
  refine wpAny_call (make_map (f := f) I1.kIn M.makes M.init (beq_iff_eq.mp M.fn) (codeAny_mono (F.run _ X.stack _ _ ⟨Value.ref (s1.heap.objs.size + 1) :: us, []⟩ (Value.ref (s1.heap.objs.size + 1) :: us) _ _ E0 p (room.make C us [])
    pin (I2.env0.make C us []) bind r2 hq) fun r s' hq' => ?_))
  cases r with
  | error e => exact (hq' : False).elim
  | ok fl =>
    cases fl with
    | ret u =>
      obtain ⟨v, H', I3, rv, ev, q3⟩ := I2.after hq'
      subst ev
      exact ⟨rv, ⟨V.ref (s1.heap.objs.size + 1), H', I3, rfl, q3⟩⟩
    | next => exact False.elim hq'
    | brk => exact False.elim hq'
    | cont => exact False.elim hq'
end

section
local macro_rules | `(tactic| walk_at "r1") => `(tactic| first
  | refine ⟨_, rfl, ?_⟩
  | refine ⟨_, _, rfl, rfl, (by show (0 : Int) < _; first | decide | omega), ?_⟩
  | refine ⟨_, _, rfl, rfl, (show CDiv _ _ from ⟨by decide, by decide⟩), ?_⟩
  | refine ⟨_, _, rfl, rfl, (show CMul _ _ from .inl ⟨by decide, by decide⟩), ?_⟩
  | refine ⟨_, _, rfl, rfl, (show CMul _ _ from .inr ⟨by decide, by decide⟩), ?_⟩
  | refine ⟨_, _, rfl, rfl, (show CPow _ _ from ⟨by decide, by decide, by decide⟩), ?_⟩
  | refine ⟨_, _, rfl, rfl, ?_⟩
  | refine ⟨_, _, _, _, rfl, rfl, SqT.of (by assumption), by first | exact at0 _ | exact at1 _ | exact at2 _ | exact at3 _ | exact at4 _ (by assumption), ?_⟩
  | refine ⟨scal_oS _ _, ?_⟩
  | refine .inl ⟨_, rfl, ?_⟩
  | refine ⟨rfl, ?_⟩)
local macro_rules | `(tactic| walk_at "rs") => `(tactic| repeat walk_at "r1")

variable {P : Program} {w : World} {K : PySem.W.Frag} {mg : Str → Option Value} {base : Heap} {a : Ads}
theorem getD_mem {zs : List Int} {i : Nat} (h : i < zs.length) : zs.getD i 0 ∈ zs := by
  rw [List.getD_eq_getElem?_getD, List.getElem?_eq_getElem h]
  exact List.getElem_mem h
theorem at_ints {zs : List Int} {i : Nat} (h : i < zs.length) : (zs.map V.int)[i]? = some (.int (zs.getD i 0)) := by
  rw [List.getElem?_map, List.getD_eq_getElem?_getD, List.getElem?_eq_getElem h]
  rfl

theorem sg_eq (c k : Nat) : ((⟨#[c]⟩ : Str) = ⟨#[k]⟩) ↔ c = k := ⟨fun e => by simpa using e, fun e => by rw [e]⟩
theorem ok_Run_init (T : Txt K mg a) : ∃ fd, FnOk P w K mg base CX0 1 a.d_Run_init fd ["self", "well", "store", "paid", "steps"] (spRun0 a.C_Run) ∧ Binds K fd ["self", "well", "store", "paid", "steps"] [] := by
  obtain ⟨fd, F, b⟩ := T.d_Run_init.F
  refine ⟨fd, F.ok sc_Run_init (fun vs H Q E h => ?_) (fun cdv A outer s H vs Q E hr h => ?_), b⟩
  · obtain ⟨_, _, _, _, _, _, rfl, _⟩ := h
    rfl
  · obtain ⟨j, dx, x1, x2, x3, x4, rfl, hj, k⟩ := h
    refine ⟨_, (pss_cons (ps_fld (pv 0) (pv 1) rfl)
      (pss_cons (ps_fld (pv 0) (pv 2) rfl)
      (pss_cons (ps_fld (pv 0) (pv 3) rfl)
      (pss_one (ps_fld (pv 0) (pv 4) rfl))))), ?_⟩
    walk_at "rs"
    refine ⟨j, _, dx, [], rfl, hj, T.cl_Run, T.a_Run_well, (by show 0 < 1000; decide), ?_⟩
    walk_at "rs"
    refine ⟨j, _, dx, _, rfl, upd_same, T.cl_Run, T.a_Run_store, (by show 1 < 1000; decide), ?_⟩
    rw [upd_upd]
    walk_at "rs"
    refine ⟨j, _, dx, _, rfl, upd_same, T.cl_Run, T.a_Run_paid, (by show 2 < 1000; decide), ?_⟩
    rw [upd_upd]
    walk_at "rs"
    refine ⟨j, _, dx, _, rfl, upd_same, T.cl_Run, T.a_Run_steps, (by show 3 < 1000; decide), ?_⟩
    rw [upd_upd]
    exact k _ (by rw [upd_same]; rfl) fun b o n e => by rw [upd_ne n]; exact e
theorem okW_Run_init (T : Txt K mg a) : ∃ fd, FnW P w K mg base 1 a.d_Run_init fd ["self", "well", "store", "paid", "steps"] (spRun0 a.C_Run) ∧ Binds K fd ["self", "well", "store", "paid", "steps"] [] := by
  obtain ⟨fd, F, b⟩ := T.d_Run_init.F
  refine ⟨fd, fun_okW F sc_Run_init (fun vs H Q E h => ?_) (fun cdv A outer s H vs Q E p hr h => ?_), b⟩
  · obtain ⟨_, _, _, _, _, _, rfl, _⟩ := h
    rfl
  · obtain ⟨j, dx, x1, x2, x3, x4, rfl, hj, k⟩ := h
    refine ⟨_, (pss_cons (ps_fld (pv 0) (pv 1) rfl)
      (pss_cons (ps_fld (pv 0) (pv 2) rfl)
      (pss_cons (ps_fld (pv 0) (pv 3) rfl)
      (pss_one (ps_fld (pv 0) (pv 4) rfl))))), ?_⟩
    walk_at "rs"
    refine ⟨j, _, dx, [], rfl, hj, T.cl_Run, T.a_Run_well, (by show 0 < 1000; decide), ?_⟩
    walk_at "rs"
    refine ⟨j, _, dx, _, rfl, upd_same, T.cl_Run, T.a_Run_store, (by show 1 < 1000; decide), ?_⟩
    rw [upd_upd]
    walk_at "rs"
    refine ⟨j, _, dx, _, rfl, upd_same, T.cl_Run, T.a_Run_paid, (by show 2 < 1000; decide), ?_⟩
    rw [upd_upd]
    walk_at "rs"
    refine ⟨j, _, dx, _, rfl, upd_same, T.cl_Run, T.a_Run_steps, (by show 3 < 1000; decide), ?_⟩
    rw [upd_upd]
    exact k _ (by rw [upd_same]; rfl) fun b o n e => by rw [upd_ne n]; exact e
theorem ok_Machine_init (T : Txt K mg a) : ∃ fd, FnOk P w K mg base CX0 1 a.d_Machine_init fd ["self", "code", "given", "amount", "store"] (spMInit a.C_Machine) ∧ Binds K fd ["self", "code", "given", "amount", "store"] [] := by
  obtain ⟨fd, F, b⟩ := T.d_Machine_init.F
  refine ⟨fd, F.ok sc_Machine_init (fun vs H Q E h => ?_) (fun cdv A outer s H vs Q E hr h => ?_), b⟩
  · obtain ⟨_, _, _, _, _, rfl, _⟩ := h
    rfl
  · obtain ⟨p, dx, d, G, kv, rfl, hp, hd, k⟩ := h
    have pd : d ≠ p := fun e => by
      rw [e] at hd
      rcases hd with e | ⟨o, e⟩ <;> (rw [hp] at e; cases e)
    refine ⟨_, (pss_cons (ps_fld (pv 0) (pv 1) rfl)
      (pss_cons (ps_fld (pv 0) (pv 2) rfl)
      (pss_cons (ps_fld (pv 0) (pv 3) rfl)
      (pss_cons (ps_fld (pv 0) (pe_callTy call_dictD (by rfl) T.n_dict (by decide +kernel) (pa_cons (pv 4) pa_nil)) rfl)
      (pss_cons (ps_fld (pv 0) (pe_lst pa_nil) rfl)
      (pss_cons (ps_fld (pv 0) pe_int rfl)
      (pss_cons (ps_fld (pv 0) pe_int rfl)
      (pss_one (ps_fld (pv 0) pe_int rfl))))))))), ?_⟩
    walk_at "rs"
    refine ⟨p, _, dx, [], rfl, hp, T.cl_Machine, T.a_Machine_code, (by show 0 < 1000; decide), ?_⟩
    walk_at "rs"
    refine ⟨p, _, dx, _, rfl, upd_same, T.cl_Machine, T.a_Machine_given, (by show 1 < 1000; decide), ?_⟩
    rw [upd_upd]
    walk_at "rs"
    refine ⟨p, _, dx, _, rfl, upd_same, T.cl_Machine, T.a_Machine_amount, (by show 2 < 1000; decide), ?_⟩
    rw [upd_upd]
    walk_at "rs"
    refine ⟨d, _, rfl, hd.imp (fun e => by rw [upd_ne pd]; exact e) (fun ⟨o, e⟩ => ⟨o, by rw [upd_ne pd]; exact e⟩), fun D hD => ?_⟩
    have nD : D ≠ p := fun e => by rw [e, upd_same] at hD; cases hD
    rw [upd_ne nD] at hD
    walk_at "rs"
    refine ⟨p, _, dx, _, rfl, (by rw [upd_ne (fun e => nD e.symm)]; exact upd_same), T.cl_Machine, T.a_Machine_store, (by show 3 < 1000; decide), ?_⟩
    walk_at "rs"
    refine ⟨(by show 0 ≤ sizeLine; decide), fun L hL => ?_⟩
    have nL : L ≠ p := fun e => by rw [e, upd_same] at hL; cases hL
    rw [upd_ne nL] at hL
    have nLD : L ≠ D := fun e => by rw [e, upd_same] at hL; cases hL
    rw [upd_ne nLD, upd_ne nL] at hL
    walk_at "rs"
    refine ⟨p, _, dx, _, rfl, (by rw [upd_ne (fun e => nL e.symm)]; exact upd_same), T.cl_Machine, T.a_Machine_stack, (by show 4 < 1000; decide), ?_⟩
    walk_at "rs"
    refine ⟨p, _, dx, _, rfl, upd_same, T.cl_Machine, T.a_Machine_place, (by show 5 < 1000; decide), ?_⟩
    rw [upd_upd]
    walk_at "rs"
    refine ⟨p, _, dx, _, rfl, upd_same, T.cl_Machine, T.a_Machine_paid, (by show 6 < 1000; decide), ?_⟩
    rw [upd_upd]
    walk_at "rs"
    refine ⟨p, _, dx, _, rfl, upd_same, T.cl_Machine, T.a_Machine_steps, (by show 7 < 1000; decide), ?_⟩
    rw [upd_upd]
    refine k D L _ hD hL ⟨dx, (by rw [upd_same]; rfl), ?_, ?_⟩ fun b o n e => ?_
    · rw [upd_ne nD, upd_ne (fun e => nLD e.symm), upd_ne nD]
      exact upd_same
    · rw [upd_ne nL]
      exact upd_same
    · rw [upd_ne n, upd_ne (fun q => by rw [q, hL] at e; cases e), upd_ne n, upd_ne (fun q => by rw [q, hD] at e; cases e), upd_ne n]
      exact e
theorem ok_Machine_push (TE : TxtE w K mg a) (T : Txt K mg a) : ∃ fd, FnOk P w K mg base (L2.CX P w) 1 a.d_Machine_push fd ["self", "value"] (spPush a.C_Machine a.C_Failed) ∧ Binds K fd ["self", "value"] [] := by
  obtain ⟨fd, F, b⟩ := T.d_Machine_push.F
  refine ⟨fd, F.okX sc_Machine_push (fun vs H Q E h => ?_) (fun cdv A outer s H vs Q E hr h => ?_), b⟩
  · obtain ⟨_, _, _, _, _, _, rfl, _⟩ := h
    rfl
  · obtain ⟨p, D, L, G, m, v, rfl, hm, hf, k1, k2⟩ := h
    obtain ⟨npD, npL, nDL⟩ := hm.ne
    obtain ⟨dx, hp, hD, hL⟩ := id hm
    have hl : (m.stk.map fun n => V.int (n : Nat)).length = m.stk.length := List.length_map ..
    refine ⟨_, (pss_cons (ps_if (pt_cmpR op_ge (pe_callB call_len_seq (by rfl) T.n_len PySem.boot_len (pa_cons (pe_fld (pv 0) rfl) pa_nil)) (pe_glob (v := (.int 16)) rfl T.c_MOST_VALUES.choose_spec ⟨_, rfl⟩) (nomark _))
      (pss_one (ps_raise rfl (takes_of rfl rfl rfl rfl) (pmk_own PySem.F.excBase_ValueError TE.x_Failed TE.g_Failed TE.kc_Failed (raises_own TE.b_Failed TE.t_Failed) rfl)))
      pss_nil)
      (pss_one (ps_expr (pe_bm PySem.F.plainAttrs_list PySem.F.slot_list_append PySem.F.type_list_append mt_append (pe_fld (pv 0) rfl) (pa_cons (pe_op op_mod (pv 1) (pe_glob (v := (.int 1000000)) rfl T.c_MODULUS.choose_spec ⟨_, rfl⟩)) pa_nil))))), ?_⟩
    walk_at "rs"
    refine ⟨p, _, dx, _, .ref L, rfl, hp, T.cl_Machine, T.a_Machine_stack, rfl, ?_⟩
    walk_at "rs"
    refine ⟨L, _, rfl, .inl (SqL.of hL), ?_⟩
    walk_at "rs"
    rw [hl]
    refine ite2 (fun c => ?_) (fun c => ?_)
    · have c : 16 ≤ m.stk.length := by
        have := of_decide_eq_true c
        omega
      exact k2 (if_pos c) m H hm rfl .rfl
    · have c : ¬ 16 ≤ m.stk.length := fun h => c (decide_eq_true (by omega))
      walk_at "rs"
      refine ⟨p, _, dx, _, .ref L, rfl, hp, T.cl_Machine, T.a_Machine_stack, rfl, ?_⟩
      refine ⟨.inl ⟨rfl, _, SqL.of hL⟩, ?_⟩
      walk_at "rs"
      refine ⟨L, _, _, rfl, rfl, hL, by rw [hl]; exact small1000 (by omega), ?_⟩
      refine k1 { m with stk := m.stk ++ [v % 1000000] } _ (if_neg c) ⟨dx, ?_, ?_, ?_⟩ fun b o n1 n2 n3 e => ?_
      · rw [upd_ne npL]
        exact hp
      · rw [upd_ne nDL]
        exact hD
      · rw [upd_same]
        simp
      · rw [upd_ne n3]
        exact e
theorem ok_Machine_take (TE : TxtE w K mg a) (T : Txt K mg a) : ∃ fd, FnOk P w K mg base (L2.CX P w) 1 a.d_Machine_take fd ["self"] (spTake a.C_Machine a.C_Failed) ∧ Binds K fd ["self"] [] := by
  obtain ⟨fd, F, b⟩ := T.d_Machine_take.F
  refine ⟨fd, F.okX sc_Machine_take (fun vs H Q E h => ?_) (fun cdv A outer s H vs Q E hr h => ?_), b⟩
  · obtain ⟨_, _, _, _, _, rfl, _⟩ := h
    rfl
  · obtain ⟨p, D, L, G, m, rfl, hm, hf, k1, k2⟩ := h
    obtain ⟨npD, npL, nDL⟩ := hm.ne
    obtain ⟨dx, hp, hD, hL⟩ := id hm
    have hl : (m.stk.map fun n => V.int (n : Nat)).length = m.stk.length := List.length_map ..
    refine ⟨_, (pss_cons (ps_if (pt_cmpR op_eq (pe_callB call_len_seq (by rfl) T.n_len PySem.boot_len (pa_cons (pe_fld (pv 0) rfl) pa_nil)) pe_int (nomark _))
      (pss_one (ps_raise rfl (takes_of rfl rfl rfl rfl) (pmk_own PySem.F.excBase_ValueError TE.x_Failed TE.g_Failed TE.kc_Failed (raises_own TE.b_Failed TE.t_Failed) rfl)))
      pss_nil)
      (pss_one (ps_ret (pe_bm0 PySem.F.plainAttrs_list PySem.F.slot_list_pop PySem.F.type_list_pop mt_pop (pe_fld (pv 0) rfl))))), ?_⟩
    walk_at "rs"
    refine ⟨p, _, dx, _, .ref L, rfl, hp, T.cl_Machine, T.a_Machine_stack, rfl, ?_⟩
    walk_at "rs"
    refine ⟨L, _, rfl, .inl (SqL.of hL), ?_⟩
    walk_at "rs"
    rw [hl]
    obtain ⟨stk, kv, pl, pd, st⟩ := m
    rcases List.eq_nil_or_concat stk with rfl | ⟨s, t, rfl⟩
    · refine ite2 (fun c => ?_) (fun c => absurd (decide_eq_true rfl) c)
      exact k2 rfl _ H hm rfl .rfl
    · rw [List.concat_eq_append] at *
      refine ite2 (fun c => absurd (of_decide_eq_true c) (by simp; omega)) (fun c => ?_)
      walk_at "rs"
      refine ⟨p, _, dx, _, .ref L, rfl, hp, T.cl_Machine, T.a_Machine_stack, rfl, ?_⟩
      refine ⟨.inl ⟨rfl, _, SqL.of hL⟩, ?_⟩
      walk_at "rs"
      refine ⟨L, _, .int (t : Nat), rfl, rfl, hL, by simp, ?_⟩
      refine k1 t ⟨s, kv, pl, pd, st⟩ _ (take_cat ..) ⟨dx, ?_, ?_, ?_⟩ fun b o n1 n2 n3 e => ?_
      · rw [upd_ne npL]
        exact hp
      · rw [upd_ne nDL]
        exact hD
      · rw [upd_same]
        simp
      · rw [upd_ne n3]
        exact e

theorem ok_plus (T : Txt K mg a) : ∃ fd, FnOk P w K mg base CX0 1 a.d_plus fd ["left", "right"] (spWork 97) ∧ Binds K fd ["left", "right"] [] := by
  obtain ⟨fd, F, b⟩ := T.d_plus.F
  refine ⟨fd, F.ok sc_plus (fun vs H Q E h => ?_) (fun cdv A outer s H vs Q E hr h => ?_), b⟩
  · obtain ⟨_, _, rfl, _⟩ := h
    rfl
  · obtain ⟨l, r, rfl, hl, hr', k⟩ := h
    refine ⟨_, (pss_one (ps_ret (pe_op op_add (pv 0) (pv 1)))), ?_⟩
    walk_at "rs"
    have e : ((work 97 l r : Nat) : Int) = (l : Int) + (r : Int) := by
      show ((l + r : Nat) : Int) = _
      omega
    rw [e] at k
    exact k
theorem ok_minus (T : Txt K mg a) : ∃ fd, FnOk P w K mg base CX0 1 a.d_minus fd ["left", "right"] (spWork 115) ∧ Binds K fd ["left", "right"] [] := by
  obtain ⟨fd, F, b⟩ := T.d_minus.F
  refine ⟨fd, F.ok sc_minus (fun vs H Q E h => ?_) (fun cdv A outer s H vs Q E hr h => ?_), b⟩
  · obtain ⟨_, _, rfl, _⟩ := h
    rfl
  · obtain ⟨l, r, rfl, hl, hr', k⟩ := h
    refine ⟨_, (pss_one (ps_ret (pe_callB (call_max2 rfl) (by rfl) T.n_max (by decide +kernel) (pa_cons pe_int (pa_cons (pe_op op_sub (pv 0) (pv 1)) pa_nil))))), ?_⟩
    walk_at "rs"
    have e : ((work 115 l r : Nat) : Int) = if (l : Int) - (r : Int) > 0 then (l : Int) - (r : Int) else 0 := by
      show ((l - r : Nat) : Int) = _
      split <;> omega
    rw [e] at k
    exact ⟨_, _, rfl, k⟩
theorem ok_times (T : Txt K mg a) : ∃ fd, FnOk P w K mg base CX0 1 a.d_times fd ["left", "right"] (spWork 109) ∧ Binds K fd ["left", "right"] [] := by
  obtain ⟨fd, F, b⟩ := T.d_times.F
  refine ⟨fd, F.ok sc_times (fun vs H Q E h => ?_) (fun cdv A outer s H vs Q E hr h => ?_), b⟩
  · obtain ⟨_, _, rfl, _⟩ := h
    rfl
  · obtain ⟨l, r, rfl, hl, hr', k⟩ := h
    refine ⟨_, (pss_one (ps_ret (pe_op op_mul (pv 0) (pv 1)))), ?_⟩
    walk_at "rs"
    refine ⟨(show CMul _ _ from .inl ⟨by omega, by omega⟩), ?_⟩
    have e : ((work 109 l r : Nat) : Int) = (l : Int) * (r : Int) := by
      show ((l * r : Nat) : Int) = _
      push_cast
      rfl
    rw [e] at k
    exact k
theorem ok_append_digit (T : Txt K mg a) : ∃ fd, FnOk P w K mg base CX0 1 a.d_append_digit fd ["left", "right"] (spWork 116) ∧ Binds K fd ["left", "right"] [] := by
  obtain ⟨fd, F, b⟩ := T.d_append_digit.F
  refine ⟨fd, F.ok sc_append_digit (fun vs H Q E h => ?_) (fun cdv A outer s H vs Q E hr h => ?_), b⟩
  · obtain ⟨_, _, rfl, _⟩ := h
    rfl
  · obtain ⟨l, r, rfl, hl, hr', k⟩ := h
    refine ⟨_, (pss_one (ps_ret (pe_op op_add (pe_op op_mul pe_int (pv 0)) (pv 1)))), ?_⟩
    walk_at "rs"
    have e : ((work 116 l r : Nat) : Int) = (10 : Int) * (l : Int) + (r : Int) := by
      show ((10 * l + r : Nat) : Int) = _
      omega
    rw [e] at k
    exact k
theorem ok_is_less (T : Txt K mg a) : ∃ fd, FnOk P w K mg base CX0 1 a.d_is_less fd ["left", "right"] (spWork 99) ∧ Binds K fd ["left", "right"] [] := by
  obtain ⟨fd, F, b⟩ := T.d_is_less.F
  refine ⟨fd, F.ok sc_is_less (fun vs H Q E h => ?_) (fun cdv A outer s H vs Q E hr h => ?_), b⟩
  · obtain ⟨_, _, rfl, _⟩ := h
    rfl
  · obtain ⟨l, r, rfl, hl, hr', k⟩ := h
    refine ⟨_, (pss_one (ps_ret (pe_ifExp (pt_cmpR op_lt (pv 0) (pv 1) (nomark _)) pe_int pe_int))), ?_⟩
    walk_at "rs"
    have e : work 99 l r = if l < r then 1 else 0 := rfl
    rw [e] at k
    refine ite2 (fun c => ?_) (fun c => ?_)
    · have c : l < r := by
        have := of_decide_eq_true c
        omega
      rw [if_pos c] at k
      exact k
    · have c : ¬ l < r := fun h => c (decide_eq_true (by omega))
      rw [if_neg c] at k
      exact k
theorem ok_is_equal (T : Txt K mg a) : ∃ fd, FnOk P w K mg base CX0 1 a.d_is_equal fd ["left", "right"] (spWork 101) ∧ Binds K fd ["left", "right"] [] := by
  obtain ⟨fd, F, b⟩ := T.d_is_equal.F
  refine ⟨fd, F.ok sc_is_equal (fun vs H Q E h => ?_) (fun cdv A outer s H vs Q E hr h => ?_), b⟩
  · obtain ⟨_, _, rfl, _⟩ := h
    rfl
  · obtain ⟨l, r, rfl, hl, hr', k⟩ := h
    refine ⟨_, (pss_one (ps_ret (pe_ifExp (pt_cmpR op_eq (pv 0) (pv 1) (nomark _)) pe_int pe_int))), ?_⟩
    walk_at "rs"
    have e : work 101 l r = if l = r then 1 else 0 := rfl
    rw [e] at k
    refine ite2 (fun c => ?_) (fun c => ?_)
    · have c : l = r := by
        have := of_decide_eq_true c
        have := V.int.inj this
        omega
      rw [if_pos c] at k
      exact k
    · have c : ¬ l = r := fun h => c (decide_eq_true (by rw [h]))
      rw [if_neg c] at k
      exact k

theorem works (TE : TxtE w K mg a) (T : Txt K mg a) {c : Nat} (h : c = 97 ∨ c = 115 ∨ c = 109 ∨ c = 116 ∨ c = 99 ∨ c = 101) : ∃ f fd, KDct K w a.P_OF_TWO ⟨#[c]⟩ (.ref f) ∧ FnOk P w K mg base CX0 1 f fd ["left", "right"] (spWork c) ∧ Binds K fd ["left", "right"] [] ∧ PySem.W.keepIn K (.ref f) = true := by
  rcases h with rfl | rfl | rfl | rfl | rfl | rfl
  · obtain ⟨fd, F, b⟩ := ok_plus (P := P) (w := w) (base := base) T
    exact ⟨_, fd, TE.tab_OF_TWO.get rfl, F, b, T.d_plus.kp⟩
  · obtain ⟨fd, F, b⟩ := ok_minus (P := P) (w := w) (base := base) T
    exact ⟨_, fd, TE.tab_OF_TWO.get rfl, F, b, T.d_minus.kp⟩
  · obtain ⟨fd, F, b⟩ := ok_times (P := P) (w := w) (base := base) T
    exact ⟨_, fd, TE.tab_OF_TWO.get rfl, F, b, T.d_times.kp⟩
  · obtain ⟨fd, F, b⟩ := ok_append_digit (P := P) (w := w) (base := base) T
    exact ⟨_, fd, TE.tab_OF_TWO.get rfl, F, b, T.d_append_digit.kp⟩
  · obtain ⟨fd, F, b⟩ := ok_is_less (P := P) (w := w) (base := base) T
    exact ⟨_, fd, TE.tab_OF_TWO.get rfl, F, b, T.d_is_less.kp⟩
  · obtain ⟨fd, F, b⟩ := ok_is_equal (P := P) (w := w) (base := base) T
    exact ⟨_, fd, TE.tab_OF_TWO.get rfl, F, b, T.d_is_equal.kp⟩
theorem of_two {c : Nat} {x1 x2 x3 x4 x5 x6 : Addr} : (([("a", x1), ("s", x2), ("m", x3), ("t", x4), ("c", x5), ("e", x6)] : List (Str × Addr)).lookup ⟨#[c]⟩).isSome = decide (c = 97 ∨ c = 115 ∨ c = 109 ∨ c = 116 ∨ c = 99 ∨ c = 101) := by
  have e : ∀ k : Nat, ((⟨#[c]⟩ : Str) == ⟨#[k]⟩) = decide (c = k) := fun k => by
    by_cases h : c = k
    · rw [h, decide_eq_true rfl, beq_self_eq_true]
    · rw [decide_eq_false h, beq_eq_false_iff_ne.mpr fun e => h ((sg_eq c k).mp e)]
  have e1 := e 97
  have e2 := e 115
  have e3 := e 109
  have e4 := e 116
  have e5 := e 99
  have e6 := e 101
  rw [show (⟨#[97]⟩ : Str) = "a" from rfl] at e1
  rw [show (⟨#[115]⟩ : Str) = "s" from rfl] at e2
  rw [show (⟨#[109]⟩ : Str) = "m" from rfl] at e3
  rw [show (⟨#[116]⟩ : Str) = "t" from rfl] at e4
  rw [show (⟨#[99]⟩ : Str) = "c" from rfl] at e5
  rw [show (⟨#[101]⟩ : Str) = "e" from rfl] at e6
  simp only [List.lookup, e1, e2, e3, e4, e5, e6]
  by_cases h1 : c = 97
  · simp [h1]
  by_cases h2 : c = 115
  · simp [h2]
  by_cases h3 : c = 109
  · simp [h3]
  by_cases h4 : c = 116
  · simp [h4]
  by_cases h5 : c = 99
  · simp [h5]
  by_cases h6 : c = 101
  · simp [h6]
  simp [h1, h2, h3, h4, h5, h6]
theorem in_signs (c : Nat) (ks : List Nat) : inV (V.str ⟨#[c]⟩) (ks.map fun k => V.str ⟨#[k]⟩) = decide (c ∈ ks) := by
  unfold inV
  rw [List.any_map, Bool.eq_iff_iff, List.any_eq_true, decide_eq_true_iff]
  constructor
  · rintro ⟨k, hk, e⟩
    have e : decide ((⟨#[k]⟩ : Str) = ⟨#[c]⟩) = true := e
    rw [(sg_eq k c).mp (of_decide_eq_true e)] at hk
    exact hk
  · intro h
    exact ⟨c, h, decide_eq_true rfl⟩

theorem small8000 {n : Nat} (h : n ≤ 8000) : n < sizeLine := by
  rw [sizeLine_eq]
  omega
theorem ok_Machine_push_number (TE : TxtE w K mg a) (T : Txt K mg a) : ∃ fd, FnOk P w K mg base (L2.CX P w) 2 a.d_Machine_push_number fd ["self", "sign"] (spSign a.C_Machine a.C_Failed numberM fun _ => True) ∧ Binds K fd ["self", "sign"] [] := by
  obtain ⟨fd, F, b⟩ := T.d_Machine_push_number.F
  obtain ⟨fd_Machine_push, G_Machine_push, b_Machine_push⟩ := ok_Machine_push (P := P) (w := w) (base := base) TE T
  refine ⟨fd, F.okX sc_Machine_push_number (fun vs H Q E h => ?_) (fun cdv A outer s H vs Q E hr h => ?_), b⟩
  · obtain ⟨_, _, _, _, _, _, rfl, _⟩ := h
    rfl
  · obtain ⟨p, D, L, G, m, c, rfl, -, hm, hf, k⟩ := h
    obtain ⟨dx, hp, hD, hL⟩ := id hm
    refine ⟨_, (pss_one (ps_if (pt_cmpR op_eq (pv 1) pe_str (nomark _))
      (pss_one (ps_expr (pe_meth (pv 0) T.cl_Machine T.me_Machine_push G_Machine_push (hr.mono (by decide)) b_Machine_push .nil (L2.passes_call (W := fun c d _ H => E c d H) (E := E) (L2.takes_of rfl rfl rfl rfl) (fun _ _ _ _ h => h)) (pa_cons (pe_fld (pv 0) rfl) pa_nil))))
      (pss_one (ps_if (pt_cmpR op_eq (pv 1) pe_str (nomark _))
        (pss_one (ps_expr (pe_meth (pv 0) T.cl_Machine T.me_Machine_push G_Machine_push (hr.mono (by decide)) b_Machine_push .nil (L2.passes_call (W := fun c d _ H => E c d H) (E := E) (L2.takes_of rfl rfl rfl rfl) (fun _ _ _ _ h => h)) (pa_cons (pe_fld (pv 0) rfl) pa_nil))))
        (pss_one (ps_expr (pe_meth (pv 0) T.cl_Machine T.me_Machine_push G_Machine_push (hr.mono (by decide)) b_Machine_push .nil (L2.passes_call (W := fun c d _ H => E c d H) (E := E) (L2.takes_of rfl rfl rfl rfl) (fun _ _ _ _ h => h)) (pa_cons (pe_callB call_len_seq (by rfl) T.n_len PySem.boot_len (pa_cons (pe_fld (pv 0) rfl) pa_nil)) pa_nil)))))))), ?_⟩
    unfold numberM at k
    walk_at "rs"
    refine ite2 (fun c1 => ?_) (fun c1 => ?_)
    · have c1 : c = 103 := (sg_eq c 103).mp (V.str.inj (of_decide_eq_true c1))
      rw [if_pos c1] at k
      walk_at "rs"
      refine ⟨p, dx, _, rfl, hp, rfl, ?_⟩
      walk_at "rs"
      refine ⟨p, _, dx, _, .int (G.given : Nat), rfl, hp, T.cl_Machine, T.a_Machine_given, rfl, ?_⟩
      exact ⟨p, D, L, G, m, _, rfl, hm, hf, k⟩
    · have c1 : c ≠ 103 := fun e => c1 (decide_eq_true (congrArg V.str ((sg_eq c 103).mpr e)))
      rw [if_neg c1] at k
      walk_at "rs"
      refine ite2 (fun c2 => ?_) (fun c2 => ?_)
      · have c2 : c = 105 := (sg_eq c 105).mp (V.str.inj (of_decide_eq_true c2))
        rw [if_pos c2] at k
        walk_at "rs"
        refine ⟨p, dx, _, rfl, hp, rfl, ?_⟩
        walk_at "rs"
        refine ⟨p, _, dx, _, .int (G.amount : Nat), rfl, hp, T.cl_Machine, T.a_Machine_amount, rfl, ?_⟩
        exact ⟨p, D, L, G, m, _, rfl, hm, hf, k⟩
      · have c2 : c ≠ 105 := fun e => c2 (decide_eq_true (congrArg V.str ((sg_eq c 105).mpr e)))
        rw [if_neg c2] at k
        have hl : (m.stk.map fun n => V.int (n : Nat)).length = m.stk.length := List.length_map ..
        walk_at "rs"
        refine ⟨p, dx, _, rfl, hp, rfl, ?_⟩
        walk_at "rs"
        refine ⟨p, _, dx, _, .ref L, rfl, hp, T.cl_Machine, T.a_Machine_stack, rfl, ?_⟩
        refine ⟨L, _, rfl, .inl (SqL.of hL), ?_⟩
        exact ⟨p, D, L, G, m, _, by rw [hl]; rfl, hm, hf, k⟩
theorem ok_Machine_combine (TE : TxtE w K mg a) (T : Txt K mg a) : ∃ fd, FnOk P w K mg base (L2.CX P w) 2 a.d_Machine_combine fd ["self", "sign"] (spSign a.C_Machine a.C_Failed (fun _ => combineM) fun c => c = 97 ∨ c = 115 ∨ c = 109 ∨ c = 116 ∨ c = 99 ∨ c = 101) ∧ Binds K fd ["self", "sign"] [] := by
  obtain ⟨fd, F, b⟩ := T.d_Machine_combine.F
  obtain ⟨fd_Machine_take, G_Machine_take, b_Machine_take⟩ := ok_Machine_take (P := P) (w := w) (base := base) TE T
  obtain ⟨fd_Machine_push, G_Machine_push, b_Machine_push⟩ := ok_Machine_push (P := P) (w := w) (base := base) TE T
  refine ⟨fd, F.okX sc_Machine_combine (fun vs H Q E h => ?_) (fun cdv A outer s H vs Q E hr h => ?_), b⟩
  · obtain ⟨_, _, _, _, _, _, rfl, _⟩ := h
    rfl
  · obtain ⟨p, D, L, G, m, c, rfl, hc, hm, hf, k⟩ := h
    obtain ⟨dx, hp, hD, hL⟩ := id hm
    obtain ⟨wf, wfd, wk, wF, wb, wkp⟩ := works (P := P) (base := base) TE T hc
    refine ⟨_, (pss_cons (ps_set (i := 2) sc_Machine_combine.nd rfl (Or.inl rfl) (pe_ix ix_kdict (pe_glob (v := .ref a.P_OF_TWO) rfl TE.g_OF_TWO rfl) (pv 1) (fun _ _ => rfl)))
      (pss_cons (ps_set (i := 3) sc_Machine_combine.nd rfl (Or.inl rfl) (pe_meth0 (pv 0) T.cl_Machine T.me_Machine_take G_Machine_take (hr.mono (by decide)) b_Machine_take .nil (L2.passes_call (W := fun c d _ H => E c d H) (E := E) (L2.takes_of rfl rfl rfl rfl) (fun _ _ _ _ h => h))))
      (pss_cons (ps_set (i := 4) sc_Machine_combine.nd rfl (Or.inl rfl) (pe_meth0 (pv 0) T.cl_Machine T.me_Machine_take G_Machine_take (hr.mono (by decide)) b_Machine_take .nil (L2.passes_call (W := fun c d _ H => E c d H) (E := E) (L2.takes_of rfl rfl rfl rfl) (fun _ _ _ _ h => h))))
      (pss_one (ps_expr (pe_meth (pv 0) T.cl_Machine T.me_Machine_push G_Machine_push (hr.mono (by decide)) b_Machine_push .nil (L2.passes_call (W := fun c d _ H => E c d H) (E := E) (L2.takes_of rfl rfl rfl rfl) (fun _ _ _ _ h => h)) (pa_cons (pe_callV (k := 1) (i := 2) (hr.mono (by decide)) rfl (Or.inl rfl) (pa_cons (pv 4) (pa_cons (pv 3) pa_nil))) pa_nil))))))), ?_⟩
    replace k : Res a.C_Machine a.C_Failed p D L G H m (combineM c m) Q E := k
    unfold combineM at k
    walk_at "rs"
    refine ⟨_, _, _, rfl, rfl, wk, ?_⟩
    walk_at "rs"
    refine ⟨p, dx, _, rfl, hp, rfl, ?_⟩
    refine ⟨p, D, L, G, m, rfl, hm, hf, fun t1 m1 H1 e1 hm1 o1 => ?_, fun e m' H' h1 s1 o1 => k.2 (by rw [e]; rfl) m' H' h1 s1 o1⟩
    obtain ⟨hf1, lt1, st1, -⟩ := hf.take e1
    rw [e1] at k
    have k := k.on st1 o1
    obtain ⟨dx1, hp1, -⟩ := id hm1
    walk_at "rs"
    refine ⟨p, dx1, _, rfl, hp1, rfl, ?_⟩
    refine ⟨p, D, L, G, m1, rfl, hm1, hf1, fun t2 m2 H2 e2 hm2 o2 => ?_, fun e m' H' h1 s1 o1 => k.2 (by show (takeM m1).bind _ = _; rw [e]; rfl) m' H' h1 s1 o1⟩
    obtain ⟨hf2, lt2, st2, -⟩ := hf1.take e2
    have k : Res a.C_Machine a.C_Failed p D L G H1 m1 ((takeM m1).bind fun y => pushM (work c y.1 t1) y.2) Q E := k
    rw [e2] at k
    have k := k.on st2 o2
    obtain ⟨dx2, hp2, -⟩ := id hm2
    walk_at "rs"
    refine ⟨p, dx2, _, rfl, hp2, rfl, ?_⟩
    walk_at "rs"
    refine ⟨wf, wfd, _, _, rfl, wF, wb, wkp, ?_⟩
    walk_at "rs"
    exact ⟨t2, t1, rfl, lt2, lt1, p, D, L, G, m2, _, rfl, hm2, hf2, k⟩
theorem ok_Machine_move (TE : TxtE w K mg a) (T : Txt K mg a) : ∃ fd, FnOk P w K mg base (L2.CX P w) 2 a.d_Machine_move fd ["self", "sign"] (spSign a.C_Machine a.C_Failed (fun _ => moveM) fun _ => True) ∧ Binds K fd ["self", "sign"] [] := by
  obtain ⟨fd, F, b⟩ := T.d_Machine_move.F
  obtain ⟨fd_Machine_take, G_Machine_take, b_Machine_take⟩ := ok_Machine_take (P := P) (w := w) (base := base) TE T
  obtain ⟨fd_Machine_push, G_Machine_push, b_Machine_push⟩ := ok_Machine_push (P := P) (w := w) (base := base) TE T
  refine ⟨fd, F.okX sc_Machine_move (fun vs H Q E h => ?_) (fun cdv A outer s H vs Q E hr h => ?_), b⟩
  · obtain ⟨_, _, _, _, _, _, rfl, _⟩ := h
    rfl
  · obtain ⟨p, D, L, G, m, c, rfl, hc, hm, hf, k⟩ := h
    obtain ⟨dx, hp, hD, hL⟩ := id hm
    refine ⟨_, (pss_cons (ps_set (i := 2) sc_Machine_move.nd rfl (Or.inl rfl) (pe_meth0 (pv 0) T.cl_Machine T.me_Machine_take G_Machine_take (hr.mono (by decide)) b_Machine_take .nil (L2.passes_call (W := fun c d _ H => E c d H) (E := E) (L2.takes_of rfl rfl rfl rfl) (fun _ _ _ _ h => h))))
      (pss_one (ps_if (pt_cmpR op_eq (pv 1) pe_str (nomark _))
      (pss_cons (ps_expr (pe_meth (pv 0) T.cl_Machine T.me_Machine_push G_Machine_push (hr.mono (by decide)) b_Machine_push .nil (L2.passes_call (W := fun c d _ H => E c d H) (E := E) (L2.takes_of rfl rfl rfl rfl) (fun _ _ _ _ h => h)) (pa_cons (pv 2) pa_nil)))
        (pss_one (ps_expr (pe_meth (pv 0) T.cl_Machine T.me_Machine_push G_Machine_push (hr.mono (by decide)) b_Machine_push .nil (L2.passes_call (W := fun c d _ H => E c d H) (E := E) (L2.takes_of rfl rfl rfl rfl) (fun _ _ _ _ h => h)) (pa_cons (pv 2) pa_nil)))))
      (pss_one (ps_if (pt_cmpR op_eq (pv 1) pe_str (nomark _))
        (pss_one (ps_expr (pe_meth (pv 0) T.cl_Machine T.me_Machine_push G_Machine_push (hr.mono (by decide)) b_Machine_push .nil (L2.passes_call (W := fun c d _ H => E c d H) (E := E) (L2.takes_of rfl rfl rfl rfl) (fun _ _ _ _ h => h)) (pa_cons (pe_dget2 (hu_of hr) (pe_fld (pv 0) rfl) (pv 2) pe_int ⟨rfl, rfl, rfl, rfl⟩) pa_nil))))
        (pss_one (ps_dput (hu_of hr) (pe_fld (pv 0) rfl) (pv 2) (pe_meth0 (pv 0) T.cl_Machine T.me_Machine_take G_Machine_take (hr.mono (by decide)) b_Machine_take .nil (L2.passes_call (W := fun c d _ H => E c d H) (E := E) (L2.takes_of rfl rfl rfl rfl) (fun _ _ _ _ h => h))) rfl))))))), ?_⟩
    replace k : Res a.C_Machine a.C_Failed p D L G H m (moveM c m) Q E := k
    unfold moveM at k
    walk_at "rs"
    refine ⟨p, dx, _, rfl, hp, rfl, ?_⟩
    refine ⟨p, D, L, G, m, rfl, hm, hf, fun t1 m1 H1 e1 hm1 o1 => ?_, fun e m' H' h1 s1 o1 => k.2 (by rw [e]; rfl) m' H' h1 s1 o1⟩
    obtain ⟨hf1, lt1, st1, -⟩ := hf.take e1
    rw [e1] at k
    have k := k.on st1 o1
    have k : Res a.C_Machine a.C_Failed p D L G H1 m1 (if c = 104 then (pushM t1 m1).bind (pushM t1) else if c = 108 then pushM (getN m1.kv t1) m1 else (takeM m1).map fun y => { y.2 with kv := putN y.2.kv t1 y.1 }) Q E := k
    obtain ⟨dx1, hp1, hD1, hL1⟩ := id hm1
    walk_at "rs"
    refine ite2 (fun c1 => ?_) (fun c1 => ?_)
    · have c1 : c = 104 := (sg_eq c 104).mp (V.str.inj (of_decide_eq_true c1))
      rw [if_pos c1] at k
      walk_at "rs"
      refine ⟨p, dx1, _, rfl, hp1, rfl, ?_⟩
      walk_at "rs"
      refine ⟨p, D, L, G, m1, t1, rfl, hm1, hf1, fun m2 H2 e2 hm2 o2 => ?_, fun e m' H' h1 s1 o1 => k.2 (by rw [e]; rfl) m' H' h1 s1 o1⟩
      obtain ⟨hf2, st2, -⟩ := hf1.push e2
      rw [e2] at k
      have k := k.on st2 o2
      obtain ⟨dx2, hp2, -⟩ := id hm2
      walk_at "rs"
      refine ⟨p, dx2, _, rfl, hp2, rfl, ?_⟩
      walk_at "rs"
      exact ⟨p, D, L, G, m2, t1, rfl, hm2, hf2, k⟩
    · have c1 : c ≠ 104 := fun e => c1 (decide_eq_true (congrArg V.str ((sg_eq c 104).mpr e)))
      rw [if_neg c1] at k
      walk_at "rs"
      refine ite2 (fun c2 => ?_) (fun c2 => ?_)
      · have c2 : c = 108 := (sg_eq c 108).mp (V.str.inj (of_decide_eq_true c2))
        rw [if_pos c2] at k
        walk_at "rs"
        refine ⟨p, dx1, _, rfl, hp1, rfl, ?_⟩
        walk_at "rs"
        refine ⟨p, _, dx1, _, .ref D, rfl, hp1, T.cl_Machine, T.a_Machine_store, rfl, ?_⟩
        refine ⟨D, rfl, .inl ⟨_, .of hD1⟩, ?_⟩
        walk_at "rs"
        refine ⟨_, DGet.k (k := Sum.inl (t1 : Int)) hD1, ?_⟩
        rw [get_kv]
        exact ⟨p, D, L, G, m1, _, rfl, hm1, hf1, k⟩
      · have c2 : c ≠ 108 := fun e => c2 (decide_eq_true (congrArg V.str ((sg_eq c 108).mpr e)))
        rw [if_neg c2] at k
        walk_at "rs"
        refine ⟨p, dx1, _, rfl, hp1, rfl, ?_⟩
        refine ⟨p, D, L, G, m1, rfl, hm1, hf1, fun t2 m2 H2 e2 hm2 o2 => ?_, fun e m' H' h1 s1 o1 => k.2 (by rw [e]; rfl) m' H' h1 s1 o1⟩
        obtain ⟨hf2, lt2, st2, -⟩ := hf1.take e2
        rw [e2] at k
        have k := k.on st2 o2
        obtain ⟨npD, npL, nDL⟩ := hm2.ne
        obtain ⟨dx2, hp2, hD2, hL2⟩ := id hm2
        walk_at "rs"
        refine ⟨p, _, dx2, _, .ref D, rfl, hp2, T.cl_Machine, T.a_Machine_store, rfl, ?_⟩
        walk_at "rs"
        refine ⟨D, _, rfl, DPut.k (k := Sum.inl (t1 : Int)) hD2 (by rw [len_kv]; exact small8000 (by have : m2.kv.length ≤ 7900 := hf2.2.1; omega)), ?_⟩
        refine k.1 _ _ rfl ⟨dx2, ?_, ?_, ?_⟩ fun b o n1 n2 n3 e => ?_
        · rw [upd_ne npD]
          exact hp2
        · rw [upd_same, put_kv]
        · rw [upd_ne (fun e => nDL e.symm)]
          exact hL2
        · rw [upd_ne n2]
          exact e
theorem ok_Machine_jump (TE : TxtE w K mg a) (T : Txt K mg a) : ∃ fd, FnOk P w K mg base (L2.CX P w) 2 a.d_Machine_jump fd ["self", "sign"] (spSign a.C_Machine a.C_Failed (fun _ => jumpM) fun _ => True) ∧ Binds K fd ["self", "sign"] [] := by
  obtain ⟨fd, F, b⟩ := T.d_Machine_jump.F
  obtain ⟨fd_Machine_take, G_Machine_take, b_Machine_take⟩ := ok_Machine_take (P := P) (w := w) (base := base) TE T
  refine ⟨fd, F.okX sc_Machine_jump (fun vs H Q E h => ?_) (fun cdv A outer s H vs Q E hr h => ?_), b⟩
  · obtain ⟨_, _, _, _, _, _, rfl, _⟩ := h
    rfl
  · obtain ⟨p, D, L, G, m, c, rfl, hc, hm, hf, k⟩ := h
    obtain ⟨dx, hp, hD, hL⟩ := id hm
    refine ⟨_, (pss_cons (ps_set (i := 2) sc_Machine_jump.nd rfl (Or.inl rfl) (pe_meth0 (pv 0) T.cl_Machine T.me_Machine_take G_Machine_take (hr.mono (by decide)) b_Machine_take .nil (L2.passes_call (W := fun c d _ H => E c d H) (E := E) (L2.takes_of rfl rfl rfl rfl) (fun _ _ _ _ h => h))))
      (pss_one (ps_if (PW.pt (pw_or (pt_cmpR op_eq (pv 1) pe_str (nomark _)) (pw_or1 (pt_cmpR op_eq (pe_meth0 (pv 0) T.cl_Machine T.me_Machine_take G_Machine_take (hr.mono (by decide)) b_Machine_take .nil (L2.passes_call (W := fun c d _ H => E c d H) (E := E) (L2.takes_of rfl rfl rfl rfl) (fun _ _ _ _ h => h))) pe_int (nomark _)))))
      (pss_one (ps_fld (pv 0) (pv 2) rfl))
      pss_nil))), ?_⟩
    replace k : Res a.C_Machine a.C_Failed p D L G H m (jumpM c m) Q E := k
    unfold jumpM at k
    walk_at "rs"
    refine ⟨p, dx, _, rfl, hp, rfl, ?_⟩
    refine ⟨p, D, L, G, m, rfl, hm, hf, fun t1 m1 H1 e1 hm1 o1 => ?_, fun e m' H' h1 s1 o1 => k.2 (by rw [e]; rfl) m' H' h1 s1 o1⟩
    obtain ⟨hf1, lt1, st1, -⟩ := hf.take e1
    rw [e1] at k
    have k := k.on st1 o1
    have k : Res a.C_Machine a.C_Failed p D L G H1 m1 (if c = 106 then some { m1 with pl := t1 } else (takeM m1).map fun y => if y.1 = 0 then { y.2 with pl := t1 } else y.2) Q E := k
    obtain ⟨npD, npL, nDL⟩ := hm1.ne
    obtain ⟨dx1, hp1, hD1, hL1⟩ := id hm1
    walk_at "rs"
    have put : ∀ (m2 : Mc) (H2 : Hp), MAt a.C_Machine H2 p D L G m2 → ∃ dx2, H2 p = some (.ins a.C_Machine dx2 [("code", .str G.code), ("given", .int (G.given : Nat)), ("amount", .int (G.amount : Nat)), ("store", .ref D), ("stack", .ref L), ("place", .int (m2.pl : Nat)), ("paid", .int (m2.pd : Nat)), ("steps", .int (m2.st : Nat))]) ∧
        MAt a.C_Machine (upd H2 p (.ins a.C_Machine dx2 [("code", .str G.code), ("given", .int (G.given : Nat)), ("amount", .int (G.amount : Nat)), ("store", .ref D), ("stack", .ref L), ("place", .int (t1 : Nat)), ("paid", .int (m2.pd : Nat)), ("steps", .int (m2.st : Nat))])) p D L G { m2 with pl := t1 } := fun m2 H2 h2 => by
      obtain ⟨n1, n2, n3⟩ := h2.ne
      obtain ⟨dx2, hp2, hD2, hL2⟩ := h2
      exact ⟨dx2, hp2, dx2, upd_same, by rw [upd_ne (fun e => n1 e.symm)]; exact hD2, by rw [upd_ne (fun e => n2 e.symm)]; exact hL2⟩
    refine ite2 (fun c1 => ?_) (fun c1 => ?_)
    · have c1 : c = 106 := (sg_eq c 106).mp (V.str.inj (of_decide_eq_true c1))
      rw [if_pos c1] at k
      obtain ⟨dx2, hp2, hm2⟩ := put m1 H1 hm1
      walk_at "rs"
      refine ⟨p, _, dx2, _, rfl, hp2, T.cl_Machine, T.a_Machine_place, (by show 8 < 1000; decide), ?_⟩
      exact k.1 _ _ rfl hm2 fun b o n1 n2 n3 e => by rw [upd_ne n1]; exact e
    · have c1 : c ≠ 106 := fun e => c1 (decide_eq_true (congrArg V.str ((sg_eq c 106).mpr e)))
      rw [if_neg c1] at k
      walk_at "rs"
      refine ⟨p, dx1, _, rfl, hp1, rfl, ?_⟩
      refine ⟨p, D, L, G, m1, rfl, hm1, hf1, fun t2 m2 H2 e2 hm2 o2 => ?_, fun e m' H' h1 s1 o1 => k.2 (by rw [e]; rfl) m' H' h1 s1 o1⟩
      obtain ⟨hf2, lt2, st2, -⟩ := hf1.take e2
      rw [e2] at k
      have k := k.on st2 o2
      have k : Res a.C_Machine a.C_Failed p D L G H2 m2 (some (if t2 = 0 then { m2 with pl := t1 } else m2)) Q E := k
      obtain ⟨dx2, hp2, hm3⟩ := put m2 H2 hm2
      walk_at "rs"
      refine ite2 (fun c2 => ?_) (fun c2 => ?_)
      · have c2 : t2 = 0 := by
          have := V.int.inj (of_decide_eq_true c2)
          omega
        rw [if_pos c2] at k
        walk_at "rs"
        refine ⟨p, _, dx2, _, rfl, hp2, T.cl_Machine, T.a_Machine_place, (by show 8 < 1000; decide), ?_⟩
        exact k.1 _ _ rfl hm3 fun b o n1 n2 n3 e => by rw [upd_ne n1]; exact e
      · have c2 : ¬ t2 = 0 := fun h => c2 (decide_eq_true (by rw [h]; rfl))
        rw [if_neg c2] at k
        exact k.1 _ _ rfl hm2 .rfl
theorem ok_Machine_settle (TE : TxtE w K mg a) (T : Txt K mg a) : ∃ fd, FnOk P w K mg base (L2.CX P w) 2 a.d_Machine_settle fd ["self", "sign"] (spSign a.C_Machine a.C_Failed (fun _ => settleM) fun _ => True) ∧ Binds K fd ["self", "sign"] [] := by
  obtain ⟨fd, F, b⟩ := T.d_Machine_settle.F
  obtain ⟨fd_Machine_take, G_Machine_take, b_Machine_take⟩ := ok_Machine_take (P := P) (w := w) (base := base) TE T
  refine ⟨fd, F.okX sc_Machine_settle (fun vs H Q E h => ?_) (fun cdv A outer s H vs Q E hr h => ?_), b⟩
  · obtain ⟨_, _, _, _, _, _, rfl, _⟩ := h
    rfl
  · obtain ⟨p, D, L, G, m, c, rfl, hc, hm, hf, k⟩ := h
    obtain ⟨dx, hp, hD, hL⟩ := id hm
    refine ⟨_, (pss_cons (ps_set (i := 2) sc_Machine_settle.nd rfl (Or.inl rfl) (pe_meth0 (pv 0) T.cl_Machine T.me_Machine_take G_Machine_take (hr.mono (by decide)) b_Machine_take .nil (L2.passes_call (W := fun c d _ H => E c d H) (E := E) (L2.takes_of rfl rfl rfl rfl) (fun _ _ _ _ h => h))))
      (pss_one (ps_if (pt_cmpR op_eq (pv 1) pe_str (nomark _))
      (pss_one (ps_fldaug (pv 0) (pv 2) in_add))
      (pss_one (ps_if (pt_cmpR op_eq (pv 2) pe_int (nomark _))
        (pss_one (ps_raise rfl (takes_of rfl rfl rfl rfl) (pmk_own PySem.F.excBase_ValueError TE.x_Failed TE.g_Failed TE.kc_Failed (raises_own TE.b_Failed TE.t_Failed) rfl)))
        pss_nil))))), ?_⟩
    replace k : Res a.C_Machine a.C_Failed p D L G H m (settleM c m) Q E := k
    unfold settleM at k
    walk_at "rs"
    refine ⟨p, dx, _, rfl, hp, rfl, ?_⟩
    refine ⟨p, D, L, G, m, rfl, hm, hf, fun t1 m1 H1 e1 hm1 o1 => ?_, fun e m' H' h1 s1 o1 => k.2 (by rw [e]; rfl) m' H' h1 s1 o1⟩
    obtain ⟨hf1, lt1, st1, -⟩ := hf.take e1
    rw [e1] at k
    have k := k.on st1 o1
    have k : Res a.C_Machine a.C_Failed p D L G H1 m1 (if c = 121 then some { m1 with pd := m1.pd + t1 } else if t1 = 0 then none else some m1) Q E := k
    obtain ⟨npD, npL, nDL⟩ := hm1.ne
    obtain ⟨dx1, hp1, hD1, hL1⟩ := id hm1
    walk_at "rs"
    refine ite2 (fun c1 => ?_) (fun c1 => ?_)
    · have c1 : c = 121 := (sg_eq c 121).mp (V.str.inj (of_decide_eq_true c1))
      rw [if_pos c1] at k
      walk_at "rs"
      refine ⟨p, _, dx1, _, .int (m1.pd : Nat), rfl, hp1, T.cl_Machine, T.a_Machine_paid, rfl, ?_⟩
      walk_at "rs"
      refine ⟨dx1, _, hp1, (by show 8 < 1000; decide), ?_⟩
      refine k.1 _ _ rfl ⟨dx1, upd_same, by rw [upd_ne (fun e => npD e.symm)]; exact hD1, by rw [upd_ne (fun e => npL e.symm)]; exact hL1⟩ fun b o n1 n2 n3 e => by rw [upd_ne n1]; exact e
    · have c1 : c ≠ 121 := fun e => c1 (decide_eq_true (congrArg V.str ((sg_eq c 121).mpr e)))
      rw [if_neg c1] at k
      walk_at "rs"
      refine ite2 (fun c2 => ?_) (fun c2 => ?_)
      · have c2 : t1 = 0 := by
          have := V.int.inj (of_decide_eq_true c2)
          omega
        rw [if_pos c2] at k
        exact k.2 rfl m1 H1 hm1 rfl .rfl
      · have c2 : ¬ t1 = 0 := fun h => c2 (decide_eq_true (by rw [h]; rfl))
        rw [if_neg c2] at k
        exact k.1 _ _ rfl hm1 .rfl

theorem MAt.new {C : Addr} {H : Hp} {p D L t : Addr} {G : Gv} {m : Mc} {o : HO} (h : MAt C H p D L G m) (n : H t = none) : MAt C (upd H t o) p D L G m := by
  obtain ⟨dx, h1, h2, h3⟩ := h
  exact ⟨dx, by rw [upd_ne (ne_of_none h1 n)]; exact h1, by rw [upd_ne (ne_of_none h2 n)]; exact h2, by rw [upd_ne (ne_of_none h3 n)]; exact h3⟩
theorem Oth.new {H : Hp} {p D L t : Addr} {o : HO} (n : H t = none) : Oth p D L H (upd H t o) := fun b u _ _ _ e => by
  rw [upd_ne (ne_of_none e n)]
  exact e
theorem ok_Machine_perform (TE : TxtE w K mg a) (T : Txt K mg a) : ∃ fd, FnOk P w K mg base (L2.CX P w) 3 a.d_Machine_perform fd ["self", "sign"] (spSign a.C_Machine a.C_Failed performM fun _ => True) ∧ Binds K fd ["self", "sign"] [] := by
  obtain ⟨fd, F, b⟩ := T.d_Machine_perform.F
  obtain ⟨fd_Machine_push, G_Machine_push, b_Machine_push⟩ := ok_Machine_push (P := P) (w := w) (base := base) TE T
  obtain ⟨fd_Machine_push_number, G_Machine_push_number, b_Machine_push_number⟩ := ok_Machine_push_number (P := P) (w := w) (base := base) TE T
  obtain ⟨fd_Machine_combine, G_Machine_combine, b_Machine_combine⟩ := ok_Machine_combine (P := P) (w := w) (base := base) TE T
  obtain ⟨fd_Machine_move, G_Machine_move, b_Machine_move⟩ := ok_Machine_move (P := P) (w := w) (base := base) TE T
  obtain ⟨fd_Machine_jump, G_Machine_jump, b_Machine_jump⟩ := ok_Machine_jump (P := P) (w := w) (base := base) TE T
  obtain ⟨fd_Machine_settle, G_Machine_settle, b_Machine_settle⟩ := ok_Machine_settle (P := P) (w := w) (base := base) TE T
  refine ⟨fd, F.okX sc_Machine_perform (fun vs H Q E h => ?_) (fun cdv A outer s H vs Q E hr h => ?_), b⟩
  · obtain ⟨_, _, _, _, _, _, rfl, _⟩ := h
    rfl
  · obtain ⟨p, D, L, G, m, c, rfl, hc, hm, hf, k⟩ := h
    obtain ⟨dx, hp, hD, hL⟩ := id hm
    have dig : c ∈ (Str.ofString "0123456789").cps.toList ↔ 48 ≤ c ∧ c ≤ 57 := by
      rw [show (Str.ofString "0123456789").cps.toList = [48, 49, 50, 51, 52, 53, 54, 55, 56, 57] by decide +kernel]
      simp only [List.mem_cons, List.not_mem_nil, or_false]
      omega
    refine ⟨_, (pss_one (ps_if (pt_cmpR op_in_sign (pv 1) (pe_glob (v := (.str "0123456789")) rfl T.c_DIGITS.choose_spec ⟨_, rfl⟩) (by rfl))
      (pss_one (ps_expr (pe_meth (pv 0) T.cl_Machine T.me_Machine_push G_Machine_push (hr.mono (by decide)) b_Machine_push .nil (L2.passes_call (W := fun c d _ H => E c d H) (E := E) (L2.takes_of rfl rfl rfl rfl) (fun _ _ _ _ h => h)) (pa_cons (pe_callTy call_int_str (by rfl) T.n_int (by decide +kernel) (pa_cons (pv 1) pa_nil)) pa_nil))))
      (pss_one (ps_if (pt_cmpR op_in_seq (pv 1) (pe_tup (pa_cons pe_str (pa_cons pe_str (pa_cons pe_str pa_nil)))) (by rfl))
        (pss_one (ps_expr (pe_meth (pv 0) T.cl_Machine T.me_Machine_push_number G_Machine_push_number (hr.mono (by decide)) b_Machine_push_number .nil (L2.passes_call (W := fun c d _ H => E c d H) (E := E) (L2.takes_of rfl rfl rfl rfl) (fun _ _ _ _ h => h)) (pa_cons (pv 1) pa_nil))))
        (pss_one (ps_if (pt_cmpR op_inKd (pv 1) (pe_glob (v := .ref a.P_OF_TWO) rfl TE.g_OF_TWO rfl) (by rfl))
          (pss_one (ps_expr (pe_meth (pv 0) T.cl_Machine T.me_Machine_combine G_Machine_combine (hr.mono (by decide)) b_Machine_combine .nil (L2.passes_call (W := fun c d _ H => E c d H) (E := E) (L2.takes_of rfl rfl rfl rfl) (fun _ _ _ _ h => h)) (pa_cons (pv 1) pa_nil))))
          (pss_one (ps_if (pt_cmpR op_in_seq (pv 1) (pe_tup (pa_cons pe_str (pa_cons pe_str (pa_cons pe_str pa_nil)))) (by rfl))
            (pss_one (ps_expr (pe_meth (pv 0) T.cl_Machine T.me_Machine_move G_Machine_move (hr.mono (by decide)) b_Machine_move .nil (L2.passes_call (W := fun c d _ H => E c d H) (E := E) (L2.takes_of rfl rfl rfl rfl) (fun _ _ _ _ h => h)) (pa_cons (pv 1) pa_nil))))
            (pss_one (ps_if (pt_cmpR op_in_seq (pv 1) (pe_tup (pa_cons pe_str (pa_cons pe_str pa_nil))) (by rfl))
              (pss_one (ps_expr (pe_meth (pv 0) T.cl_Machine T.me_Machine_jump G_Machine_jump (hr.mono (by decide)) b_Machine_jump .nil (L2.passes_call (W := fun c d _ H => E c d H) (E := E) (L2.takes_of rfl rfl rfl rfl) (fun _ _ _ _ h => h)) (pa_cons (pv 1) pa_nil))))
              (pss_one (ps_expr (pe_meth (pv 0) T.cl_Machine T.me_Machine_settle G_Machine_settle (hr.mono (by decide)) b_Machine_settle .nil (L2.passes_call (W := fun c d _ H => E c d H) (E := E) (L2.takes_of rfl rfl rfl rfl) (fun _ _ _ _ h => h)) (pa_cons (pv 1) pa_nil)))))))))))))), ?_⟩
    unfold performM at k
    walk_at "rs"
    refine ite2 (fun c1 => ?_) (fun c1 => ?_)
    · have c1 := dig.mp (of_decide_eq_true c1)
      rw [if_pos c1] at k
      walk_at "rs"
      refine ⟨p, dx, _, rfl, hp, rfl, ?_⟩
      walk_at "rs"
      have hall : NumText.AllDigits [c] := fun n hn => by
        rw [List.mem_singleton.mp hn]
        exact c1
      refine ⟨_, _, rfl, PySem.intText_digits (x := ⟨#[c]⟩) hall (fun e => nomatch e) (by show 1 ≤ _; decide), (by show 1 ≤ 640; decide), ?_⟩
      refine ⟨p, D, L, G, m, c - 48, ?_, hm, hf, k⟩
      show [V.ref p, V.int ((NumText.digitsVal [c] : Nat) : Int)] = _
      rw [show NumText.digitsVal [c] = c - 48 by simp [NumText.digitsVal]]
    rw [if_neg (fun h => c1 (decide_eq_true (dig.mpr h)))] at k
    walk_at "rs"
    refine ⟨(by show 3 ≤ sizeLine; decide), fun t1 n1 => ?_⟩
    have hm1 := hm.new (o := .tup ([103, 105, 110].map fun k => V.str ⟨#[k]⟩)) n1
    replace k := k.on (m1 := m) rfl (Oth.new (o := .tup ([103, 105, 110].map fun k => V.str ⟨#[k]⟩)) n1)
    clear hm hp hD hL
    refine ⟨t1, [103, 105, 110].map fun k => V.str ⟨#[k]⟩, rfl, .inr (SqT.of upd_same), rfl, rfl, ?_⟩
    replace hm1 : MAt a.C_Machine (upd H t1 (.tup [.str "g", .str "i", .str "n"])) p D L G m := hm1
    obtain ⟨dx, hp, hD, hL⟩ := id hm1
    walk_at "rs"
    refine ite2 (fun c2 => ?_) (fun c2 => ?_)
    · replace c2 : inV (V.str ⟨#[c]⟩) ([103, 105, 110].map fun k => V.str ⟨#[k]⟩) = true := c2
      rw [in_signs, decide_eq_true_iff] at c2
      rw [if_pos (by simpa using c2)] at k
      walk_at "rs"
      refine ⟨p, dx, _, rfl, hp, rfl, ?_⟩
      walk_at "rs"
      exact ⟨p, D, L, G, m, c, rfl, trivial, hm1, hf, k⟩
    replace c2 : ¬ inV (V.str ⟨#[c]⟩) ([103, 105, 110].map fun k => V.str ⟨#[k]⟩) = true := c2
    rw [in_signs, decide_eq_true_iff] at c2
    rw [if_neg (by simpa using c2)] at k
    walk_at "rs"
    refine ⟨_, _, _, rfl, rfl, TE.tab_OF_TWO.has _, ?_⟩
    walk_at "rs"
    rw [of_two]
    refine ite2 (fun c3 => ?_) (fun c3 => ?_)
    · have c3 := of_decide_eq_true c3
      rw [if_pos c3] at k
      walk_at "rs"
      refine ⟨p, dx, _, rfl, hp, rfl, ?_⟩
      walk_at "rs"
      exact ⟨p, D, L, G, m, c, rfl, c3, hm1, hf, k⟩
    rw [if_neg (fun h => c3 (decide_eq_true h))] at k
    walk_at "rs"
    refine ⟨(by show 3 ≤ sizeLine; decide), fun t2 n2 => ?_⟩
    have hm2 := hm1.new (o := .tup ([104, 108, 117].map fun k => V.str ⟨#[k]⟩)) n2
    replace k := Res.on (m1 := m) k rfl (Oth.new (o := .tup ([104, 108, 117].map fun k => V.str ⟨#[k]⟩)) n2)
    clear hm1 hp hD hL
    refine ⟨t2, [104, 108, 117].map fun k => V.str ⟨#[k]⟩, rfl, .inr (SqT.of upd_same), rfl, rfl, ?_⟩
    obtain ⟨dx, hp, hD, hL⟩ := id hm2
    walk_at "rs"
    refine ite2 (fun c4 => ?_) (fun c4 => ?_)
    · replace c4 : inV (V.str ⟨#[c]⟩) ([104, 108, 117].map fun k => V.str ⟨#[k]⟩) = true := c4
      rw [in_signs, decide_eq_true_iff] at c4
      rw [if_pos (by simpa using c4)] at k
      walk_at "rs"
      refine ⟨p, dx, _, rfl, hp, rfl, ?_⟩
      walk_at "rs"
      exact ⟨p, D, L, G, m, c, rfl, trivial, hm2, hf, k⟩
    replace c4 : ¬ inV (V.str ⟨#[c]⟩) ([104, 108, 117].map fun k => V.str ⟨#[k]⟩) = true := c4
    rw [in_signs, decide_eq_true_iff] at c4
    rw [if_neg (by simpa using c4)] at k
    walk_at "rs"
    refine ⟨(by show 2 ≤ sizeLine; decide), fun t3 n3 => ?_⟩
    have hm3 := hm2.new (o := .tup ([106, 102].map fun k => V.str ⟨#[k]⟩)) n3
    replace k := Res.on (m1 := m) k rfl (Oth.new (o := .tup ([106, 102].map fun k => V.str ⟨#[k]⟩)) n3)
    clear hm2 hp hD hL
    refine ⟨t3, [106, 102].map fun k => V.str ⟨#[k]⟩, rfl, .inr (SqT.of upd_same), rfl, rfl, ?_⟩
    obtain ⟨dx, hp, hD, hL⟩ := id hm3
    walk_at "rs"
    refine ite2 (fun c5 => ?_) (fun c5 => ?_)
    · replace c5 : inV (V.str ⟨#[c]⟩) ([106, 102].map fun k => V.str ⟨#[k]⟩) = true := c5
      rw [in_signs, decide_eq_true_iff] at c5
      rw [if_pos (by simpa using c5)] at k
      walk_at "rs"
      refine ⟨p, dx, _, rfl, hp, rfl, ?_⟩
      walk_at "rs"
      exact ⟨p, D, L, G, m, c, rfl, trivial, hm3, hf, k⟩
    replace c5 : ¬ inV (V.str ⟨#[c]⟩) ([106, 102].map fun k => V.str ⟨#[k]⟩) = true := c5
    rw [in_signs, decide_eq_true_iff] at c5
    rw [if_neg (by simpa using c5)] at k
    walk_at "rs"
    refine ⟨p, dx, _, rfl, hp, rfl, ?_⟩
    walk_at "rs"
    exact ⟨p, D, L, G, m, c, rfl, trivial, hm3, hf, k⟩
/-- the run -/
def finM (G : Gv) : Nat → Mc → Option Mc × Nat
  | 0, m => (none, m.st)
  | n + 1, m => match (TL.tl G.code)[m.pl]? with
    | none => (some m, m.st)
    | some c => if m.st = 200 then (none, 200) else match performM G c { m with st := m.st + 1, pl := m.pl + 1 } with
      | none => (none, m.st + 1)
      | some m' => finM G n m'
theorem Fit.perform {G : Gv} {c : Nat} {m m' : Mc} (f : Fit m) (few : m.kv.length ≤ 7899) (e : performM G c m = some m') : Fit m' ∧ m'.st = m.st ∧ m'.kv.length ≤ m.kv.length + 1 := by
  have pu : ∀ {v : Nat} {m1 m2 : Mc}, Fit m1 → m1.st = m.st → m1.kv = m.kv → pushM v m1 = some m2 → Fit m2 ∧ m2.st = m.st ∧ m2.kv.length ≤ m.kv.length + 1 := fun f1 s1 k1 e1 => by
    obtain ⟨g1, g2, g3, -⟩ := f1.push e1
    exact ⟨g1, g2.trans s1, by rw [g3, k1]; omega⟩
  have ta : ∀ {m1 m2 : Mc} {g : Nat × Mc → Option Mc}, Fit m1 → m1.st = m.st → m1.kv = m.kv → (takeM m1).bind g = some m2 → ∃ x, takeM m1 = some x ∧ g x = some m2 ∧ Fit x.2 ∧ x.1 < 1000000 ∧ x.2.st = m.st ∧ x.2.kv = m.kv := fun {m1 m2 g} f1 s1 k1 e1 => by
    cases h : takeM m1 with
    | none => rw [h] at e1; cases e1
    | some x =>
      rw [h] at e1
      obtain ⟨g1, g2, g3, g4, -⟩ := f1.take h
      exact ⟨x, rfl, e1, g1, g2, g3.trans s1, g4.trans k1⟩
  unfold performM at e
  split at e
  · exact pu f rfl rfl e
  split at e
  · unfold numberM at e
    split at e
    · exact pu f rfl rfl e
    split at e
    · exact pu f rfl rfl e
    · exact pu f rfl rfl e
  split at e
  · unfold combineM at e
    obtain ⟨x, hx, e, f1, -, s1, k1⟩ := ta f rfl rfl e
    obtain ⟨y, hy, e, f2, -, s2, k2⟩ := ta f1 s1 k1 e
    exact pu f2 s2 k2 e
  split at e
  · unfold moveM at e
    obtain ⟨x, hx, e, f1, l1, s1, k1⟩ := ta f rfl rfl e
    split at e
    · cases h : pushM x.1 x.2 with
      | none => rw [h] at e; cases e
      | some m2 =>
        rw [h] at e
        obtain ⟨g1, g2, g3, -⟩ := f1.push h
        exact pu g1 (g2.trans s1) (g3.trans k1) e
    split at e
    · exact pu f1 s1 k1 e
    · cases h : takeM x.2 with
      | none => rw [h] at e; cases e
      | some y =>
        rw [h] at e
        obtain ⟨g1, g2, g3, g4, -⟩ := f1.take h
        obtain rfl := Option.some.inj e
        have := len_put y.2.kv x.1 y.1
        rw [g4, k1] at this
        refine ⟨⟨g1.1, ?_, g1.2.2⟩, g3.trans s1, ?_⟩
        · show (putN y.2.kv x.1 y.1).length ≤ 7900
          rw [g4, k1]
          omega
        · show (putN y.2.kv x.1 y.1).length ≤ _
          rw [g4, k1]
          exact this
  split at e
  · unfold jumpM at e
    obtain ⟨x, hx, e, f1, l1, s1, k1⟩ := ta f rfl rfl e
    split at e
    · obtain rfl := Option.some.inj e
      exact ⟨f1, s1, by show x.2.kv.length ≤ _; rw [k1]; omega⟩
    · cases h : takeM x.2 with
      | none => rw [h] at e; cases e
      | some y =>
        rw [h] at e
        obtain ⟨g1, g2, g3, g4, -⟩ := f1.take h
        have e := Option.some.inj e
        have e : (if y.1 = 0 then { y.2 with pl := x.1 } else y.2) = m' := e
        split at e
        · subst e
          exact ⟨g1, g3.trans s1, by show y.2.kv.length ≤ _; rw [g4, k1]; omega⟩
        · subst e
          exact ⟨g1, g3.trans s1, by rw [g4, k1]; omega⟩
  · unfold settleM at e
    obtain ⟨x, hx, e, f1, l1, s1, k1⟩ := ta f rfl rfl e
    split at e
    · obtain rfl := Option.some.inj e
      exact ⟨f1, s1, by show x.2.kv.length ≤ _; rw [k1]; omega⟩
    split at e
    · cases e
    · obtain rfl := Option.some.inj e
      exact ⟨f1, s1, by rw [k1]; omega⟩
def spFin (C CE : Addr) : Sp := fun vs H Q E => ∃ (p D L : Addr) (G : Gv) (m : Mc), vs = [.ref p] ∧ MAt C H p D L G m ∧ Fit m ∧ m.st = 0 ∧ m.kv.length ≤ 7600 ∧ G.code.length ≤ 5000 ∧
  (∀ m' n H', finM G 201 m = (some m', n) → MAt C H' p D L G m' → Fit m' → Oth p D L H H' → Q .non H') ∧ (∀ n, finM G 201 m = (none, n) → ∀ m' H', MAt C H' p D L G m' → m'.st = n → Oth p D L H H' → E (.ref CE) none H')
theorem ok_Machine_finish (TE : TxtE w K mg a) (T : Txt K mg a) : ∃ fd, FnOk P w K mg base (L2.CX P w) 4 a.d_Machine_finish fd ["self"] (spFin a.C_Machine a.C_Failed) ∧ Binds K fd ["self"] [] := by
  obtain ⟨fd, F, b⟩ := T.d_Machine_finish.F
  obtain ⟨fd_Machine_perform, G_Machine_perform, b_Machine_perform⟩ := ok_Machine_perform (P := P) (w := w) (base := base) TE T
  refine ⟨fd, F.okX sc_Machine_finish (fun vs H Q E h => ?_) (fun cdv A outer s H vs Q E hr h => ?_), b⟩
  · obtain ⟨_, _, _, _, _, rfl, _⟩ := h
    rfl
  · obtain ⟨p, D, L, G, m, rfl, hm, hf, h0, few, lc, k1, k2⟩ := h
    obtain ⟨r, er⟩ : ∃ r, r = finM G 201 m := ⟨_, rfl⟩
    rw [← er] at k1 k2
    refine ⟨_, (pss_one (ps_while (passes_of rfl) (pt_cmpR op_lt (pe_fld (pv 0) rfl) (pe_callB call_len_str (by rfl) T.n_len PySem.boot_len (pa_cons (pe_fld (pv 0) rfl) pa_nil)) (nomark _))
      (pss_cons (ps_if (pt_cmpR op_eq (pe_fld (pv 0) rfl) (pe_glob (v := (.int 200)) rfl T.c_MOST_STEPS.choose_spec ⟨_, rfl⟩) (nomark _))
        (pss_one (ps_raise rfl (takes_of rfl rfl rfl rfl) (pmk_own PySem.F.excBase_ValueError TE.x_Failed TE.g_Failed TE.kc_Failed (raises_own TE.b_Failed TE.t_Failed) rfl)))
        pss_nil)
        (pss_cons (ps_set (i := 1) sc_Machine_finish.nd rfl (Or.inl rfl) (pe_ix ix_str (pe_fld (pv 0) rfl) (pe_fld (pv 0) rfl) (fun _ _ => rfl)))
        (pss_cons (ps_fldaug (pv 0) pe_int in_add)
        (pss_cons (ps_fldaug (pv 0) pe_int in_add)
        (pss_one (ps_expr (pe_meth (pv 0) T.cl_Machine T.me_Machine_perform G_Machine_perform (hr.mono (by decide)) b_Machine_perform .nil (L2.passes_call (W := fun c d _ H => E c d H) (E := E) (L2.takes_of rfl rfl rfl rfl) (fun _ _ _ _ h => h)) (pa_cons (pv 1) pa_nil)))))))))), ?_⟩
    refine ⟨fun n σ H2 => ∃ (m2 : Mc) (v : Option V), n = 201 - m2.st ∧ σ = [some (.ref p), v] ∧ MAt a.C_Machine H2 p D L G m2 ∧ Fit m2 ∧ m2.st ≤ 200 ∧ m2.kv.length ≤ 7600 + m2.st ∧ Oth p D L H H2 ∧ r = finM G (201 - m2.st) m2,
      ⟨_, m, _, rfl, rfl, hm, hf, by omega, by omega, .rfl, by rw [h0]; exact er⟩, ?_⟩
    rintro n σ H2 ⟨m2, v, rfl, rfl, hm2, hf2, st2, few2, o2, e2⟩
    obtain ⟨npD, npL, nDL⟩ := hm2.ne
    obtain ⟨dx, hp, hD, hL⟩ := id hm2
    obtain ⟨f, ef⟩ : ∃ f, 201 - m2.st = f + 1 := ⟨200 - m2.st, by omega⟩
    rw [ef, finM] at e2
    walk_at "rs"
    refine ⟨p, _, dx, _, .int (m2.pl : Nat), rfl, hp, T.cl_Machine, T.a_Machine_place, rfl, ?_⟩
    walk_at "rs"
    refine ⟨p, _, dx, _, .str G.code, rfl, hp, T.cl_Machine, T.a_Machine_code, rfl, ?_⟩
    walk_at "rs"
    refine ⟨(by rw [sizeLine_eq]; omega), ?_⟩
    walk_at "rs"
    refine ite2 (fun c1 => ?_) (fun c1 => ?_)
    · have c1 : m2.pl < G.code.length := by
        have := of_decide_eq_true c1
        omega
      obtain ⟨c, eg⟩ : ∃ c, (TL.tl G.code)[m2.pl]? = some c := ⟨_, List.getElem?_eq_getElem (by rw [← TL.len_tl]; exact c1)⟩
      rw [eg] at e2
      replace e2 : r = if m2.st = 200 then (none, 200) else match performM G c { m2 with st := m2.st + 1, pl := m2.pl + 1 } with
        | none => (none, m2.st + 1)
        | some m' => finM G f m' := e2
      refine ⟨fun σ' H' => ∃ (m3 : Mc) (v : Option V), σ' = [some (.ref p), v] ∧ MAt a.C_Machine H' p D L G m3 ∧ Fit m3 ∧ m3.st = m2.st + 1 ∧ m3.st ≤ 200 ∧ m3.kv.length ≤ 7600 + m3.st ∧ Oth p D L H H' ∧ r = finM G f m3, ?_, ?_⟩
      · rintro σ' H' ⟨m3, v, rfl, h1, h2, h3, h4, h5, h6, h7⟩
        exact ⟨201 - m3.st, by omega, m3, v, rfl, rfl, h1, h2, h4, h5, h6, by rw [h7]; congr 1; omega⟩
      walk_at "rs"
      refine ⟨p, _, dx, _, .int (m2.st : Nat), rfl, hp, T.cl_Machine, T.a_Machine_steps, rfl, ?_⟩
      walk_at "rs"
      refine ite2 (fun c2 => ?_) (fun c2 => ?_)
      · have c2 : m2.st = 200 := by
          have := V.int.inj (of_decide_eq_true c2)
          omega
        rw [if_pos c2] at e2
        exact k2 _ e2 m2 H2 hm2 c2 o2
      have c2 : ¬ m2.st = 200 := fun h => c2 (decide_eq_true (by rw [h]; rfl))
      rw [if_neg c2] at e2
      walk_at "rs"
      refine ⟨p, _, dx, _, .str G.code, rfl, hp, T.cl_Machine, T.a_Machine_code, rfl, ?_⟩
      walk_at "rs"
      refine ⟨p, _, dx, _, .int (m2.pl : Nat), rfl, hp, T.cl_Machine, T.a_Machine_place, rfl, ?_⟩
      walk_at "rs"
      refine ⟨G.code, m2.pl, c, rfl, rfl, (by rw [sizeLine_eq]; omega), atI_nat eg, ?_⟩
      walk_at "rs"
      refine ⟨p, _, dx, _, .int (m2.st : Nat), rfl, hp, T.cl_Machine, T.a_Machine_steps, rfl, ?_⟩
      walk_at "rs"
      refine ⟨dx, _, hp, (by show 8 < 1000; decide), ?_⟩
      walk_at "rs"
      refine ⟨p, _, dx, _, .int (m2.pl : Nat), rfl, upd_same, T.cl_Machine, T.a_Machine_place, rfl, ?_⟩
      walk_at "rs"
      refine ⟨dx, _, upd_same, (by show 8 < 1000; decide), ?_⟩
      rw [upd_upd]
      have hm3 : MAt a.C_Machine (upd H2 p (.ins a.C_Machine dx [("code", .str G.code), ("given", .int (G.given : Nat)), ("amount", .int (G.amount : Nat)), ("store", .ref D), ("stack", .ref L), ("place", .int ((m2.pl + 1 : Nat) : Int)), ("paid", .int (m2.pd : Nat)), ("steps", .int ((m2.st + 1 : Nat) : Int))])) p D L G { m2 with st := m2.st + 1, pl := m2.pl + 1 } :=
        ⟨dx, upd_same, by rw [upd_ne (fun e => npD e.symm)]; exact hD, by rw [upd_ne (fun e => npL e.symm)]; exact hL⟩
      have o3 : Oth p D L H2 (upd H2 p (.ins a.C_Machine dx [("code", .str G.code), ("given", .int (G.given : Nat)), ("amount", .int (G.amount : Nat)), ("store", .ref D), ("stack", .ref L), ("place", .int ((m2.pl + 1 : Nat) : Int)), ("paid", .int (m2.pd : Nat)), ("steps", .int ((m2.st + 1 : Nat) : Int))])) := fun b o n1 n2 n3 e => by
        rw [upd_ne n1]
        exact e
      walk_at "rs"
      refine ⟨p, dx, _, rfl, upd_same, rfl, ?_⟩
      walk_at "rs"
      refine ⟨p, D, L, G, { m2 with st := m2.st + 1, pl := m2.pl + 1 }, c, rfl, trivial, hm3, hf2, fun m4 H4 e4 h4 o4 => ?_, fun e4 m4 H4 h4 s4 o4 => ?_⟩
      · rw [e4] at e2
        obtain ⟨f4, s4, n4⟩ := Fit.perform (m := { m2 with st := m2.st + 1, pl := m2.pl + 1 }) hf2 (by show m2.kv.length ≤ 7899; omega) e4
        replace s4 : m4.st = m2.st + 1 := s4
        replace n4 : m4.kv.length ≤ m2.kv.length + 1 := n4
        exact ⟨m4, _, rfl, h4, f4, s4, by omega, by omega, (o2.trans o3).trans o4, e2⟩
      · rw [e4] at e2
        exact k2 _ e2 m4 H4 h4 s4 ((o2.trans o3).trans o4)
    · have c1 : ¬ m2.pl < G.code.length := fun h => c1 (decide_eq_true (by omega))
      rw [List.getElem?_eq_none (by rw [← TL.len_tl]; omega)] at e2
      exact k1 _ _ H2 e2 hm2 hf2 o2

theorem take_nil {m : Mc} (h : m.stk = []) : takeM m = none := by
  unfold takeM
  rw [h]
  rfl
theorem take_at {m : Mc} {s : List Nat} {t : Nat} (h : m.stk = s ++ [t]) : takeM m = some (t, { m with stk := s }) := by
  unfold takeM
  rw [h]
  simp
theorem get_lt {kv : List (Nat × Nat)} (h : ∀ x ∈ kv, x.2 < 1000000) (k : Nat) : getN kv k < 1000000 := by
  unfold getN
  cases e : kv.find? fun x => decide (x.1 = k) with
  | none => decide
  | some x => exact h x (List.mem_of_find?_eq_some e)

/-- how one sign changes a machine -/
def Base (G : Gv) (v : Nat) : Prop := v ≤ 16 ∨ v = G.given % 1000000 ∨ v = G.amount % 1000000
def From (G : Gv) (m : Mc) (v : Nat) : Prop := v ∈ m.stk ∨ Base G v ∨ ∃ x ∈ m.kv, v = x.2 % 1000000
def StepA (G : Gv) (m m' : Mc) : Prop := m'.kv = m.kv ∧ m'.stk.length ≤ m.stk.length + 1 ∧ ∀ v ∈ m'.stk, From G m v
def StepB (m m' : Mc) : Prop := m'.kv = m.kv ∧ m'.stk.length + 1 = m.stk.length ∧ ∃ s v, m'.stk = s ++ [v] ∧ ∀ x ∈ s, x ∈ m.stk
def StepC (m m' : Mc) : Prop := m'.stk.length + 2 = m.stk.length ∧ (∀ v ∈ m'.stk, v ∈ m.stk) ∧ ∃ t y, t ∈ m.stk ∧ y ∈ m.stk ∧ m'.kv = putN m.kv t y
theorem step_push {G : Gv} {v : Nat} {m m1 m' : Mc} (e : pushM v m1 = some m') (k : m1.kv = m.kv) (l : m1.stk.length ≤ m.stk.length) (h : ∀ x ∈ m1.stk, From G m x) (hv : From G m (v % 1000000)) : StepA G m m' := by
  unfold pushM at e
  split at e
  · cases e
  · obtain rfl := Option.some.inj e
    refine ⟨k, ?_, fun x hx => ?_⟩
    · show (m1.stk ++ [v % 1000000]).length ≤ _
      rw [List.length_append, List.length_singleton]
      omega
    · rcases List.mem_append.mp hx with hx | hx
      · exact h x hx
      · rw [List.mem_singleton.mp hx]
        exact hv
theorem take_out {m : Mc} {g : Nat × Mc → Option Mc} {m' : Mc} (e : (takeM m).bind g = some m') : ∃ s t, m.stk = s ++ [t] ∧ g (t, { m with stk := s }) = some m' := by
  rcases List.eq_nil_or_concat m.stk with h | ⟨s, t, h⟩
  · rw [take_nil h] at e
    cases e
  · rw [List.concat_eq_append] at h
    rw [take_at h] at e
    exact ⟨s, t, h, e⟩
theorem step_of {G : Gv} {c : Nat} {m m' : Mc} (f : Fit m) (e : performM G c m = some m') : StepA G m m' ∨ StepB m m' ∨ StepC m m' := by
  have self : ∀ x ∈ m.stk, From G m x := fun x hx => .inl hx
  unfold performM at e
  split at e
  · rename_i d
    exact .inl (step_push e rfl (Nat.le_refl _) self (.inr (.inl (.inl (by have : (c - 48) % 1000000 ≤ c - 48 := Nat.mod_le _ _; omega)))))
  split at e
  · unfold numberM at e
    split at e
    · exact .inl (step_push e rfl (Nat.le_refl _) self (.inr (.inl (.inr (.inl rfl)))))
    split at e
    · exact .inl (step_push e rfl (Nat.le_refl _) self (.inr (.inl (.inr (.inr rfl)))))
    · exact .inl (step_push e rfl (Nat.le_refl _) self (.inr (.inl (.inl (by have := f.1; have : m.stk.length % 1000000 ≤ m.stk.length := Nat.mod_le _ _; omega)))))
  split at e
  · obtain ⟨s, t, e1, e⟩ := take_out e
    obtain ⟨s2, l, e2, e⟩ := take_out (m := { m with stk := s }) e
    replace e2 : s = s2 ++ [l] := e2
    replace e : pushM (work c l t) { m with stk := s2 } = some m' := e
    unfold pushM at e
    split at e
    · cases e
    · obtain rfl := Option.some.inj e
      refine .inr (.inl ⟨rfl, ?_, s2, _, rfl, fun x hx => ?_⟩)
      · show (s2 ++ [_]).length + 1 = _
        rw [e1, e2]
        simp
      · rw [e1, e2]
        simp [hx]
  split at e
  · obtain ⟨s, t, e1, e⟩ := take_out e
    have ls : s.length + 1 = m.stk.length := by rw [e1]; simp
    have sub : ∀ x ∈ s, x ∈ m.stk := fun x hx => by rw [e1]; simp [hx]
    have tin : t ∈ m.stk := by rw [e1]; simp
    have lt := f.2.2 t tin
    have mt : t % 1000000 = t := Nat.mod_eq_of_lt lt
    split at e
    · cases h : pushM t { m with stk := s } with
      | none => rw [h] at e; cases e
      | some m2 =>
        rw [h] at e
        unfold pushM at h
        split at h
        · cases h
        · obtain rfl := Option.some.inj h
          refine .inl (step_push (m := m) (v := t) e rfl (by show (s ++ [t % 1000000]).length ≤ _; rw [List.length_append, List.length_singleton]; omega) (fun x hx => ?_) (by rw [mt]; exact .inl tin))
          rcases List.mem_append.mp hx with hx | hx
          · exact .inl (sub x hx)
          · rw [List.mem_singleton.mp hx, mt]
            exact .inl tin
    split at e
    · refine .inl (step_push (m := m) e rfl (by show s.length ≤ _; omega) (fun x hx => .inl (sub x hx)) ?_)
      show From G m (getN m.kv t % 1000000)
      unfold getN
      cases h : m.kv.find? fun x => decide (x.1 = t) with
      | none => exact .inr (.inl (.inl (by decide)))
      | some x => exact .inr (.inr ⟨x, List.mem_of_find?_eq_some h, rfl⟩)
    · replace e : (takeM { m with stk := s }).map (fun y => { y.2 with kv := putN y.2.kv t y.1 }) = some m' := e
      rcases List.eq_nil_or_concat s with h | ⟨s2, y, h⟩
      · rw [take_nil (m := { m with stk := s }) h] at e
        cases e
      · rw [List.concat_eq_append] at h
        rw [take_at (m := { m with stk := s }) h] at e
        obtain rfl := Option.some.inj e
        refine .inr (.inr ⟨?_, fun x hx => sub x ?_, t, y, tin, sub y ?_, rfl⟩)
        · show s2.length + 2 = _
          rw [← ls, h]
          simp
        · rw [h]
          exact List.mem_append_left _ hx
        · rw [h]
          simp
  split at e
  · obtain ⟨s, t, e1, e⟩ := take_out e
    have ls : s.length + 1 = m.stk.length := by rw [e1]; simp
    have sub : ∀ x ∈ s, x ∈ m.stk := fun x hx => by rw [e1]; simp [hx]
    split at e
    · obtain rfl := Option.some.inj e
      exact .inl ⟨rfl, by show s.length ≤ _; omega, fun x hx => .inl (sub x hx)⟩
    · replace e : (takeM { m with stk := s }).map (fun y => if y.1 = 0 then { y.2 with pl := t } else y.2) = some m' := e
      rcases List.eq_nil_or_concat s with h | ⟨s2, y, h⟩
      · rw [take_nil (m := { m with stk := s }) h] at e
        cases e
      · rw [List.concat_eq_append] at h
        rw [take_at (m := { m with stk := s }) h] at e
        have e := Option.some.inj e
        have sub2 : ∀ x ∈ s2, x ∈ m.stk := fun x hx => sub x (by rw [h]; exact List.mem_append_left _ hx)
        have l2 : s2.length ≤ m.stk.length + 1 := by
          rw [h] at ls
          simp at ls
          omega
        replace e : (if y = 0 then ({ m with stk := s2, pl := t } : Mc) else { m with stk := s2 }) = m' := e
        split at e
        · subst e
          exact .inl ⟨rfl, l2, fun x hx => .inl (sub2 x hx)⟩
        · subst e
          exact .inl ⟨rfl, l2, fun x hx => .inl (sub2 x hx)⟩
  · obtain ⟨s, t, e1, e⟩ := take_out e
    have ls : s.length + 1 = m.stk.length := by rw [e1]; simp
    have sub : ∀ x ∈ s, x ∈ m.stk := fun x hx => by rw [e1]; simp [hx]
    split at e
    · obtain rfl := Option.some.inj e
      exact .inl ⟨rfl, by show s.length ≤ _; omega, fun x hx => .inl (sub x hx)⟩
    split at e
    · cases e
    · obtain rfl := Option.some.inj e
      exact .inl ⟨rfl, by show s.length ≤ _; omega, fun x hx => .inl (sub x hx)⟩
theorem put_mem {kv : List (Nat × Nat)} {k v : Nat} {x : Nat × Nat} (h : x ∈ putN kv k v) : x ∈ kv ∨ x = (k, v) := by
  unfold putN at h
  split at h
  · obtain ⟨y, hy, e⟩ := List.mem_map.mp h
    split at e
    · rename_i q
      right
      rw [← e, q]
    · left
      rw [← e]
      exact hy
  · rcases List.mem_append.mp h with h | h
    · exact .inl h
    · exact .inr (List.mem_singleton.mp h)
theorem put_nodup {kv : List (Nat × Nat)} {k v : Nat} (h : (kv.map (·.1)).Nodup) : ((putN kv k v).map (·.1)).Nodup := by
  unfold putN
  split
  · have e : (kv.map fun x => if x.1 = k then (x.1, v) else x).map (·.1) = kv.map (·.1) := by
      rw [List.map_map]
      refine List.map_congr_left fun x _ => ?_
      show (if x.1 = k then (x.1, v) else x).1 = x.1
      split <;> rfl
    rw [e]
    exact h
  · rename_i c
    rw [List.map_append, List.nodup_append]
    refine ⟨h, by simp, fun a ha b hb e => ?_⟩
    have hb : b = k := by simpa using hb
    obtain ⟨x, hx, ex⟩ := List.mem_map.mp ha
    exact c (List.any_eq_true.mpr ⟨x, hx, decide_eq_true (by rw [ex, e, hb])⟩)

/-- o.m() within a try: what the method lets out is wished for at the slots -/
def tMethT0 (C : Addr) (m : Str) (sp : Sp) (E : L2.St → XK) (ta : TE) : TE := fun σ H Q => ta σ H fun x H1 => ∃ (j dx : Addr) (fs : List (Str × V)), x = V.ref j ∧ H1 j = some (HO.ins C dx fs) ∧ fs.lookup m = Option.none ∧ sp [x] H1 Q (E σ)
theorem pe_methT0 {X : Cx} {CX : CXT} {k : Nat} {f C : Addr} {fd : FuncData} {ps : List Str} {sp : Sp} {E : L2.St → XK} {m : Str} {apos pos : Pos} {o : Expr} {ta : TE} {pl : Sem Bool} (he : PE X o ta) (c : L2.Cls X.K C) (hm : L2.Meth X.K C m f) (F : FnOk X.prog X.w X.K X.mg X.base CX k f fd ps sp)
    (hr : Room k X.A) (hb : Binds X.K fd ps []) (hx : ∀ σ, PassesAt CX X σ (E σ))
    (text : eval (.Call (.Attribute o m apos) [] [] pos) X.env = (do let ov ← eval o X.env; standAt apos.atName; let (f, first) ← holding [ov] (getMethod ov m pl); callWith pos f first (backTo pos (starEach [] X.env)) (backToKw pos (keywordEach [] X.env))) := by rfl) :
    PE X (.Call (.Attribute o m apos) [] [] pos) (tMethT0 C m sp E ta) := by
  constructor
  intro pins s σ H Q I hyp
  refine PySem.W.methodCall_KW (pl := pl) (thn (he.run pins s σ H _ I hyp) fun u s1 got => ?_) text
  obtain ⟨x, H1, I1, rx, j, dx, fs, ex, ej, nf, q⟩ := got
  subst ex
  have eu : u = Value.ref j := rx
  subst eu
  refine getmeth_ok I1 ej c hm nf ?_
  exact PySem.W.callWith_K0 (first := [Value.ref j]) I1.kIn hm.kp (run_fnS (us := [Value.ref j]) (vs := [V.ref j]) F hr hb (hx σ) I1 (.cons rfl .nil) q)

/-! ### a local set to a dict comprehension -/
section
variable {X : Cx}
theorem ps_setDc {i : Nat} {y : Str} {py : Pos} {kx vx tg iter : Expr} {ifs : List Expr} {scope : Scope} {own : List (Str × Nat)} {pos spos : Pos} {wi : TI} {g : TG} {tt : TT} {tk tv : TE} (hc : X.calm = true) (hN : X.N.Nodup) (hy : X.N[i]? = some y) (hyl : X.env.scope.names.lookup y = some .local)
    (hsw : swapsWith (.DictComp kx vx [⟨tg, iter, ifs, 0⟩] scope pos) (some (.Name y py)) spos.line X.env = pure true) (hi : PI X tg iter wi) (ok : BlkOk X.N X.env.scope scope own)
    (hg : ∀ (s : Shared) (H : Hp) (C : Addr) (cl : List (Str × Addr)) (fp : List Addr), PG (X.blk s H scope (compEnvC scope cl C X.env) fp) tg g) (ht : ∀ (s : Shared) (H : Hp) (C : Addr) (cl : List (Str × Addr)) (fp : List Addr), PTs (X.blk s H scope (compEnvC scope cl C X.env) fp) ifs tt)
    (hk : ∀ (s : Shared) (H : Hp) (C : Addr) (cl : List (Str × Addr)) (fp : List Addr), PE (X.blk s H scope (compEnvC scope cl C X.env) fp) kx tk)
    (hv : ∀ (s : Shared) (H : Hp) (C : Addr) (cl : List (Str × Addr)) (fp : List Addr), PE (X.blk s H scope (compEnvC scope cl C X.env) fp) vx tv) (hs : ∀ x, foldedSetIterable iter X.env x = pure x := by intro _; rfl) :
    PS X (.Assign [.Name y py] (.DictComp kx vx [⟨tg, iter, ifs, 0⟩] scope pos) spos) (tAsg (tDc wi g tt tk tv (own.map (·.2))) (gName i)) := by
  constructor
  intro pins s σ H D I want
  rw [exec_Assign_Name_used _ _ _ _ hsw]
  refine wpAny_bind (wpAny_standAt (wpAny_bind ?_))
  show wpAny _ X.A (do let _ ← comprehension (.DictComp kx vx [⟨tg, iter, ifs, 0⟩] scope pos) scope X.env (firstIterPos [⟨tg, iter, ifs, 0⟩] pos) newDict false (eval iter X.env) (some (assign (.Name y py) X.env))) _ _ s
  replace want : tDc wi g tt tk tv (own.map (·.2)) σ H (fun x H1 => gName i x σ H1 D.nx) := want
  refine wpAny_bind (thn (dc_core (Qf := fun _ s' => SP X pins D .next s') hc hN I hi ok hg ht hk hv hs want fun B C s' m H' I' q names far => ?_) fun _ s' hq => wpAny_pure (wpAny_pure hq))
  show wpAny _ _ (assign (.Name y py) X.env (.ref B)) _ _ _
  refine wpAny_assign_Name (store_ok2 (v := V.ref B) I' hN hy (.inl hyl) rfl (fun s2 I2 same => ?_) (.inr hyl))
  obtain ⟨z, sb, which⟩ := same
  obtain ⟨f0, f1, f2, f3, f4, f5⟩ := far
  have apart : C ≠ z := which.elim (fun e => by rw [e]; exact f1) fun e q => f4 y z e q.symm
  exact ⟨m, names.sameBut sb apart, fun h3 sb3 => ⟨_, H', I2.turned (t' := s2.toks) (fun b o hb e => (sb3.2 b hb).trans e) f0 f1 f3 f4 f5, q⟩⟩
theorem sw_trueD {kx vx : Expr} {gs : List Comprehension} {scope : Scope} {pos py : Pos} {y : Str} {l : Nat} {env : Env} (hk : env.scope.kind = .function) (hy : env.scope.names.lookup y = some .local) (hl : (py.line == pos.line) = true)
    (ha : (scope.names.any fun (n, k) => n == y && (k == .local || k == .cell)) = false) : swapsWith (.DictComp kx vx gs scope pos) (some (.Name y py)) l env = pure true := by
  have ky : env.kindOf y = some .local := hy
  have hb : env.blockKind = .function := by unfold Env.blockKind; rw [hk]; rfl
  unfold swapsWith
  simp only [hb, ky, ha, Expr.pos, hl]
  rfl
end
/-- what stays of a store: keys ys, no 0 -/
def pick (ys : List Nat) (kv : List (Nat × Nat)) : List (Nat × Nat) := (ys.filter fun k => decide (getN kv k ≠ 0)).map fun k => (k, getN kv k)
theorem pick_take {ys : List Nat} {kv : List (Nat × Nat)} {i k : Nat} (h : ys[i]? = some k) : pick (ys.take (i + 1)) kv = if getN kv k ≠ 0 then pick (ys.take i) kv ++ [(k, getN kv k)] else pick (ys.take i) kv := by
  unfold pick
  rw [List.take_add_one, h]
  split
  · rename_i c
    rw [Option.toList, List.filter_append, List.map_append, List.filter_cons_of_pos (by rw [decide_eq_true c])]
    rfl
  · rename_i c
    rw [Option.toList, List.filter_append, List.map_append, List.filter_cons_of_neg (by rw [decide_eq_false c]; exact Bool.false_ne_true)]
    simp
theorem pick_keys {ys : List Nat} {kv : List (Nat × Nat)} {x : Nat × Nat} (h : x ∈ pick ys kv) : x.1 ∈ ys := by
  obtain ⟨k, hk, rfl⟩ := List.mem_map.mp h
  exact (List.mem_filter.mp hk).1
theorem put_new {kv : List (Nat × Nat)} {k v : Nat} (h : ∀ x ∈ kv, x.1 ≠ k) : putN kv k v = kv ++ [(k, v)] := by
  unfold putN
  rw [if_neg]
  intro e
  obtain ⟨x, hx, e⟩ := List.any_eq_true.mp e
  exact h x hx (of_decide_eq_true e)
theorem nodup_take {ys : List Nat} (nd : ys.Nodup) {i k : Nat} (h : ys[i]? = some k) : k ∉ ys.take i := fun hm => by
  obtain ⟨j, hj, e⟩ := List.getElem_of_mem hm
  rw [List.length_take] at hj
  rw [List.getElem_take] at e
  obtain ⟨hi, e2⟩ := List.getElem?_eq_some_iff.mp h
  have := (List.getElem_inj (h₀ := by omega) (h₁ := hi) nd).mp (e.trans e2.symm)
  omega
theorem val_mem {kv : List (Nat × Nat)} {k : Nat} (h : k ∈ kv.map (·.1)) : valV (kvV kv) (Sum.inl (k : Int)) = some (V.int (getN kv k : Nat)) := by
  rw [val_kv]
  unfold getN
  cases e : kv.find? fun x => decide (x.1 = k) with
  | some x => rfl
  | none =>
    obtain ⟨x, hx, ex⟩ := List.mem_map.mp h
    exact absurd (decide_eq_true ex) (List.find?_eq_none.mp e x hx)
/-- a dict comprehension over a list of ints -/
theorem dc_ints {K : PySem.W.Frag} {a D : Addr} {xs : List V} {g : TG} {tt : TT} {tk tv : TE} {vs : List Nat} {σ : St} {H1 : Hp} {Qd : Hp → Prop} (Pv : Nat → Hp → Prop) (h0 : Pv 0 (upd H1 D (.dK []))) (hl : ∀ i H, Pv i H → SqL K H a xs)
    (hs : ∀ i x H, xs[i]? = some x → Pv i H → g x (wipe σ vs) H fun σ2 H2 => wipe σ2 vs = wipe σ vs ∧ tt σ2 H2 fun b H3 =>
      if b = true then tk σ2 H3 fun y H4 => tv σ2 H4 fun z H5 => ∃ kvs k, y = kV k ∧ H5 D = some (.dK kvs) ∧ kvs.length < sizeLine ∧ Pv (i + 1) (upd H5 D (.dK (putK kvs k z))) else Pv (i + 1) H3) (hd : ∀ H, Pv xs.length H → Qd H) :
    ∃ W : Nat → Nat → Hp → Prop, (∃ m, W 0 m (upd H1 D (.dK []))) ∧ ∀ i m H, W i m H →
      ((Itl K a).stop i H ∧ Qd H) ∨ ((Itl K a).go i H ∧ ∃ Nx : Hp → Prop, (∀ H', Nx H' → ∃ m', m' < m ∧ W (i + 1) m' H') ∧ ∀ x H', (Itl K a).yld i H x H' → g x (wipe σ vs) H' fun σ2 H2 => wipe σ2 vs = wipe σ vs ∧ tt σ2 H2 fun b H3 =>
        if b = true then tk σ2 H3 fun y H4 => tv σ2 H4 fun z H5 => ∃ kvs k, y = kV k ∧ H5 D = some (.dK kvs) ∧ kvs.length < sizeLine ∧ Nx (upd H5 D (.dK (putK kvs k z))) else Nx H3) := by
  refine ⟨fun i m H => (m = xs.length - i ∧ i ≤ xs.length) ∧ Pv i H, ⟨_, ⟨rfl, Nat.zero_le _⟩, h0⟩, ?_⟩
  rintro i m H ⟨⟨rfl, le⟩, now⟩
  have there := hl i H now
  rcases Nat.lt_or_ge i xs.length with lt | ge
  · refine .inr ⟨⟨xs, xs[i], there, by simp [lt]⟩, Pv (i + 1), fun H' nx => ⟨xs.length - (i + 1), by omega, ⟨rfl, lt⟩, nx⟩, ?_⟩
    rintro x H' ⟨rfl, what⟩
    exact hs i x _ (what xs there) now
  · obtain rfl : i = xs.length := by omega
    exact .inl ⟨⟨xs, there, Nat.le_refl _⟩, hd H now⟩
theorem made {j dx : Addr} {H3 H5 : Hp} {o1 o2 : HO} (hj : H3 j = none) (hdx : H3 dx = none) (keep : ∀ b o, b ≠ j → (upd (upd H3 dx o1) j o2) b = some o → H5 b = some o) : Same H3 H5 := fun b o e => keep b o (ne_of_none e hj) (by
  rw [upd_ne (ne_of_none e hj), upd_ne (ne_of_none e hdx)]
  exact e)

theorem perm_one : ∀ {l m : List Nat}, l.Perm m → l.Pairwise (· ≤ ·) → m.Pairwise (· ≤ ·) → l = m
  | [], m, h, _, _ => (List.Perm.nil_eq h)
  | x :: l, [], h, _, _ => absurd h.length_eq (by simp)
  | x :: l, y :: m, h, h1, h2 => by
    have a1 := List.pairwise_cons.mp h1
    have a2 := List.pairwise_cons.mp h2
    have e : x = y := by
      have m1 : x ∈ y :: m := h.mem_iff.mp (List.mem_cons_self ..)
      have m2 : y ∈ x :: l := h.mem_iff.mpr (List.mem_cons_self ..)
      have b1 : y ≤ x := by
        rcases List.mem_cons.mp m1 with e | e
        · exact Nat.le_of_eq e.symm
        · exact a2.1 x e
      have b2 : x ≤ y := by
        rcases List.mem_cons.mp m2 with e | e
        · exact Nat.le_of_eq e.symm
        · exact a1.1 y e
      omega
    subst e
    rw [perm_one (List.Perm.cons_inv h) a1.2 a2.2]
theorem pick_nodup {ys : List Nat} (h : ys.Nodup) (kv : List (Nat × Nat)) : ((pick ys kv).map (·.1)).Nodup := by
  unfold pick
  rw [List.map_map]
  have e : (ys.filter fun k => decide (getN kv k ≠ 0)).map ((fun x : Nat × Nat => x.1) ∘ fun k => (k, getN kv k)) = ys.filter fun k => decide (getN kv k ≠ 0) := by
    conv => rhs; rw [← List.map_id (ys.filter fun k => decide (getN kv k ≠ 0))]
    rfl
  rw [e]
  exact h.filter _
theorem pick_len (ys : List Nat) (kv : List (Nat × Nat)) : (pick ys kv).length ≤ ys.length := by
  unfold pick
  rw [List.length_map]
  exact List.length_filter_le _ _

/-- a machine that runs from a store of at most n entries -/
def Keep (n : Nat) (m : Mc) : Prop := Fit m ∧ (m.kv.map (·.1)).Nodup ∧ (∀ x ∈ m.kv, x.2 < 1000000) ∧ m.kv.length ≤ n + m.st
theorem Keep.small {n : Nat} {m : Mc} (k : Keep n m) (hn : n ≤ 7000) (h : m.st ≤ 200) : m.kv.length ≤ 7200 := by
  have := k.2.2.2
  omega
theorem Keep.step {G : Gv} {n c pl : Nat} {m m' : Mc} (hn : n ≤ 7000) (k : Keep n m) (h : m.st ≤ 199) (e : performM G c { m with st := m.st + 1, pl := pl } = some m') : Keep n m' ∧ m'.st = m.st + 1 := by
  have sm := k.small hn (by omega)
  obtain ⟨f, nd, hv, hl⟩ := k
  have f0 : Fit { m with st := m.st + 1, pl := pl } := f
  obtain ⟨f', s', l'⟩ := Fit.perform f0 (by show m.kv.length ≤ 7899; omega) e
  replace s' : m'.st = m.st + 1 := s'
  replace l' : m'.kv.length ≤ m.kv.length + 1 := l'
  refine ⟨⟨f', ?_, ?_, by omega⟩, s'⟩
  · rcases step_of f0 e with ⟨a1, _⟩ | ⟨a1, _⟩ | ⟨_, _, t, y, _, _, a1⟩
    · rw [a1]; exact nd
    · rw [a1]; exact nd
    · rw [a1]; exact put_nodup nd
  · rcases step_of f0 e with ⟨a1, _⟩ | ⟨a1, _⟩ | ⟨_, _, t, y, _, hy, a1⟩
    · rw [a1]; exact hv
    · rw [a1]; exact hv
    · rw [a1]
      intro x hx
      rcases put_mem hx with hx | rfl
      · exact hv x hx
      · exact f.2.2 y hy
theorem Keep.start {n : Nat} {kv : List (Nat × Nat)} (nd : (kv.map (·.1)).Nodup) (l : kv.length ≤ n) (hn : n ≤ 7000) (hv : ∀ x ∈ kv, x.2 < 1000000) : Keep n ⟨[], kv, 0, 0, 0⟩ :=
  ⟨⟨by show 0 ≤ 16; decide, by show kv.length ≤ 7900; omega, fun v hv => nomatch hv⟩, nd, hv, l⟩
theorem Keep.fin {G : Gv} {k0 : Nat} (hk0 : k0 ≤ 7000) : ∀ {n : Nat} {m m' : Mc} {k : Nat}, Keep k0 m → n = 201 - m.st → m.st ≤ 200 → finM G n m = (some m', k) → Keep k0 m' ∧ m'.st ≤ 200 ∧ k = m'.st
  | 0, m, m', k, hk, hn, h2, e => by cases e
  | n + 1, m, m', k, hk, hn, h2, e => by
    rw [finM] at e
    cases h : (TL.tl G.code)[m.pl]? with
    | none =>
      rw [h] at e
      obtain ⟨rfl, rfl⟩ : m = m' ∧ m.st = k := by
        have := Prod.mk.inj e
        exact ⟨Option.some.inj this.1, this.2⟩
      exact ⟨hk, h2, rfl⟩
    | some c =>
      rw [h] at e
      replace e : (if m.st = 200 then (none, 200) else match performM G c { m with st := m.st + 1, pl := m.pl + 1 } with
        | none => (none, m.st + 1)
        | some m' => finM G n m') = (some m', k) := e
      split at e
      · cases e
      · cases hp : performM G c { m with st := m.st + 1, pl := m.pl + 1 } with
        | none => rw [hp] at e; cases e
        | some m2 =>
          rw [hp] at e
          obtain ⟨k2, s2⟩ := hk.step hk0 (by omega) hp
          exact Keep.fin hk0 k2 (by omega) (by omega) e
/-- only the amount's remainder counts -/
def cutG (G : Gv) : Gv := ⟨G.code, G.given, G.amount % 1000000⟩
theorem push_mod (v : Nat) (m : Mc) : pushM (v % 1000000) m = pushM v m := by
  unfold pushM
  rw [Nat.mod_mod]
theorem perform_cut (G : Gv) (c : Nat) (m : Mc) : performM (cutG G) c m = performM G c m := by
  unfold performM numberM
  have e : pushM (cutG G).amount m = pushM G.amount m := push_mod G.amount m
  rw [e]
  rfl
theorem fin_cut (G : Gv) : ∀ (n : Nat) (m : Mc), finM (cutG G) n m = finM G n m
  | 0, m => rfl
  | n + 1, m => by
    rw [finM, finM]
    show (match (TL.tl G.code)[m.pl]? with | none => _ | some c => _) = _
    cases (TL.tl G.code)[m.pl]? with
    | none => rfl
    | some c =>
      show (if m.st = 200 then _ else match performM (cutG G) c { m with st := m.st + 1, pl := m.pl + 1 } with | none => _ | some m' => finM (cutG G) n m') = (if m.st = 200 then _ else match performM G c { m with st := m.st + 1, pl := m.pl + 1 } with | none => _ | some m' => finM G n m')
      rw [perform_cut]
      split
      · rfl
      · cases performM G c { m with st := m.st + 1, pl := m.pl + 1 } with
        | none => rfl
        | some m' => exact fin_cut G n m'
/-- numbers in ascending order -/
def ordN (l : List Nat) : List Nat := l.mergeSort fun x y => decide (x ≤ y)
theorem ord_perm (l : List Nat) : (ordN l).Perm l := List.mergeSort_perm ..
theorem ord_sorted (l : List Nat) : (ordN l).Pairwise (· ≤ ·) := by
  have h : (ordN l).Pairwise fun x y => decide (x ≤ y) = true := List.pairwise_mergeSort (le := fun x y : Nat => decide (x ≤ y)) (fun x y z h1 h2 => decide_eq_true (Nat.le_trans (of_decide_eq_true h1) (of_decide_eq_true h2))) (fun x y => by
    rcases Nat.le_total x y with h | h
    · rw [decide_eq_true h]; rfl
    · rw [decide_eq_true h, Bool.or_true]) l
  exact h.imp fun h => of_decide_eq_true h
theorem ord_is {ys l : List Nat} (p : ys.Perm l) (s : ys.Pairwise (· ≤ ·)) : ys = ordN l := perm_one (p.trans (ord_perm l).symm) s (ord_sorted l)
/-- the store that a run leaves -/
def leftM (m : Mc) : List (Nat × Nat) := pick (ordN (m.kv.map (·.1))) m.kv
/-- a store of an account -/
def GoodS (n : Nat) (kv : List (Nat × Nat)) : Prop := (kv.map (·.1)).Pairwise (· < ·) ∧ (∀ x ∈ kv, x.2 < 1000000) ∧ kv.length ≤ n
theorem GoodS.nd {n : Nat} {kv : List (Nat × Nat)} (g : GoodS n kv) : (kv.map (·.1)).Nodup := g.1.imp fun h => Nat.ne_of_lt h
theorem pick_map (ys : List Nat) (kv : List (Nat × Nat)) : (pick ys kv).map (·.1) = ys.filter fun k => decide (getN kv k ≠ 0) := by
  unfold pick
  rw [List.map_map]
  conv => rhs; rw [← List.map_id (ys.filter fun k => decide (getN kv k ≠ 0))]
  rfl
theorem left_good {n : Nat} {m : Mc} (k : Keep n m) (h : m.st ≤ 200) : GoodS (n + 200) (leftM m) := by
  have p := ord_perm (m.kv.map (·.1))
  have nd : (ordN (m.kv.map (·.1))).Nodup := p.nodup_iff.mpr k.2.1
  have lt : (ordN (m.kv.map (·.1))).Pairwise (· < ·) := by
    have := List.Pairwise.and (S := fun x y : Nat => x ≠ y) (ord_sorted (m.kv.map fun x : Nat × Nat => x.1)) nd
    exact this.imp fun h => Nat.lt_of_le_of_ne h.1 h.2
  refine ⟨?_, fun x hx => ?_, ?_⟩
  · unfold leftM
    rw [pick_map]
    exact lt.filter _
  · obtain ⟨k', _, rfl⟩ := List.mem_map.mp hx
    exact get_lt k.2.2.1 k'
  · refine Nat.le_trans (pick_len _ _) ?_
    rw [p.length_eq, List.length_map]
    have := k.2.2.2
    omega

def spRunM (CR : Addr) : Sp := fun vs H Q _ => ∃ (d : Addr) (G : Gv) (kv : List (Nat × Nat)), vs = [.str G.code, .int (G.given : Nat), .int (G.amount : Nat), .ref d] ∧ H d = some (.dK (kvV kv)) ∧ GoodS 7000 kv ∧ G.code.length ≤ 5000 ∧
  (∀ m' n, finM G 201 ⟨[], kv, 0, 0, 0⟩ = (some m', n) → ∀ (j S dx : Addr) H', Same H H' → H S = none → H' S = some (.dK (kvV (leftM m'))) →
    H' j = some (.ins CR dx [("well", .bl true), ("store", .ref S), ("paid", .int (m'.pd : Nat)), ("steps", .int (m'.st : Nat))]) → Q (.ref j) H') ∧
  (∀ n, finM G 201 ⟨[], kv, 0, 0, 0⟩ = (none, n) → ∀ (j S dx : Addr) H', Same H H' → H S = none → H' S = some (.dK (kvV kv)) → H' j = some (.ins CR dx [("well", .bl false), ("store", .ref S), ("paid", .int 0), ("steps", .int (n : Nat))]) → Q (.ref j) H')

theorem ok_run (TE : TxtE w K mg a) (T : Txt K mg a) : ∃ fd, FnOk P w K mg base CX0 5 a.d_run fd ["code", "given", "amount", "store"] (spRunM a.C_Run) ∧ Binds K fd ["code", "given", "amount", "store"] [] := by
  obtain ⟨fd, F, b⟩ := T.d_run.F
  obtain ⟨fd_Machine_init, G_Machine_init, b_Machine_init⟩ := ok_Machine_init (P := P) (w := w) (base := base) T
  obtain ⟨fd_Run_init, G_Run_init, b_Run_init⟩ := ok_Run_init (P := P) (w := w) (base := base) T
  obtain ⟨fd_Machine_finish, G_Machine_finish, b_Machine_finish⟩ := ok_Machine_finish (P := P) (w := w) (base := base) TE T
  obtain ⟨fdW, GW, bW⟩ := okW_Run_init (P := P) (w := w) (base := base) T
  refine ⟨fd, F.ok sc_run (fun vs H Q E h => ?_) (fun cdv A outer s H vs Q E hr h => ?_), b⟩
  · obtain ⟨_, _, _, rfl, _⟩ := h
    rfl
  · obtain ⟨d, G, kv, rfl, hd, few, lc, k1, k2⟩ := h
    refine ⟨_, (pss_cons (ps_set (i := 4) sc_run.nd rfl (Or.inr rfl) (pe_make T.m_Machine G_Machine_init (hr.mono (by decide)) (by rfl) T.g_Machine b_Machine_init .nil pass0 (pa_cons (pv 0) (pa_cons (pv 1) (pa_cons (pv 2) (pa_cons (pv 3) pa_nil))))))
      (pss_cons (ps_try_only rfl rfl ⟨rfl, by decide, .inl TE.g_Failed⟩ takes0 (fun W pn xe tk po => (pss_one (ps_expr (pe_methT0 (pv 4) T.cl_Machine T.me_Machine_finish G_Machine_finish (hr.mono (by decide)) b_Machine_finish (E := fun σ cls d H => W cls d σ H) (fun σ => passAt tk σ))))) (fun ae oe cls d pn hz hf => (pss_one (ps_ret (pe_makeW (k := 1) (p := (ae, oe)) T.m_Run GW ((L2H.roomH_mark hr _).mono (by decide)) List.mem_cons_self rfl T.g_Run bW (pa_cons pe_bl (pa_cons (pe_callTy call_dictD (by rfl) T.n_dict (by decide +kernel) (pa_cons (pv 3) pa_nil)) (pa_cons pe_int (pa_cons (pe_fldK (K := K) rfl (pv 4) rfl) pa_nil)))))))))
      (pss_cons (ps_setDc (i := 5) (own := [("key", 6)]) (g := (gName 6)) rfl sc_run.nd rfl rfl (sw_trueD rfl rfl rfl (by decide +kernel)) (pi_list (pe_callB (cr_sortDs rfl) (by rfl) T.n_sorted (by decide +kernel) (pa_cons (pe_fld (pv 4) rfl) pa_nil))) (blkOk_by (own := [("key", 6)]) (N := sc_run_N) (sc := defScope s_run) (by decide +kernel)) (fun _ _ _ _ _ => (pg_name (i := 6) sc_run.nd rfl (Or.inl rfl))) (fun _ _ _ _ _ => (pts_one (pt_cmpR op_ne (pe_dget (hu_of hr) (pe_fldK (K := K) rfl (pv 4) rfl) (pv 6) (fun _ _ => rfl)) pe_int (nomark _)))) (fun _ _ _ _ _ => (pv 6)) (fun _ _ _ _ _ => (pe_dget (hu_of hr) (pe_fldK (K := K) rfl (pv 4) rfl) (pv 6) (fun _ _ => rfl))))
      (pss_one (ps_ret (pe_make T.m_Run G_Run_init (hr.mono (by decide)) (by rfl) T.g_Run b_Run_init .nil pass0 (pa_cons pe_bl (pa_cons (pv 5) (pa_cons (pe_fld (pv 4) rfl) (pa_cons (pe_fld (pv 4) rfl) pa_nil)))))))))), ?_⟩
    walk_at "rs"
    intro p dx hp0 hdx0 ndx
    have dne : d ≠ p ∧ d ≠ dx := ⟨ne_of_none hd hp0, ne_of_none hd hdx0⟩
    refine ⟨p, dx, d, G, kv, rfl, upd_same, .inl (by rw [upd_ne dne.1, upd_ne dne.2]; exact hd), fun D L H1 nD nL hm keep => ?_⟩
    refine ⟨rfl, ?_⟩
    have off : ∀ {t : Addr}, (upd (upd H dx (.own p)) p (.ins a.C_Machine dx [])) t = none → H t = none := fun {t} e => by
      by_cases c1 : t = p
      · rw [c1]; exact hp0
      by_cases c2 : t = dx
      · rw [c2]; exact hdx0
      rw [upd_ne c1, upd_ne c2] at e
      exact e
    have nD := off nD
    have nL := off nL
    have s1 : Same H H1 := fun b o e => keep b o (fun q => by rw [q, hp0] at e; cases e) (by rw [upd_ne (fun q => by rw [q, hp0] at e; cases e), upd_ne (fun q => by rw [q, hdx0] at e; cases e)]; exact e)
    have on : ∀ {H' : Hp}, Oth p D L H1 H' → Same H H' := fun {H'} o b u e => o b u (fun q => by rw [q, hp0] at e; cases e) (fun q => by rw [q, nD] at e; cases e) (fun q => by rw [q, nL] at e; cases e) (s1 b u e)
    clear keep off
    walk_at "rs"
    obtain ⟨dx1, hp, hD, hL⟩ := id hm
    refine ⟨p, dx1, _, rfl, hp, rfl, ?_⟩
    refine ⟨p, D, L, G, _, rfl, hm, ⟨by show 0 ≤ 16; decide, by show kv.length ≤ 7900; have := few.2.2; omega, fun v hv => nomatch hv⟩, rfl, by show kv.length ≤ 7600; have := few.2.2; omega, lc, fun m' n H2 e2 h2 f2 o2 => ?_, fun n e2 m' H2 h2 s2 o2 => ?_⟩
    · obtain ⟨hk, hs, -⟩ := Keep.fin (k0 := 7000) (by decide) (Keep.start few.nd few.2.2 (by decide) few.2.1) rfl (Nat.zero_le _) e2
      have small := hk.small (by decide) hs
      have nd := hk.2.1
      have k1 := k1 m' n e2
      have s2 := on o2
      obtain ⟨dx2, hp2, hD2, hL2⟩ := id h2
      walk_at "rs"
      refine ⟨p, _, dx2, _, .ref D, rfl, hp2, T.cl_Machine, T.a_Machine_store, rfl, ?_⟩
      walk_at "rs"
      have lk : (m'.kv.map fun x => (x.1 : Int)).length = m'.kv.length := List.length_map ..
      refine ⟨D, kvV m'.kv, m'.kv.map fun x => (x.1 : Int), rfl, .of hD2, by unfold kvV; rw [List.map_map, List.map_map]; rfl, fun zs q hperm hpw hq => ?_⟩
      obtain ⟨ys, rfl, yp, yw⟩ : ∃ ys : List Nat, zs = ys.map (fun n : Nat => (n : Int)) ∧ ys.Perm (m'.kv.map (·.1)) ∧ ys.Pairwise (· ≤ ·) := by
        refine ⟨zs.map Int.toNat, ?_, ?_, ?_⟩
        · rw [List.map_map]
          conv => lhs; rw [← List.map_id zs]
          refine List.map_congr_left fun z hz => ?_
          obtain ⟨x, _, rfl⟩ := List.mem_map.mp (hperm.mem_iff.mp hz)
          rfl
        · have := hperm.map Int.toNat
          rw [List.map_map] at this
          exact this
        · rw [List.pairwise_map]
          exact hpw.imp fun h => Int.toNat_le_toNat h
      have hq0 := s2.free hq
      have s3 := same_upd (o := .lst ((ys.map fun n : Nat => (n : Int)).map V.int)) s2 hq0
      have nodys : ys.Nodup := yp.nodup_iff.mpr nd
      have ly : ys.length = m'.kv.length := by rw [yp.length_eq, List.length_map]
      have hp3 : ∀ o, upd H2 q o p = H2 p := fun o => upd_ne (ne_of_none hp2 hq)
      have hD3 : ∀ o, upd H2 q o D = H2 D := fun o => upd_ne (ne_of_none hD2 hq)
      walk_at "rs"
      refine ⟨⟨_, SqL.of upd_same⟩, fun B hB => ?_⟩
      generalize hH3 : upd H2 q (.lst ((ys.map fun n : Nat => (n : Int)).map V.int)) = H3 at s3 hB ⊢
      have hq3 : H3 q = some (.lst ((ys.map fun n : Nat => (n : Int)).map V.int)) := by rw [← hH3]; exact upd_same
      have hp3 : H3 p = H2 p := by rw [← hH3, hp3]
      have hD3 : H3 D = H2 D := by rw [← hH3, hD3]
      rw [hp2] at hp3
      rw [hD2] at hD3
      have hB0 := s3.free hB
      refine dc_ints (K := K) (a := q) (xs := (ys.map fun n : Nat => (n : Int)).map V.int) (fun i H4 => Same H3 H4 ∧ H4 B = some (.dK (kvV (pick (ys.take i) m'.kv)))) ⟨same_new hB, upd_same⟩ (fun i H4 ⟨s4, _⟩ => SqL.of (s4 _ _ hq3)) ?_ ?_
      · rintro i y H4 hy ⟨s4, hB4⟩
        obtain ⟨k, hk, rfl⟩ : ∃ k, ys[i]? = some k ∧ y = V.int (k : Int) := by
          rw [List.getElem?_map, List.getElem?_map] at hy
          cases h : ys[i]? with
          | none => rw [h] at hy; cases hy
          | some k =>
            rw [h] at hy
            exact ⟨k, rfl, (Option.some.inj hy).symm⟩
        have hmem : k ∈ m'.kv.map (·.1) := yp.mem_iff.mp (List.mem_of_getElem? hk)
        have hp4 := s4 _ _ hp3
        have hg4 : DGet H4 D (V.int (k : Int)) (some (V.int (getN m'.kv k : Nat))) := by
          have := DGet.k (k := Sum.inl (k : Int)) (s4 _ _ hD3)
          rw [val_mem hmem] at this
          exact this
        have pt := pick_take (kv := m'.kv) hk
        refine ⟨rfl, ?_⟩
        walk_at "rs"
        refine ⟨p, _, dx2, _, .ref D, rfl, hp4, T.cl_Machine, T.a_Machine_store, rfl, ?_⟩
        walk_at "rs"
        refine ⟨D, _, rfl, hg4, ?_⟩
        walk_at "rs"
        refine ite2 (fun c => ?_) (fun c => ?_)
        · have c : getN m'.kv k ≠ 0 := fun e => by
            rw [e] at c
            simp at c
          rw [if_pos c] at pt
          walk_at "rs"
          refine ⟨p, _, dx2, _, .ref D, rfl, hp4, T.cl_Machine, T.a_Machine_store, rfl, ?_⟩
          walk_at "rs"
          refine ⟨D, _, rfl, hg4, ?_⟩
          have lp : (pick (ys.take i) m'.kv).length ≤ 7200 := by
            unfold pick
            rw [List.length_map]
            have h1 := List.length_filter_le (fun k => decide (getN m'.kv k ≠ 0)) (ys.take i)
            have h2 := List.length_take_le' i ys
            omega
          refine ⟨_, Sum.inl (k : Int), rfl, hB4, by rw [len_kv]; exact small8000 (by omega), same_upd s4 hB, ?_⟩
          rw [upd_same, put_kv, put_new (k := k) (fun x hx e => nodup_take nodys hk (by rw [← e]; exact pick_keys hx)), pt]
        · have c : ¬ getN m'.kv k ≠ 0 := fun h => c (by simpa using h)
          rw [if_neg c] at pt
          refine ⟨s4, ?_⟩
          rw [pt]
          exact hB4
      · rintro H4 ⟨s4, hB4⟩
        rw [List.take_of_length_le (by simp)] at hB4
        have s5 := s3.trans s4
        have hp4 := s4 _ _ hp3
        walk_at "rs"
        refine ⟨p, _, dx2, _, .int (m'.pd : Nat), rfl, hp4, T.cl_Machine, T.a_Machine_paid, rfl, ?_⟩
        walk_at "rs"
        refine ⟨p, _, dx2, _, .int (m'.st : Nat), rfl, hp4, T.cl_Machine, T.a_Machine_steps, rfl, ?_⟩
        walk_at "rs"
        intro j dj hj hdj nj
        refine ⟨j, dj, _, _, _, _, rfl, upd_same, fun H5 h5 keep => ?_⟩
        have s6 := made hj hdj keep
        refine ⟨rfl, ?_⟩
        exact k1 j B dj H5 (s5.trans s6) hB0 (by unfold leftM; rw [← ord_is yp yw]; exact s6 _ _ hB4) h5
    · have s3 := on o2
      obtain ⟨dx2, hp2, hD2, hL2⟩ := id h2
      refine ⟨true, TE.exm_Failed_Failed, fun _ ex hex => ?_, fun z => nomatch z⟩
      walk_at "rs"
      refine ⟨d, _, rfl, .inl (s3 _ _ hd), fun S hS => ?_⟩
      have nS := s3.free hS
      have s4 := same_upd (o := .dK (kvV kv)) s3 nS
      walk_at "rs"
      refine ⟨p, _, dx2, _, .int (m'.st : Nat), rfl, by rw [upd_ne (ne_of_none hp2 hS)]; exact hp2, T.cl_Machine, T.a_Machine_steps, rfl, ?_⟩
      walk_at "rs"
      intro j dj hj hdj nj
      refine ⟨j, dj, _, _, _, _, rfl, upd_same, fun H5 h5 keep => ?_⟩
      have s5 := made hj hdj keep
      refine ⟨rfl, ?_⟩
      rw [s2] at h5
      exact k2 n e2 j S dj H5 (s4.trans s5) nS (s5 _ _ upd_same) h5

/-- a command -/
inductive Cm where
  | p (a b c : Int)
  | w (a b : Int)
  | k (a b c : Int)
  | d (a : Int) (code : Str)
def Cm.ki : Cm → Str
  | .p _ _ _ => "p"
  | .w _ _ => "w"
  | .k _ _ _ => "k"
  | .d _ _ => "d"
def Cm.ps : Cm → List V
  | .p a b c => [.int a, .int b, .int c]
  | .w a b => [.int a, .int b]
  | .k a b c => [.int a, .int b, .int c]
  | .d a s => [.int a, .str s]
def CmAt (H : Hp) (p : Addr) (c : Cm) : Prop := H p = some (.tup (.str c.ki :: c.ps))
def NOk (i : Int) : Prop := 0 ≤ i ∧ i ≤ 999999
/-- the signs of programs -/
def Sgn (z : Str) : Prop := ∀ n ∈ TL.tl z, n ∈ TL.tl "0123456789ginasmtcehlujfyo"
/-- a command that the law makes -/
def Cm.good : Cm → Prop
  | .p a b c => NOk a ∧ NOk b ∧ NOk c
  | .w a b => NOk a ∧ NOk b
  | .k a b c => NOk a ∧ NOk b ∧ NOk c
  | .d a s => NOk a ∧ s.length ≤ 12 ∧ Sgn s
theorem strOk_cps {x : Str} (h : ∀ c ∈ TL.tl x, c < 1114112) : PyData.strOk x = true := by
  unfold PyData.strOk
  rw [← Array.all_toList]
  exact List.all_eq_true.mpr fun c hc => decide_eq_true (h c hc)
theorem Sgn.ok {z : Str} (h : Sgn z) : PyData.strOk z = true := strOk_cps fun c hc => by
  have : ∀ c ∈ TL.tl "0123456789ginasmtcehlujfyo", c < 1114112 := by decide +kernel
  exact this c (h c hc)

/-! ### accounts -/
structure Ac where
  bal : List Int
  cds : List Str
  sts : List (List (Nat × Nat))
structure GoodA (n k : Nat) (A : Ac) : Prop where
  lb : A.bal.length = n
  lc : A.cds.length = n
  ls : A.sts.length = n
  few : n ≤ 100
  nn : ∀ b ∈ A.bal, 0 ≤ b
  co : ∀ z ∈ A.cds, z.length ≤ 1000 ∧ Sgn z
  st : ∀ kv ∈ A.sts, GoodS k kv
def moveA (bal : List Int) (i j : Nat) (x : Int) : List Int := (bal.set i (bal.getD i 0 - x)).set j ((bal.set i (bal.getD i 0 - x)).getD j 0 + x)
def callG (A : Ac) (j : Nat) (g : Int) : Gv := ⟨A.cds.getD j "", g.toNat, (A.bal.getD j 0).toNat⟩
/-- the accounts after a command; none: it is refused -/
def afterA (A : Ac) : Cm → Option Ac
  | .w _ _ => none
  | .d a z => if a < A.bal.length then some ⟨A.bal, A.cds.set a.toNat z, A.sts.set a.toNat []⟩ else none
  | .p a b c => if (a < A.bal.length ∧ b < A.bal.length) ∧ c ≤ A.bal.getD a.toNat 0 then some ⟨moveA A.bal a.toNat b.toNat c, A.cds, A.sts⟩ else none
  | .k a b g => if (a < A.bal.length ∧ b < A.bal.length) ∧ A.cds.getD b.toNat "" ≠ "" then
      match (finM (callG A b.toNat g) 201 ⟨[], A.sts.getD b.toNat [], 0, 0, 0⟩).1 with
      | some m => if (m.pd : Int) ≤ A.bal.getD b.toNat 0 then some ⟨moveA A.bal b.toNat a.toNat (m.pd : Int), A.cds, A.sts.set b.toNat (leftM m)⟩ else none
      | none => none
    else none
/-- a command whose parts fit -/
def Cm.fine : Cm → Prop
  | .p a b c => NOk a ∧ NOk b ∧ NOk c
  | .w a b => NOk a ∧ NOk b
  | .k a b c => NOk a ∧ NOk b ∧ NOk c
  | .d a s => NOk a ∧ s.length ≤ 1000 ∧ Sgn s
theorem Cm.good.fine : ∀ {c : Cm}, c.good → c.fine
  | .p _ _ _, h => h
  | .w _ _, h => h
  | .k _ _ _, h => h
  | .d _ _, h => ⟨h.1, Nat.le_trans h.2.1 (by decide), h.2.2⟩
theorem moveA_len (bal : List Int) (i j : Nat) (x : Int) : (moveA bal i j x).length = bal.length := by
  unfold moveA
  rw [List.length_set, List.length_set]
theorem set_mem {α : Type} {xs : List α} {i : Nat} {x y : α} (h : y ∈ xs.set i x) : y ∈ xs ∨ y = x := List.mem_or_eq_of_mem_set h
theorem moveA_nn {bal : List Int} (h : ∀ b ∈ bal, 0 ≤ b) {i j : Nat} {x : Int} (h0 : 0 ≤ x) (hx : x ≤ bal.getD i 0) : ∀ b ∈ moveA bal i j x, 0 ≤ b := by
  have one : ∀ b ∈ bal.set i (bal.getD i 0 - x), 0 ≤ b := fun b hb => by
    rcases set_mem hb with hb | rfl
    · exact h b hb
    · omega
  intro b hb
  unfold moveA at hb
  rcases set_mem hb with hb | rfl
  · exact one b hb
  · rcases Nat.lt_or_ge j (bal.set i (bal.getD i 0 - x)).length with lt | ge
    · have := one _ (getD_mem lt)
      omega
    · rw [List.getD_eq_getElem?_getD, List.getElem?_eq_none ge]
      show (0 : Int) ≤ 0 + x
      omega
theorem GoodS.mono {k l : Nat} {kv : List (Nat × Nat)} (g : GoodS k kv) (h : k ≤ l) : GoodS l kv := ⟨g.1, g.2.1, Nat.le_trans g.2.2 h⟩
theorem GoodA.mono {n k l : Nat} {A : Ac} (g : GoodA n k A) (h : k ≤ l) : GoodA n l A := { g with st := fun kv hk => (g.st kv hk).mono h }
theorem getD_memS {α : Type} {xs : List α} {d : α} {i : Nat} (h : i < xs.length) : xs.getD i d ∈ xs := by
  rw [List.getD_eq_getElem?_getD, List.getElem?_eq_getElem h]
  exact List.getElem_mem h
theorem fin_good {G : Gv} {kv : List (Nat × Nat)} {k n : Nat} {m : Mc} (g : GoodS k kv) (hk : k ≤ 7000) (e : finM G 201 ⟨[], kv, 0, 0, 0⟩ = (some m, n)) : GoodS (k + 200) (leftM m) := by
  obtain ⟨hm, hs, -⟩ := Keep.fin (k0 := k) hk (Keep.start g.nd g.2.2 hk g.2.1) rfl (Nat.zero_le _) e
  exact left_good hm hs
theorem afterA_good {n k : Nat} {A B : Ac} {c : Cm} (g : GoodA n k A) (hk : k ≤ 7000) (hc : c.fine) (e : afterA A c = some B) : GoodA n (k + 200) B := by
  cases c with
  | w a b => cases e
  | d a z =>
    rw [afterA] at e
    split at e
    · cases e
      refine ⟨g.lb, (List.length_set ..).trans g.lc, (List.length_set ..).trans g.ls, g.few, g.nn, fun y hy => ?_, fun kv hkv => ?_⟩
      · rcases set_mem hy with hy | rfl
        · exact g.co y hy
        · exact hc.2
      · rcases set_mem hkv with h | rfl
        · exact (g.st kv h).mono (by omega)
        · exact ⟨.nil, fun x hx => absurd hx List.not_mem_nil, Nat.zero_le _⟩
    · cases e
  | p a b x =>
    rw [afterA] at e
    split at e
    · rename_i h
      cases e
      exact ⟨(moveA_len ..).trans g.lb, g.lc, g.ls, g.few, moveA_nn g.nn hc.2.2.1 h.2, g.co, (g.mono (Nat.le_add_right k 200)).st⟩
    · cases e
  | k a b x =>
    rw [afterA] at e
    split at e
    · rename_i h
      obtain ⟨r, er⟩ : ∃ r, r = finM (callG A b.toNat x) 201 ⟨[], A.sts.getD b.toNat [], 0, 0, 0⟩ := ⟨_, rfl⟩
      rw [← er] at e
      obtain ⟨o, n'⟩ := r
      cases o with
      | none => cases e
      | some m =>
        replace e : (if (m.pd : Int) ≤ A.bal.getD b.toNat 0 then some (⟨moveA A.bal b.toNat a.toNat (m.pd : Int), A.cds, A.sts.set b.toNat (leftM m)⟩ : Ac) else none) = some B := e
        split at e
        · rename_i hp
          cases e
          refine ⟨(moveA_len ..).trans g.lb, g.lc, (List.length_set ..).trans g.ls, g.few, moveA_nn g.nn (Int.natCast_nonneg _) hp, g.co, fun kv hkv => ?_⟩
          rcases set_mem hkv with h' | rfl
          · exact (g.st kv h').mono (by omega)
          · have hb : b.toNat < A.sts.length := by
              have := h.1.2
              have := hc.2.1.1
              have := g.lb
              have := g.ls
              omega
            exact fin_good (g.st _ (getD_memS hb)) hk er.symm
        · cases e
    · cases e
/-! ### ledgers in the heap -/
def PrAt (H : Hp) (p : Addr) (x : Nat × Nat) : Prop := H p = some (.tup [.int (x.1 : Int), .int (x.2 : Int)])
/-- a store as a tuple of pairs, its object told -/
def TsAt (H : Hp) (t : Addr) (kv : List (Nat × Nat)) : Prop := ∃ (o : Obj) (ps : List Addr), H t = some (.frz o (.tup (ps.map V.ref))) ∧ o.dict = none ∧ Paired (PrAt H) ps kv
theorem imp_paired {α β : Type} {F G : α → β → Prop} {xs : List α} {ys : List β} (h : Paired F xs ys) (i : ∀ a b, F a b → G a b) : Paired G xs ys := L2.Paired.mapP h i
theorem TsAt.same {H H' : Hp} {t : Addr} {kv : List (Nat × Nat)} (h : TsAt H t kv) (s : Same H H') : TsAt H' t kv := by
  obtain ⟨o, ps, h1, h2, h3⟩ := h
  exact ⟨o, ps, s _ _ h1, h2, imp_paired h3 fun a b => s _ _⟩
def LgAt (C : Addr) (H : Hp) (p : Addr) (A : Ac) : Prop := ∃ (dx b c s : Addr) (ts : List Addr), H p = some (.ins C dx [("balances", .ref b), ("codes", .ref c), ("stores", .ref s)]) ∧
  H b = some (.tup (A.bal.map V.int)) ∧ H c = some (.tup (A.cds.map V.str)) ∧ H s = some (.tup (ts.map V.ref)) ∧ Paired (TsAt H) ts A.sts
theorem LgAt.same {C : Addr} {H H' : Hp} {p : Addr} {A : Ac} (h : LgAt C H p A) (s : Same H H') : LgAt C H' p A := by
  obtain ⟨dx, b, c, t, ts, h1, h2, h3, h4, h5⟩ := h
  exact ⟨dx, b, c, t, ts, s _ _ h1, s _ _ h2, s _ _ h3, s _ _ h4, imp_paired h5 fun a b z => z.same s⟩
/-- how a store is compared -/
def TpAt (K : PySem.W.Frag) (H : Hp) (t : Addr) (kv : List (Nat × Nat)) : Prop := ∃ ps : List Addr, SqT K H t (ps.map V.ref) ∧ Paired (PrAt H) ps kv
theorem TsAt.tp {K : PySem.W.Frag} {H : Hp} {t : Addr} {kv : List (Nat × Nat)} (h : TsAt H t kv) : TpAt K H t kv := by
  obtain ⟨o, ps, h1, _, h3⟩ := h
  exact ⟨ps, .inl (.inr ⟨o, h1⟩), h3⟩
def prA (x : Nat × Nat) : PyData := .tuple [.int (x.1 : Int), .int (x.2 : Int)]
def kvA (kv : List (Nat × Nat)) : PyData := .tuple (kv.map prA)
def stsA (sts : List (List (Nat × Nat))) : PyData := .tuple (sts.map kvA)
theorem dp_pairs {K : PySem.W.Frag} {H : Hp} : ∀ {ps : List Addr} {kv : List (Nat × Nat)}, Paired (PrAt H) ps kv → DpAll K H (ps.map V.ref) (kv.map prA)
  | _, _, .nil => .nil
  | _, _, .cons h t => .cons (.tup (SqT.of h) (.cons (.int _) (.cons (.int _) .nil))) (dp_pairs t)
theorem dp_kv {K : PySem.W.Frag} {H : Hp} {t : Addr} {kv : List (Nat × Nat)} (h : TpAt K H t kv) : Dp K H (.ref t) (kvA kv) := by
  obtain ⟨ps, h1, h2⟩ := h
  exact .tup h1 (dp_pairs h2)
theorem dp_kvs {K : PySem.W.Frag} {H : Hp} : ∀ {ts : List Addr} {sts : List (List (Nat × Nat))}, Paired (TpAt K H) ts sts → DpAll K H (ts.map V.ref) (sts.map kvA)
  | _, _, .nil => .nil
  | _, _, .cons h t => .cons (dp_kv h) (dp_kvs t)
theorem dp_sts {K : PySem.W.Frag} {H : Hp} {s : Addr} {ts : List Addr} {sts : List (List (Nat × Nat))} (h : SqT K H s (ts.map V.ref)) (p : Paired (TpAt K H) ts sts) : Dp K H (.ref s) (stsA sts) := .tup h (dp_kvs p)
theorem dp_intsA {K : PySem.W.Frag} {H : Hp} : ∀ xs : List Int, DpAll K H (xs.map V.int) (xs.map PyData.int)
  | [] => .nil
  | x :: xs => .cons (.int x) (dp_intsA xs)
theorem dp_strsA {K : PySem.W.Frag} {H : Hp} : ∀ xs : List Str, DpAll K H (xs.map V.str) (xs.map PyData.str)
  | [] => .nil
  | x :: xs => .cons (.str x) (dp_strsA xs)
theorem lay_all {α : Type} {f : α → PyData} : ∀ {xs : List α}, (∀ x ∈ xs, PyData.canLay0 (f x) = true) → PyData.canLayAll0 (xs.map f) = true
  | [], _ => by simp [PyData.canLayAll0]
  | x :: xs, h => by
    simp only [List.map_cons, PyData.canLayAll0, h x List.mem_cons_self, lay_all fun y hy => h y (List.mem_cons_of_mem _ hy)]
    rfl
theorem deep_all {α : Type} {f : α → PyData} {d : Nat} : ∀ {xs : List α}, (∀ x ∈ xs, (f x).depth ≤ d) → PyData.depthAll (xs.map f) ≤ d
  | [], _ => by simp [PyData.depthAll]
  | x :: xs, h => by
    simp only [List.map_cons, PyData.depthAll]
    exact Nat.max_le.mpr ⟨h x List.mem_cons_self, deep_all fun y hy => h y (List.mem_cons_of_mem _ hy)⟩
theorem deep_tup {α : Type} {f : α → PyData} {d : Nat} {xs : List α} (h : ∀ x ∈ xs, (f x).depth ≤ d) : (PyData.tuple (xs.map f)).depth ≤ d + 1 := by
  simp only [PyData.depth]
  have := deep_all h
  omega
theorem lay_tup {α : Type} {f : α → PyData} {xs : List α} (h : ∀ x ∈ xs, PyData.canLay0 (f x) = true) : PyData.canLay0 (.tuple (xs.map f)) = true := by
  simp only [PyData.canLay0]
  exact lay_all h
theorem shaped_of {d : PyData} (h1 : d.canLay0 = true) (h2 : d.depth ≤ 64) : SeqAt.shaped d = true := by
  unfold SeqAt.shaped
  rw [h1, decide_eq_true h2]
  rfl
theorem lay_pr (x : Nat × Nat) : (prA x).canLay0 = true := rfl
theorem deep_pr (x : Nat × Nat) : (prA x).depth ≤ 1 := by
  show (PyData.tuple [.int _, .int _]).depth ≤ 1
  simp [PyData.depth, PyData.depthAll]
theorem shaped_sts (sts : List (List (Nat × Nat))) : SeqAt.shaped (stsA sts) = true :=
  shaped_of (lay_tup fun kv _ => lay_tup fun x _ => lay_pr x) (Nat.le_trans (deep_tup (d := 2) fun kv _ => deep_tup (d := 1) fun x _ => deep_pr x) (by decide))
theorem shaped_intsA (xs : List Int) : SeqAt.shaped (.tuple (xs.map PyData.int)) = true :=
  shaped_of (lay_tup fun x _ => rfl) (Nat.le_trans (deep_tup (d := 0) fun x _ => by simp [PyData.depth]) (by decide))
theorem shaped_strsA {xs : List Str} (o : ∀ x ∈ xs, PyData.strOk x = true) : SeqAt.shaped (.tuple (xs.map PyData.str)) = true :=
  shaped_of (lay_tup fun x hx => by simp only [PyData.canLay0]; exact o x hx) (Nat.le_trans (deep_tup (d := 0) fun x _ => by simp [PyData.depth]) (by decide))
theorem eqv_all {α : Type} [DecidableEq α] {f : α → PyData} (hf : ∀ x y, PyData.eqv (f x) (f y) = decide (x = y)) : ∀ xs ys : List α, PyData.eqvAll (xs.map f) (ys.map f) = decide (xs = ys)
  | [], [] => rfl
  | [], y :: ys => rfl
  | x :: xs, [] => rfl
  | x :: xs, y :: ys => by
    simp only [List.map_cons, PyData.eqvAll, hf x y, eqv_all hf xs ys, List.cons.injEq, Bool.decide_and]
theorem eqv_tupA {α : Type} [DecidableEq α] {f : α → PyData} (hf : ∀ x y, PyData.eqv (f x) (f y) = decide (x = y)) (xs ys : List α) : PyData.eqv (.tuple (xs.map f)) (.tuple (ys.map f)) = decide (xs = ys) := by
  simp only [PyData.eqv]
  exact eqv_all hf xs ys
theorem beq_dec {α : Type} [DecidableEq α] (x y : α) : (x == y) = decide (x = y) := by
  by_cases h : x = y
  · rw [decide_eq_true h, h, beq_self_eq_true]
  · rw [decide_eq_false h]
    exact beq_eq_false_iff_ne.mpr h
theorem eqv_intsA (xs ys : List Int) : PyData.eqv (.tuple (xs.map PyData.int)) (.tuple (ys.map PyData.int)) = decide (xs = ys) := eqv_tupA (fun x y => by simp only [PyData.eqv]; exact beq_dec x y) xs ys
theorem eqv_strsA (xs ys : List Str) : PyData.eqv (.tuple (xs.map PyData.str)) (.tuple (ys.map PyData.str)) = decide (xs = ys) := eqv_tupA (fun x y => by
  simp only [PyData.eqv]
  by_cases h : x = y
  · rw [decide_eq_true h, h, beq_self_eq_true]
  · rw [decide_eq_false h]
    exact beq_eq_false_iff_ne.mpr h) xs ys
theorem eqv_prA (x y : Nat × Nat) : PyData.eqv (prA x) (prA y) = decide (x = y) := by
  unfold prA
  simp only [PyData.eqv, PyData.eqvAll, Bool.and_true]
  obtain ⟨x1, x2⟩ := x
  obtain ⟨y1, y2⟩ := y
  rw [beq_dec, beq_dec, ← Bool.decide_and]
  exact decide_eq_decide.mpr ⟨fun h => by have h1 := h.1; have h2 := h.2; simp only at h1 h2; rw [Int.ofNat_inj.mp h1, Int.ofNat_inj.mp h2], fun h => by cases h; exact ⟨rfl, rfl⟩⟩
theorem eqv_sts (xs ys : List (List (Nat × Nat))) : PyData.eqv (stsA xs) (stsA ys) = decide (xs = ys) := eqv_tupA (fun x y => eqv_tupA eqv_prA x y) xs ys
def eqA (A B : Ac) : Bool := decide (A.bal = B.bal) && (decide (A.cds = B.cds) && decide (A.sts = B.sts))

def spLInit (C : Addr) : Sp := fun vs H Q _ => ∃ (p dx : Addr) (v1 v2 v3 : V), vs = [.ref p, v1, v2, v3] ∧ H p = some (.ins C dx []) ∧
  ∀ H', H' p = some (.ins C dx [("balances", v1), ("codes", v2), ("stores", v3)]) → (∀ b o, b ≠ p → H b = some o → H' b = some o) → Q .non H'
theorem ok_Ledger_init (T : Txt K mg a) : ∃ fd, FnOk P w K mg base CX0 1 a.d_Ledger_init fd ["self", "balances", "codes", "stores"] (spLInit a.C_Ledger) ∧ Binds K fd ["self", "balances", "codes", "stores"] [] := by
  obtain ⟨fd, F, b⟩ := T.d_Ledger_init.F
  refine ⟨fd, F.ok sc_Ledger_init (fun vs H Q E h => ?_) (fun cdv A outer s H vs Q E hr h => ?_), b⟩
  · obtain ⟨_, _, _, _, _, rfl, _⟩ := h
    rfl
  · obtain ⟨p, dx, v1, v2, v3, rfl, hp, k⟩ := h
    refine ⟨_, (pss_cons (ps_fld (pv 0) (pv 1) rfl)
      (pss_cons (ps_fld (pv 0) (pv 2) rfl)
      (pss_one (ps_fld (pv 0) (pv 3) rfl)))), ?_⟩
    walk_at "rs"
    refine ⟨p, _, dx, [], rfl, hp, T.cl_Ledger, T.a_Ledger_balances, (by show 0 < 1000; decide), ?_⟩
    walk_at "rs"
    refine ⟨p, _, dx, _, rfl, upd_same, T.cl_Ledger, T.a_Ledger_codes, (by show 1 < 1000; decide), ?_⟩
    rw [upd_upd]
    walk_at "rs"
    refine ⟨p, _, dx, _, rfl, upd_same, T.cl_Ledger, T.a_Ledger_stores, (by show 2 < 1000; decide), ?_⟩
    rw [upd_upd]
    refine k _ ?_ (fun b o n e => by rw [upd_ne n]; exact e)
    rw [upd_same]
    rfl

def spEqL (C : Addr) : Sp := fun vs H Q _ => ∃ (p q : Addr) (A B : Ac), vs = [.ref p, .ref q] ∧ LgAt C H p A ∧ LgAt C H q B ∧ (∀ z ∈ A.cds, PyData.strOk z = true) ∧ (∀ z ∈ B.cds, PyData.strOk z = true) ∧ Q (.bl (eqA A B)) H
theorem ok_Ledger_eq (TE : TxtE w K mg a) (T : Txt K mg a) : ∃ fd, FnOk P w K mg base CX0 1 a.d_Ledger_eq fd ["self", "other"] (spEqL a.C_Ledger) ∧ Binds K fd ["self", "other"] [] := by
  obtain ⟨fd, F, b⟩ := T.d_Ledger_eq.F
  refine ⟨fd, F.ok sc_Ledger_eq (fun vs H Q E h => ?_) (fun cdv A outer s H vs Q E hr h => ?_), b⟩
  · obtain ⟨_, _, _, _, rfl, _⟩ := h
    rfl
  · obtain ⟨p, q, A1, B1, rfl, hp, hq, o1, o2, k⟩ := h
    obtain ⟨dx, b1, c1, s1, ts, h1, h2, h3, h4, h5⟩ := hp
    obtain ⟨dy, b2, c2, s2, us, g1, g2, g3, g4, g5⟩ := hq
    refine ⟨_, (pss_one (ps_ret (pe_and (pe_callB call_isi (by rfl) T.n_isinstance (by decide +kernel) (pa_cons (pv 1) (pa_cons (pe_glob (v := .ref a.C_Ledger) rfl T.g_Ledger rfl) pa_nil))) (pe_and (pe_cmpR (op_eqD hr.units) (pe_fld (pv 0) rfl) (pe_fld (pv 1) rfl) (nomark _)) (pe_and (pe_cmpR (op_eqD hr.units) (pe_fld (pv 0) rfl) (pe_fld (pv 1) rfl) (nomark _)) (pe_one (pe_cmpR (op_eqD hr.units) (pe_fld (pv 0) rfl) (pe_fld (pv 1) rfl) (nomark _)))))))), ?_⟩
    walk_at "rs"
    refine ⟨.ref q, .ref a.C_Ledger, .ref a.C_Ledger, .ref a.C_Ledger, true, rfl, .own _, .base (.ins g1 T.cl_Ledger TE.ic_Ledger.1 TE.ic_Ledger.2.1 TE.ic_Ledger.2.2.1 TE.ic_Ledger.2.2.2), TE.kt_Ledger_Ledger, ?_⟩
    refine ⟨true, rfl, ?_⟩
    refine ite2 (fun _ => ?_) (fun c => absurd rfl c)
    walk_at "rs"
    refine ⟨p, _, dx, _, .ref b1, rfl, h1, T.cl_Ledger, T.a_Ledger_balances, rfl, ?_⟩
    walk_at "rs"
    refine ⟨q, _, dy, _, .ref b2, rfl, g1, T.cl_Ledger, T.a_Ledger_balances, rfl, ?_⟩
    refine ⟨.tuple (A1.bal.map PyData.int), .tuple (B1.bal.map PyData.int), .tup (SqT.of h2) (dp_intsA _), .tup (SqT.of g2) (dp_intsA _), shaped_intsA _, shaped_intsA _, ?_⟩
    rw [eqv_intsA]
    unfold eqA at k
    refine ⟨_, rfl, ?_⟩
    refine ite2 (fun d1 => ?_) (fun d1 => ?_)
    · rw [d1, Bool.true_and] at k
      walk_at "rs"
      refine ⟨p, _, dx, _, .ref c1, rfl, h1, T.cl_Ledger, T.a_Ledger_codes, rfl, ?_⟩
      walk_at "rs"
      refine ⟨q, _, dy, _, .ref c2, rfl, g1, T.cl_Ledger, T.a_Ledger_codes, rfl, ?_⟩
      refine ⟨.tuple (A1.cds.map PyData.str), .tuple (B1.cds.map PyData.str), .tup (SqT.of h3) (dp_strsA _), .tup (SqT.of g3) (dp_strsA _), shaped_strsA o1, shaped_strsA o2, ?_⟩
      rw [eqv_strsA]
      refine ⟨_, rfl, ?_⟩
      refine ite2 (fun d2 => ?_) (fun d2 => ?_)
      · rw [d2, Bool.true_and] at k
        walk_at "rs"
        refine ⟨p, _, dx, _, .ref s1, rfl, h1, T.cl_Ledger, T.a_Ledger_stores, rfl, ?_⟩
        walk_at "rs"
        refine ⟨q, _, dy, _, .ref s2, rfl, g1, T.cl_Ledger, T.a_Ledger_stores, rfl, ?_⟩
        refine ⟨stsA A1.sts, stsA B1.sts, dp_sts (SqT.of h4) (imp_paired h5 fun _ _ => TsAt.tp), dp_sts (SqT.of g4) (imp_paired g5 fun _ _ => TsAt.tp), shaped_sts _, shaped_sts _, ?_⟩
        rw [eqv_sts]
        exact k
      · rw [Bool.eq_false_iff.mpr d2, Bool.false_and] at k
        exact k
    · rw [Bool.eq_false_iff.mpr d1, Bool.false_and] at k
      exact k

theorem repl_flat {α : Type} (x : α) : ∀ n : Nat, (List.replicate n [x]).flatten = List.replicate n x
  | 0 => rfl
  | n + 1 => by
    rw [List.replicate_succ, List.flatten_cons, repl_flat x n, List.replicate_succ]
    rfl
/-- the accounts at the beginning -/
def firstA (bal : List Int) : Ac := ⟨bal, List.replicate bal.length ("" : Str), List.replicate bal.length []⟩
def spFirstL (K : PySem.W.Frag) (C : Addr) : Sp := fun vs H Q _ => ∃ (g : Addr) (bal : List Int), vs = [.ref g] ∧ (SqL K H g (bal.map V.int) ∨ H g = some (.tup (bal.map V.int))) ∧ bal.length ≤ 100 ∧
  ∀ p H', Same H H' → H p = none → LgAt C H' p (firstA bal) → Q (.ref p) H'
theorem paired_rep {α β : Type} {F : α → β → Prop} {x : α} {y : β} (h : F x y) : ∀ n : Nat, Paired F (List.replicate n x) (List.replicate n y)
  | 0 => .nil
  | n + 1 => .cons h (paired_rep h n)
theorem ok_first_ledger (T : Txt K mg a) : ∃ fd, FnOk P w K mg base CX0 3 a.d_first_ledger fd ["grants"] (spFirstL K a.C_Ledger) ∧ Binds K fd ["grants"] [] := by
  obtain ⟨fd, F, b⟩ := T.d_first_ledger.F
  obtain ⟨fd_Ledger_init, G_Ledger_init, b_Ledger_init⟩ := ok_Ledger_init (P := P) (w := w) (base := base) T
  refine ⟨fd, F.ok sc_first_ledger (fun vs H Q E h => ?_) (fun cdv A outer s H vs Q E hr h => ?_), b⟩
  · obtain ⟨_, _, rfl, _⟩ := h
    rfl
  · obtain ⟨g, bal, rfl, hg, few, k⟩ := h
    refine ⟨_, (C8.pss_cut (ps_set (i := 1) sc_first_ledger.nd rfl (Or.inl rfl) (pe_callTy call_tuple_of (by rfl) T.n_tuple (by decide +kernel) (pa_cons (pv 0) pa_nil)))
      (pss_one (ps_ret (pe_make T.m_Ledger G_Ledger_init (hr.mono (by decide)) (by rfl) T.g_Ledger b_Ledger_init .nil pass0 (pa_cons (pv 1) (pa_cons (pe_op op_repB (pe_tup (pa_cons pe_str pa_nil)) (pe_callB call_len_seq (by rfl) T.n_len PySem.boot_len (pa_cons (pv 1) pa_nil))) (pa_cons (pe_op op_repB (pe_tup (pa_cons pe_tup0F pa_nil)) (pe_callB call_len_seq (by rfl) T.n_len PySem.boot_len (pa_cons (pv 1) pa_nil))) pa_nil))))))), ?_⟩
    refine ⟨fun σ H' => ∃ t, σ = [some (.ref g), some (.ref t)] ∧ Same H H' ∧ H' t = some (.tup (bal.map V.int)), ?_, ?_⟩
    · walk_at "rs"
      refine ⟨g, bal.map V.int, rfl, ?_⟩
      rcases hg with hg | hg
      · exact .inl ⟨hg, fun t ht => ⟨t, rfl, same_new ht, upd_same⟩⟩
      · exact .inr ⟨SqT.of hg, ⟨g, rfl, Same.refl _, hg⟩⟩
    rintro σ H1 ⟨t, rfl, s1, ht1⟩
    walk_at "rs"
    refine ⟨(by show 1 ≤ sizeLine; decide), fun q1 hq1 => ?_⟩
    have s2 := same_new (o := .tup [V.str ""]) hq1
    have h2 : (upd H1 q1 (.tup [V.str ""])) q1 = some (.tup [V.str ""]) := upd_same
    generalize upd H1 q1 (.tup [V.str ""]) = H2 at s2 h2 ⊢
    walk_at "rs"
    refine ⟨t, _, rfl, .inr (SqT.of (s2 _ _ ht1)), ?_⟩
    rw [List.length_map]
    refine ⟨q1, _, _, rfl, rfl, h2, (fun e => nomatch e), by omega, by omega, (by show 1 ≤ 1000; decide), fun qc H3 s3 h3 => ?_⟩
    rw [repl_flat] at h3
    walk_at "rs"
    intro q3 o3 hq3 ho3
    have s4 := same_new (o := .frz o3 (.tup [])) hq3
    have h4 : upd H3 q3 (.frz o3 (.tup [])) q3 = some (.frz o3 (.tup [])) := upd_same
    generalize upd H3 q3 (.frz o3 (.tup [])) = H4 at s4 h4 ⊢
    walk_at "rs"
    refine ⟨(by show 1 ≤ sizeLine; decide), fun q4 hq4 => ?_⟩
    have s5 := same_new (o := .tup [V.ref q3]) hq4
    have h5 : upd H4 q4 (.tup [V.ref q3]) q4 = some (.tup [V.ref q3]) := upd_same
    generalize upd H4 q4 (.tup [V.ref q3]) = H5 at s5 h5 ⊢
    walk_at "rs"
    have s25 := s2.trans (s3.trans (s4.trans s5))
    refine ⟨t, _, rfl, .inr (SqT.of (s25 _ _ ht1)), ?_⟩
    rw [List.length_map]
    refine ⟨q4, _, _, rfl, rfl, h5, (fun e => nomatch e), by omega, by omega, (by show 1 ≤ 1000; decide), fun qs H6 s6 h6 => ?_⟩
    rw [repl_flat] at h6
    walk_at "rs"
    intro p dx hp hdx ndx
    refine ⟨p, dx, _, _, _, rfl, upd_same, fun H7 h7 keep => ⟨rfl, ?_⟩⟩
    have s7 : Same H6 H7 := fun b o e => keep b o (fun q => by rw [q, hp] at e; cases e) (by rw [upd_ne (fun q => by rw [q, hp] at e; cases e), upd_ne (fun q => by rw [q, hdx] at e; cases e)]; exact e)
    have s37 := s4.trans (s5.trans (s6.trans s7))
    have s17 := s1.trans (s2.trans (s3.trans s37))
    refine k p H7 s17 ((s1.trans (s25.trans s6)).free hp) ⟨dx, t, qc, qs, List.replicate bal.length q3, h7, s7 _ _ (s6 _ _ (s25 _ _ ht1)), ?_, ?_, paired_rep ⟨o3, [], s7 _ _ (s6 _ _ (s5 _ _ h4)), ho3, .nil⟩ _⟩
    · have e := s37 _ _ h3
      rw [e, Int.toNat_natCast]
      show _ = some (HO.tup ((List.replicate bal.length ("" : Str)).map V.str))
      rw [List.map_replicate]
    · have e := s7 _ _ h6
      rw [e, Int.toNat_natCast, List.map_replicate]

def inA (n : Nat) (xs : List Int) : Bool := xs.all fun x => decide (0 ≤ x ∧ x < (n : Int))
def spExist (K : PySem.W.Frag) (C : Addr) : Sp := fun vs H Q _ => ∃ (p l : Addr) (A : Ac) (xs : List Int), vs = [.ref p, .ref l] ∧ LgAt C H p A ∧ SqL K H l (xs.map V.int) ∧ xs.length ≤ 100 ∧ ∀ H', Same H H' → Q (.bl (inA A.bal.length xs)) H'
theorem ok_exist (T : Txt K mg a) : ∃ fd, FnOk P w K mg base CX0 1 a.d_exist fd ["ledger", "accounts"] (spExist K a.C_Ledger) ∧ Binds K fd ["ledger", "accounts"] [] := by
  obtain ⟨fd, F, b⟩ := T.d_exist.F
  refine ⟨fd, F.ok sc_exist (fun vs H Q E h => ?_) (fun cdv A outer s H vs Q E hr h => ?_), b⟩
  · obtain ⟨_, _, _, _, rfl, _⟩ := h
    rfl
  · obtain ⟨p, l, A1, xs, rfl, hp, hl, few, k⟩ := h
    obtain ⟨dx, b1, c1, s1, ts, h1, h2, h3, h4, h5⟩ := hp
    refine ⟨_, (pss_one (ps_ret (pe_callB (cr_all rfl) (by rfl) T.n_all (by decide +kernel) (pa_cons (pe_lc (own := [("account", 2)]) (g := (gName 2)) (tt := tYes) rfl sc_exist.nd (pi_list (pv 1)) (blkOk_by (own := [("account", 2)]) (N := sc_exist_N) (sc := defScope s_exist) (by decide +kernel)) (fun _ _ _ _ _ => (pg_name (i := 2) sc_exist.nd rfl (Or.inl rfl))) (fun _ _ _ _ _ => pts_nil) (fun _ _ _ _ _ => (pe_chain op_le op_lt pe_int (pv 2) (pe_callB (id := "len") (r := rLenOf K) (cr_lenK rfl) (by rfl) T.n_len PySem.boot_len (pa_cons (pe_fldK (K := K) rfl (pv 0) rfl) pa_nil))))) pa_nil)))), ?_⟩
    walk_at "rs"
    refine ⟨⟨_, hl⟩, fun D hD => ?_⟩
    refine lc_list (K := K) (a := l) (xs := xs.map V.int) (fun i H2 => Same H H2 ∧ H2 D = some (.lst ((xs.take i).map fun x : Int => V.bl (decide (0 ≤ x ∧ x < (A1.bal.length : Int)))))) ⟨same_new hD, upd_same⟩ (fun i H2 _ ⟨s2, _⟩ => s2.seq hl) ?_ ?_
    · rintro i y H2 hy ⟨s2, hd⟩
      have hi : i < xs.length := by
        have e := (List.getElem?_eq_some_iff.mp hy).1
        rwa [List.length_map] at e
      have et : xs.take (i + 1) = xs.take i ++ [xs.getD i 0] := by
        rw [List.take_add_one, List.getElem?_eq_getElem hi, List.getD_eq_getElem?_getD, List.getElem?_eq_getElem hi]
        rfl
      rw [at_ints hi] at hy
      cases hy
      refine ⟨rfl, ?_⟩
      walk_at "rs"
      have put : ∀ {b : Bool}, b = decide (0 ≤ xs.getD i 0 ∧ xs.getD i 0 < (A1.bal.length : Int)) → ∃ acc, H2 D = some (.lst acc) ∧ acc.length < sizeLine ∧ Same H (upd H2 D (.lst (acc ++ [V.bl b]))) ∧ upd H2 D (.lst (acc ++ [V.bl b])) D = some (.lst ((xs.take (i + 1)).map fun x : Int => V.bl (decide (0 ≤ x ∧ x < (A1.bal.length : Int))))) :=
        fun {b} e => ⟨_, hd, by rw [List.length_map]; exact small1000 (by have := List.length_take_le' i xs; omega), same_upd s2 hD, by rw [upd_same, et, List.map_append, e]; rfl⟩
      refine ite2 (fun c => ?_) (fun c => ?_)
      · have c := of_decide_eq_true c
        walk_at "rs"
        refine ⟨p, _, dx, _, .ref b1, rfl, s2 _ _ h1, T.cl_Ledger, T.a_Ledger_balances, rfl, ?_⟩
        walk_at "rs"
        refine ⟨b1, _, rfl, .inr (SqT.of (s2 _ _ h2)), ?_⟩
        rw [List.length_map]
        walk_at "rs"
        exact put (decide_eq_decide.mpr ⟨fun h => ⟨c, h⟩, fun h => h.2⟩)
      · exact put (by rw [decide_eq_false (fun h => c (decide_eq_true h.1))])
    · rintro H2 ⟨s2, hd⟩
      rw [List.length_map, List.take_length] at hd
      walk_at "rs"
      refine ⟨D, xs.map fun x : Int => decide (0 ≤ x ∧ x < (A1.bal.length : Int)), rfl, SqL.of (by rw [hd, List.map_map]; rfl), ?_⟩
      rw [List.all_map]
      exact k H2 s2
theorem ixN_at {n j : Nat} (h : j < n) : ixN n (j : Int) = some j := by
  unfold ixN
  rw [if_pos (Int.natCast_nonneg j), if_pos (by omega), Int.toNat_natCast]
def spMoved (K : PySem.W.Frag) : Sp := fun vs H Q _ => ∃ (t : Addr) (bal : List Int) (i j : Nat) (x : Int), vs = [.ref t, .int i, .int j, .int x] ∧ H t = some (.tup (bal.map V.int)) ∧ bal.length ≤ 100 ∧ i < bal.length ∧ j < bal.length ∧ ∀ q H', Same H H' → H' q = some (.tup ((moveA bal i j x).map V.int)) → Q (.ref q) H'
theorem ok_moved (T : Txt K mg a) : ∃ fd, FnOk P w K mg base CX0 1 a.d_moved fd ["balances", "payer", "payee", "amount"] (spMoved K) ∧ Binds K fd ["balances", "payer", "payee", "amount"] [] := by
  obtain ⟨fd, F, b⟩ := T.d_moved.F
  refine ⟨fd, F.ok sc_moved (fun vs H Q E h => ?_) (fun cdv A outer s H vs Q E hr h => ?_), b⟩
  · obtain ⟨_, _, _, _, _, rfl, _⟩ := h
    rfl
  · obtain ⟨t, bal, i, j, x, rfl, ht, few, hi, hj, k⟩ := h
    refine ⟨_, (pss_cons (ps_set (i := 4) sc_moved.nd rfl (Or.inl rfl) (pe_callTy call_list_of (by rfl) T.n_list (by decide +kernel) (pa_cons (pv 0) pa_nil)))
      (pss_cons (ps_augS (pv 4) (pv 1) get_listN (pv 3) ip_sub set_list)
      (pss_cons (ps_augS (pv 4) (pv 2) get_listN (pv 3) ip_add set_list)
      (pss_one (ps_ret (pe_callTy call_tuple_of (by rfl) T.n_tuple (by decide +kernel) (pa_cons (pv 4) pa_nil))))))), ?_⟩
    walk_at "rs"
    refine ⟨t, _, rfl, .inr (SqT.of ht), fun l hl => ?_⟩
    have s1 := same_new (o := .lst (bal.map V.int)) hl
    have h1 : (upd H l (.lst (bal.map V.int))) l = some (.lst (bal.map V.int)) := upd_same
    have only : ∀ b o, b ≠ l → H b = some o → (upd H l (.lst (bal.map V.int))) b = some o := fun b o n e => by rw [upd_ne n]; exact e
    generalize upd H l (.lst (bal.map V.int)) = H1 at s1 h1 only ⊢
    walk_at "rs"
    refine ⟨l, _, i, .int (bal.getD i 0), rfl, rfl, SqL.of h1, at_ints hi, ?_⟩
    walk_at "rs"
    refine ⟨l, _, _, i, rfl, rfl, h1, ixN_at (by rw [List.length_map]; exact hi), ?_⟩
    have h2 : (upd H1 l (.lst ((bal.map V.int).set i (.int (bal.getD i 0 - x))))) l = some (.lst ((bal.set i (bal.getD i 0 - x)).map V.int)) := by rw [upd_same, List.map_set]
    have only2 : ∀ b o, b ≠ l → H b = some o → (upd H1 l (.lst ((bal.map V.int).set i (.int (bal.getD i 0 - x))))) b = some o := fun b o n e => by rw [upd_ne n]; exact only b o n e
    generalize upd H1 l (.lst ((bal.map V.int).set i (.int (bal.getD i 0 - x)))) = H2 at h2 only2 ⊢
    walk_at "rs"
    refine ⟨l, _, j, .int ((bal.set i (bal.getD i 0 - x)).getD j 0), rfl, rfl, SqL.of h2, at_ints (by rw [List.length_set]; exact hj), ?_⟩
    walk_at "rs"
    refine ⟨l, _, _, j, rfl, rfl, h2, ixN_at (by rw [List.length_map, List.length_set]; exact hj), ?_⟩
    have h3 : (upd H2 l (.lst (((bal.set i (bal.getD i 0 - x)).map V.int).set j (.int ((bal.set i (bal.getD i 0 - x)).getD j 0 + x))))) l = some (.lst ((moveA bal i j x).map V.int)) := by
      rw [upd_same]
      unfold moveA
      rw [List.map_set (l := bal.set i (bal.getD i 0 - x))]
    have s3 : Same H (upd H2 l (.lst (((bal.set i (bal.getD i 0 - x)).map V.int).set j (.int ((bal.set i (bal.getD i 0 - x)).getD j 0 + x))))) := fun b o e => by
      have n := ne_of_none e hl
      rw [upd_ne n]
      exact only2 b o n e
    generalize upd H2 l (.lst (((bal.set i (bal.getD i 0 - x)).map V.int).set j (.int ((bal.set i (bal.getD i 0 - x)).getD j 0 + x)))) = H3 at s3 h3 ⊢
    walk_at "rs"
    refine ⟨l, _, rfl, .inl ⟨SqL.of h3, fun q hq => ?_⟩⟩
    exact k q _ (s3.trans (same_new hq)) upd_same
def spRepl (K : PySem.W.Frag) : Sp := fun vs H Q _ => ∃ (t : Addr) (xs : List V) (j : Nat) (v : V), vs = [.ref t, .int j, v] ∧ H t = some (.tup xs) ∧ xs.length ≤ 1000 ∧ j < xs.length ∧ ∀ q H', Same H H' → H' q = some (.tup (xs.set j v)) → Q (.ref q) H'
theorem ok_replaced (T : Txt K mg a) : ∃ fd, FnOk P w K mg base CX0 1 a.d_replaced fd ["parts", "at", "part"] (spRepl K) ∧ Binds K fd ["parts", "at", "part"] [] := by
  obtain ⟨fd, F, b⟩ := T.d_replaced.F
  refine ⟨fd, F.ok sc_replaced (fun vs H Q E h => ?_) (fun cdv A outer s H vs Q E hr h => ?_), b⟩
  · obtain ⟨_, _, _, _, rfl, _⟩ := h
    rfl
  · obtain ⟨t, xs, j, v, rfl, ht, few, hj, k⟩ := h
    have nw1 : ¬ (HT.sIx xs.length 0 none = 0 ∧ HT.sIx xs.length xs.length (some (j : Int)) = xs.length) := by
      rw [HT.sIx_nat]
      omega
    have nw2 : ¬ (HT.sIx xs.length 0 (some ((j : Int) + 1)) = 0 ∧ HT.sIx xs.length xs.length none = xs.length) := by
      rw [show (j : Int) + 1 = ((j + 1 : Nat) : Int) from rfl, HT.sIx_nat]
      omega
    have hput : cutV xs none (some (j : Int)) ++ [v] ++ cutV xs (some ((j : Int) + 1)) none = xs.set j v := by
      unfold cutV
      rw [show (j : Int) + 1 = ((j + 1 : Nat) : Int) from rfl, HT.sIx_nat, HT.sIx_nat, HT.sIx_none, HT.sIx_none, Nat.min_eq_left (Nat.le_of_lt hj), Nat.min_eq_left hj, Nat.sub_zero, List.drop_zero, List.take_of_length_le (l := xs.drop (j + 1)) (by rw [List.length_drop]; exact Nat.le_refl _), List.set_eq_take_append_cons_drop, if_pos hj, List.append_assoc]
      rfl
    have lA := cutV_length xs none (some (j : Int))
    have lC := cutV_length xs (some ((j : Int) + 1)) none
    refine ⟨_, (pss_one (ps_ret (pe_op op_catB (pe_op op_catB (pe_slice sl_tup (pv 0) po_none (po_some (pv 1))) (pe_tup (pa_cons (pv 2) pa_nil))) (pe_slice sl_tup (pv 0) (po_some (pe_op op_add (pv 1) pe_int)) po_none)))), ?_⟩
    walk_at "rs"
    refine ⟨t, _, rfl, SqT.of ht, nw1, fun q1 hq1 => ?_⟩
    generalize cutV xs none (some (j : Int)) = A1 at hput lA
    have s1 := same_new (o := .tup A1) hq1
    have h1 : (upd H q1 (.tup A1)) q1 = some (.tup A1) := upd_same
    generalize upd H q1 (.tup A1) = H1 at s1 h1 ⊢
    walk_at "rs"
    refine ⟨(by show 1 ≤ sizeLine; decide), fun q2 hq2 => ?_⟩
    have s2 := same_new (o := .tup [v]) hq2
    have h2 : (upd H1 q2 (.tup [v])) q2 = some (.tup [v]) := upd_same
    have h12 := s2 _ _ h1
    generalize upd H1 q2 (.tup [v]) = H2 at s2 h2 h12 ⊢
    refine ⟨q1, q2, A1, [v], rfl, rfl, h12, h2, by rw [sizeLine_eq]; show A1.length + 1 ≤ _; omega, fun q3 H3 s3 h3 => ?_⟩
    walk_at "rs"
    have s13 := s1.trans (s2.trans s3)
    refine ⟨t, _, rfl, SqT.of (s13 _ _ ht), nw2, fun q4 hq4 => ?_⟩
    generalize cutV xs (some ((j : Int) + 1)) none = C1 at hput lC
    have s4 := same_new (o := .tup C1) hq4
    have h4 : (upd H3 q4 (.tup C1)) q4 = some (.tup C1) := upd_same
    have h34 := s4 _ _ h3
    generalize upd H3 q4 (.tup C1) = H4 at s4 h4 h34 ⊢
    refine ⟨q3, q4, A1 ++ [v], C1, rfl, rfl, h34, h4, by rw [List.length_append, sizeLine_eq]; show A1.length + 1 + C1.length ≤ _; omega, fun q5 H5 s5 h5 => ?_⟩
    rw [hput] at h5
    exact k q5 H5 (s13.trans (s4.trans s5)) h5

def spPay (C : Addr) : Sp := fun vs H Q _ => ∃ (p : Addr) (A : Ac) (x y z : Int), vs = [.ref p, .int x, .int y, .int z] ∧ LgAt C H p A ∧ A.bal.length ≤ 100 ∧ NOk x ∧ NOk y ∧ NOk z ∧
  (afterA A (.p x y z) = none → ∀ H', Same H H' → Q .non H') ∧ ∀ r H' B, afterA A (.p x y z) = some B → Same H H' → LgAt C H' r B → Q (.ref r) H'
theorem at_tup {xs : List Int} {j : Nat} (h : j < xs.length) : atI (xs.map V.int) (j : Int) = some (.int (xs.getD j 0)) := atI_nat (at_ints h)
theorem ok_payment (T : Txt K mg a) : ∃ fd, FnOk P w K mg base CX0 3 a.d_payment fd ["ledger", "payer", "payee", "amount"] (spPay a.C_Ledger) ∧ Binds K fd ["ledger", "payer", "payee", "amount"] [] := by
  obtain ⟨fd, F, b⟩ := T.d_payment.F
  obtain ⟨fd_Ledger_init, G_Ledger_init, b_Ledger_init⟩ := ok_Ledger_init (P := P) (w := w) (base := base) T
  obtain ⟨fd_moved, G_moved, b_moved⟩ := ok_moved (P := P) (w := w) (base := base) T
  obtain ⟨fd_exist, G_exist, b_exist⟩ := ok_exist (P := P) (w := w) (base := base) T
  refine ⟨fd, F.ok sc_payment (fun vs H Q E h => ?_) (fun cdv A outer s H vs Q E hr h => ?_), b⟩
  · obtain ⟨_, _, _, _, _, rfl, _⟩ := h
    rfl
  · obtain ⟨p, A1, x, y, z, rfl, hp, few, ox, oy, oz, k1, k2⟩ := h
    obtain ⟨i, rfl⟩ : ∃ i : Nat, x = (i : Int) := ⟨x.toNat, by have := ox.1; omega⟩
    obtain ⟨j, rfl⟩ : ∃ j : Nat, y = (j : Int) := ⟨y.toNat, by have := oy.1; omega⟩
    obtain ⟨dx, b1, cd, s1, ts, h1, h2, h3, h4, h5⟩ := id hp
    refine ⟨_, (pss_cons (ps_if (PW.pt (pw_or (pt_not (pt_val (pe_call G_exist (hr.mono (by decide)) rfl T.d_exist.g T.d_exist.kp b_exist .nil pass0 (pa_cons (pv 0) (pa_cons (pe_lst (pa_cons (pv 1) (pa_cons (pv 2) pa_nil))) pa_nil))))) (pw_or (pt_cmpR op_lt (pv 3) pe_int (nomark _)) (pw_or1 (pt_cmpR op_gt (pv 3) (pe_ix ix_tup (pe_fld (pv 0) rfl) (pv 1) (fun _ _ => rfl)) (nomark _))))))
      (pss_one (ps_ret pe_non))
      pss_nil)
      (pss_one (ps_ret (pe_make T.m_Ledger G_Ledger_init (hr.mono (by decide)) (by rfl) T.g_Ledger b_Ledger_init .nil pass0 (pa_cons (pe_call G_moved (hr.mono (by decide)) rfl T.d_moved.g T.d_moved.kp b_moved .nil pass0 (pa_cons (pe_fld (pv 0) rfl) (pa_cons (pv 1) (pa_cons (pv 2) (pa_cons (pv 3) pa_nil))))) (pa_cons (pe_fld (pv 0) rfl) (pa_cons (pe_fld (pv 0) rfl) pa_nil))))))), ?_⟩
    walk_at "rs"
    refine ⟨(by show 2 ≤ sizeLine; decide), fun l hl => ?_⟩
    have s1' := same_new (o := .lst [V.int (i : Int), V.int (j : Int)]) hl
    refine ⟨p, l, A1, [(i : Int), (j : Int)], rfl, hp.same s1', SqL.of upd_same, (by show 2 ≤ 100; decide), fun H2 s2' => ?_⟩
    have s2 := s1'.trans s2'
    clear s1' s2'
    have ex : inA A1.bal.length [(i : Int), (j : Int)] = decide ((i : Int) < A1.bal.length ∧ (j : Int) < A1.bal.length) := by
      show (decide (0 ≤ (i : Int) ∧ (i : Int) < A1.bal.length) && (decide (0 ≤ (j : Int) ∧ (j : Int) < A1.bal.length) && true)) = _
      rw [Bool.and_true, ← Bool.decide_and]
      exact decide_eq_decide.mpr ⟨fun h => ⟨h.1.2, h.2.2⟩, fun h => ⟨⟨Int.natCast_nonneg _, h.1⟩, ⟨Int.natCast_nonneg _, h.2⟩⟩⟩
    rw [ex]
    rw [afterA] at k1 k2
    walk_at "rs"
    refine ite2 (fun c1 => ?_) (fun c1 => ?_)
    · have c1 : ¬ ((i : Int) < A1.bal.length ∧ (j : Int) < A1.bal.length) := fun h => by rw [decide_eq_true h] at c1; exact Bool.false_ne_true c1
      walk_at "rs"
      exact k1 (if_neg fun h => c1 h.1) H2 s2
    have c1 : (i : Int) < A1.bal.length ∧ (j : Int) < A1.bal.length := by
      by_cases h : (i : Int) < A1.bal.length ∧ (j : Int) < A1.bal.length
      · exact h
      · exact absurd (by rw [decide_eq_false h]; rfl) c1
    walk_at "rs"
    refine ite2 (fun c2 => absurd (of_decide_eq_true c2) (by have := oz.1; omega)) (fun _ => ?_)
    walk_at "rs"
    refine ⟨p, _, dx, _, .ref b1, rfl, s2 _ _ h1, T.cl_Ledger, T.a_Ledger_balances, rfl, ?_⟩
    walk_at "rs"
    refine ⟨b1, _, _, _, rfl, rfl, SqT.of (s2 _ _ h2), at_tup (by omega), ?_⟩
    walk_at "rs"
    refine ite2 (fun c3 => ?_) (fun c3 => ?_)
    · have c3 := of_decide_eq_true c3
      walk_at "rs"
      exact k1 (if_neg fun h => by have := h.2; rw [Int.toNat_natCast] at this; omega) H2 s2
    have c3 : z ≤ A1.bal.getD i 0 := by
      have : ¬ z > A1.bal.getD i 0 := fun h => c3 (decide_eq_true h)
      omega
    walk_at "rs"
    refine ⟨p, _, dx, _, .ref b1, rfl, s2 _ _ h1, T.cl_Ledger, T.a_Ledger_balances, rfl, ?_⟩
    walk_at "rs"
    refine ⟨b1, A1.bal, i, j, z, rfl, s2 _ _ h2, few, by omega, by omega, fun q H3 s3' hq => ?_⟩
    have s3 := s2.trans s3'
    walk_at "rs"
    refine ⟨p, _, dx, _, .ref cd, rfl, s3 _ _ h1, T.cl_Ledger, T.a_Ledger_codes, rfl, ?_⟩
    walk_at "rs"
    refine ⟨p, _, dx, _, .ref s1, rfl, s3 _ _ h1, T.cl_Ledger, T.a_Ledger_stores, rfl, ?_⟩
    walk_at "rs"
    intro r dr hr1 hdr ndr
    refine ⟨r, dr, _, _, _, rfl, upd_same, fun H4 h4' keep => ⟨rfl, ?_⟩⟩
    have s4' := made hr1 hdr keep
    have s4 := s3.trans s4'
    refine k2 r H4 ⟨moveA A1.bal i j z, A1.cds, A1.sts⟩ ?_ s4 ⟨dr, q, cd, s1, ts, h4', s4' _ _ hq, s4 _ _ h3, s4 _ _ h4, imp_paired h5 fun _ _ z => z.same s4⟩
    rw [if_pos ⟨c1, by rw [Int.toNat_natCast]; exact c3⟩, Int.toNat_natCast, Int.toNat_natCast]

theorem paired_set {α β : Type} {F : α → β → Prop} {x : α} {y : β} (h : F x y) : ∀ {xs : List α} {ys : List β} (i : Nat), Paired F xs ys → Paired F (xs.set i x) (ys.set i y)
  | _, _, _, .nil => .nil
  | _, _, 0, .cons _ t => .cons h t
  | _, _, i + 1, .cons g t => .cons g (paired_set h i t)
theorem paired_at {α β : Type} {F : α → β → Prop} {d : α} {e : β} : ∀ {xs : List α} {ys : List β} {i : Nat}, Paired F xs ys → i < ys.length → F (xs.getD i d) (ys.getD i e)
  | _, _, _, .nil, h => absurd h (Nat.not_lt_zero _)
  | _, _, 0, .cons g _, _ => g
  | _, _, i + 1, .cons _ t, h => paired_at (i := i) t (Nat.lt_of_succ_lt_succ h)
theorem paired_len {α β : Type} {F : α → β → Prop} {xs : List α} {ys : List β} (h : Paired F xs ys) : xs.length = ys.length := Paired.length h
theorem set_map {α β : Type} (f : α → β) (xs : List α) (i : Nat) (x : α) : (xs.map f).set i (f x) = (xs.set i x).map f := by rw [List.map_set]
theorem merge_kv : ∀ {kv done : List (Nat × Nat)}, ((done ++ kv).map (·.1)).Nodup → mergeK (kvV done) (kvV kv) = kvV (done ++ kv)
  | [], done, _ => by
    rw [List.append_nil]
    rfl
  | (k, v) :: kv, done, nd => by
    have hk : ∀ x ∈ done, x.1 ≠ k := fun x hx e => by
      rw [List.map_append, List.nodup_append] at nd
      exact nd.2.2 x.1 (List.mem_map.mpr ⟨x, hx, rfl⟩) k (List.mem_map.mpr ⟨(k, v), List.mem_cons_self, rfl⟩) e
    show mergeK (putK (kvV done) (Sum.inl (k : Int)) (V.int (v : Int))) (kvV kv) = _
    rw [put_kv, put_new hk]
    have e : done ++ (k, v) :: kv = done ++ [(k, v)] ++ kv := by simp
    rw [e] at nd ⊢
    exact merge_kv nd
theorem pairs_sq {K : PySem.W.Frag} {H : Hp} : ∀ {ps : List Addr} {kv : List (Nat × Nat)}, Paired (PrAt H) ps kv → Paired (fun p q => SqT K H p [kV q.1, q.2]) ps (kvV kv)
  | _, _, .nil => .nil
  | _, _, .cons h t => .cons (SqT.of h) (pairs_sq t)
theorem pairs_pr {H : Hp} : ∀ {ps : List Addr} {kv : List (Nat × Nat)}, Paired (fun t q => H t = some (.tup [kV q.1, q.2])) ps (kvV kv) → Paired (PrAt H) ps kv
  | ps, [], h => by
    cases h
    exact .nil
  | ps, x :: kv, h => by
    cases h with
    | cons g t => exact .cons g (pairs_pr t)
theorem at_strs {zs : List Str} {j : Nat} (h : j < zs.length) : atI (zs.map V.str) (j : Int) = some (.str (zs.getD j "")) := atI_nat (by
  rw [List.getElem?_map, List.getElem?_eq_getElem h, List.getD_eq_getElem?_getD, List.getElem?_eq_getElem h]
  rfl)
theorem at_refs {ps : List Addr} {j : Nat} (h : j < ps.length) : atI (ps.map V.ref) (j : Int) = some (.ref (ps.getD j 0)) := atI_nat (by
  rw [List.getElem?_map, List.getElem?_eq_getElem h, List.getD_eq_getElem?_getD, List.getElem?_eq_getElem h]
  rfl)
def spNew (C : Addr) : Sp := fun vs H Q _ => ∃ (p : Addr) (A : Ac) (n k : Nat) (x : Int) (z : Str), vs = [.ref p, .int x, .str z] ∧ LgAt C H p A ∧ GoodA n k A ∧ NOk x ∧
  (afterA A (.d x z) = none → ∀ H', Same H H' → Q .non H') ∧ ∀ r H' B, afterA A (.d x z) = some B → Same H H' → LgAt C H' r B → Q (.ref r) H'
theorem ok_new_program (T : Txt K mg a) : ∃ fd, FnOk P w K mg base CX0 3 a.d_new_program fd ["ledger", "account", "code"] (spNew a.C_Ledger) ∧ Binds K fd ["ledger", "account", "code"] [] := by
  obtain ⟨fd, F, b⟩ := T.d_new_program.F
  obtain ⟨fd_replaced, G_replaced, b_replaced⟩ := ok_replaced (P := P) (w := w) (base := base) T
  obtain ⟨fd_Ledger_init, G_Ledger_init, b_Ledger_init⟩ := ok_Ledger_init (P := P) (w := w) (base := base) T
  obtain ⟨fd_exist, G_exist, b_exist⟩ := ok_exist (P := P) (w := w) (base := base) T
  refine ⟨fd, F.ok sc_new_program (fun vs H Q E h => ?_) (fun cdv A outer s H vs Q E hr h => ?_), b⟩
  · obtain ⟨_, _, _, _, _, _, rfl, _⟩ := h
    rfl
  · obtain ⟨p, A1, n, m, x, z, rfl, hp, ga, ox, k1, k2⟩ := h
    obtain ⟨i, rfl⟩ : ∃ i : Nat, x = (i : Int) := ⟨x.toNat, by have := ox.1; omega⟩
    obtain ⟨dx, b1, cd, s1, ts, h1, h2, h3, h4, h5⟩ := id hp
    have lts := paired_len h5
    have e1 := ga.lb
    have e2 := ga.lc
    have e3 := ga.ls
    have few := ga.few
    refine ⟨_, (pss_cons (ps_if (pt_not (pt_val (pe_call G_exist (hr.mono (by decide)) rfl T.d_exist.g T.d_exist.kp b_exist .nil pass0 (pa_cons (pv 0) (pa_cons (pe_lst (pa_cons (pv 1) pa_nil)) pa_nil)))))
      (pss_one (ps_ret pe_non))
      pss_nil)
      (pss_cons (ps_set (i := 3) sc_new_program.nd rfl (Or.inl rfl) (pe_call G_replaced (hr.mono (by decide)) rfl T.d_replaced.g T.d_replaced.kp b_replaced .nil pass0 (pa_cons (pe_fld (pv 0) rfl) (pa_cons (pv 1) (pa_cons (pv 2) pa_nil)))))
      (pss_one (ps_ret (pe_make T.m_Ledger G_Ledger_init (hr.mono (by decide)) (by rfl) T.g_Ledger b_Ledger_init .nil pass0 (pa_cons (pe_fld (pv 0) rfl) (pa_cons (pv 3) (pa_cons (pe_call G_replaced (hr.mono (by decide)) rfl T.d_replaced.g T.d_replaced.kp b_replaced .nil pass0 (pa_cons (pe_fld (pv 0) rfl) (pa_cons (pv 1) (pa_cons pe_tup0F pa_nil)))) pa_nil)))))))), ?_⟩
    walk_at "rs"
    refine ⟨(by show 1 ≤ sizeLine; decide), fun l hl => ?_⟩
    have s1' := same_new (o := .lst [V.int (i : Int)]) hl
    refine ⟨p, l, A1, [(i : Int)], rfl, hp.same s1', SqL.of upd_same, (by show 1 ≤ 100; decide), fun H2 s2' => ?_⟩
    have s2 := s1'.trans s2'
    clear s1' s2'
    have ex : inA A1.bal.length [(i : Int)] = decide ((i : Int) < A1.bal.length) := by
      show (decide (0 ≤ (i : Int) ∧ (i : Int) < A1.bal.length) && true) = _
      rw [Bool.and_true]
      exact decide_eq_decide.mpr ⟨fun h => h.2, fun h => ⟨Int.natCast_nonneg _, h⟩⟩
    rw [ex]
    rw [afterA] at k1 k2
    walk_at "rs"
    refine ite2 (fun c1 => ?_) (fun c1 => ?_)
    · have c1 : ¬ ((i : Int) < A1.bal.length) := fun h => by rw [decide_eq_true h] at c1; exact Bool.false_ne_true c1
      walk_at "rs"
      exact k1 (if_neg c1) H2 s2
    have c1 : (i : Int) < A1.bal.length := by
      by_cases h : (i : Int) < A1.bal.length
      · exact h
      · exact absurd (by rw [decide_eq_false h]; rfl) c1
    walk_at "rs"
    refine ⟨p, _, dx, _, .ref cd, rfl, s2 _ _ h1, T.cl_Ledger, T.a_Ledger_codes, rfl, ?_⟩
    walk_at "rs"
    refine ⟨cd, A1.cds.map V.str, i, .str z, rfl, s2 _ _ h3, by rw [List.length_map]; omega, by rw [List.length_map]; omega, fun q H3 s3' hq => ?_⟩
    rw [set_map] at hq
    have s3 := s2.trans s3'
    walk_at "rs"
    refine ⟨p, _, dx, _, .ref b1, rfl, s3 _ _ h1, T.cl_Ledger, T.a_Ledger_balances, rfl, ?_⟩
    walk_at "rs"
    refine ⟨p, _, dx, _, .ref s1, rfl, s3 _ _ h1, T.cl_Ledger, T.a_Ledger_stores, rfl, ?_⟩
    walk_at "rs"
    intro t0 o0 ht0 ho0
    have s4' := same_new (o := .frz o0 (.tup [])) ht0
    have ht04 : upd H3 t0 (.frz o0 (.tup [])) t0 = some (.frz o0 (.tup [])) := upd_same
    generalize upd H3 t0 (.frz o0 (.tup [])) = H4 at s4' ht04 ⊢
    have s4 := s3.trans s4'
    walk_at "rs"
    refine ⟨s1, ts.map V.ref, i, .ref t0, rfl, s4 _ _ h4, by rw [List.length_map]; omega, by rw [List.length_map]; omega, fun qs H5 s5' hqs => ?_⟩
    rw [set_map] at hqs
    have s5 := s4.trans s5'
    walk_at "rs"
    intro r dr hr1 hdr ndr
    refine ⟨r, dr, _, _, _, rfl, upd_same, fun H6 h6' keep => ⟨rfl, ?_⟩⟩
    have s6' := made hr1 hdr keep
    have s6 := s5.trans s6'
    refine k2 r H6 ⟨A1.bal, A1.cds.set i z, A1.sts.set i []⟩ ?_ s6 ⟨dr, b1, q, qs, ts.set i t0, h6', s6 _ _ h2, s6' _ _ (s5' _ _ (s4' _ _ hq)), s6' _ _ hqs, paired_set ⟨o0, [], s6' _ _ (s5' _ _ ht04), ho0, .nil⟩ i (imp_paired h5 fun _ _ z => z.same s6)⟩
    rw [if_pos c1, Int.toNat_natCast]
def spCallL (C : Addr) : Sp := fun vs H Q _ => ∃ (p : Addr) (A : Ac) (n k : Nat) (x y z : Int), vs = [.ref p, .int x, .int y, .int z] ∧ LgAt C H p A ∧ GoodA n k A ∧ k ≤ 7000 ∧ NOk x ∧ NOk y ∧ NOk z ∧
  (afterA A (.k x y z) = none → ∀ H', Same H H' → Q .non H') ∧ ∀ r H' B, afterA A (.k x y z) = some B → Same H H' → LgAt C H' r B → Q (.ref r) H'
theorem ok_call (TE : TxtE w K mg a) (T : Txt K mg a) : ∃ fd, FnOk P w K mg base CX0 6 a.d_call fd ["ledger", "caller", "callee", "given"] (spCallL a.C_Ledger) ∧ Binds K fd ["ledger", "caller", "callee", "given"] [] := by
  obtain ⟨fd, F, b⟩ := T.d_call.F
  obtain ⟨fd_run, G_run, b_run⟩ := ok_run (P := P) (w := w) (base := base) TE T
  obtain ⟨fd_replaced, G_replaced, b_replaced⟩ := ok_replaced (P := P) (w := w) (base := base) T
  obtain ⟨fd_Ledger_init, G_Ledger_init, b_Ledger_init⟩ := ok_Ledger_init (P := P) (w := w) (base := base) T
  obtain ⟨fd_moved, G_moved, b_moved⟩ := ok_moved (P := P) (w := w) (base := base) T
  obtain ⟨fd_exist, G_exist, b_exist⟩ := ok_exist (P := P) (w := w) (base := base) T
  refine ⟨fd, F.ok sc_call (fun vs H Q E h => ?_) (fun cdv A outer s H vs Q E hr h => ?_), b⟩
  · obtain ⟨_, _, _, _, _, _, _, rfl, _⟩ := h
    rfl
  · obtain ⟨p, A1, n, m, x, y, z, rfl, hp, ga, hm, ox, oy, oz, k1, k2⟩ := h
    obtain ⟨i, rfl⟩ : ∃ i : Nat, x = (i : Int) := ⟨x.toNat, by have := ox.1; omega⟩
    obtain ⟨j, rfl⟩ : ∃ j : Nat, y = (j : Int) := ⟨y.toNat, by have := oy.1; omega⟩
    obtain ⟨gn, rfl⟩ : ∃ g : Nat, z = (g : Int) := ⟨z.toNat, by have := oz.1; omega⟩
    obtain ⟨dx, b1, cd, s1, ts, h1, h2, h3, h4, h5⟩ := id hp
    have lts := paired_len h5
    have e1 := ga.lb
    have e2 := ga.lc
    have e3 := ga.ls
    have few := ga.few
    refine ⟨_, (pss_cons (ps_if (PW.pt (pw_or (pt_not (pt_val (pe_call G_exist (hr.mono (by decide)) rfl T.d_exist.g T.d_exist.kp b_exist .nil pass0 (pa_cons (pv 0) (pa_cons (pe_lst (pa_cons (pv 1) (pa_cons (pv 2) pa_nil))) pa_nil))))) (pw_or1 (pt_cmpR op_eq (pe_ix ix_tup (pe_fld (pv 0) rfl) (pv 2) (fun _ _ => rfl)) pe_str (nomark _)))))
      (pss_one (ps_ret pe_non))
      pss_nil)
      (pss_cons (ps_set (i := 4) sc_call.nd rfl (Or.inl rfl) (pe_ix ix_tup (pe_fld (pv 0) rfl) (pv 2) (fun _ _ => rfl)))
      (pss_cons (ps_set (i := 5) sc_call.nd rfl (Or.inl rfl) (pe_call G_run (hr.mono (by decide)) rfl T.d_run.g T.d_run.kp b_run .nil pass0 (pa_cons (pe_ix ix_tup (pe_fld (pv 0) rfl) (pv 2) (fun _ _ => rfl)) (pa_cons (pv 3) (pa_cons (pv 4) (pa_cons (pe_callTy (call_dictPT rfl) (by rfl) T.n_dict (by decide +kernel) (pa_cons (pe_ix ix_tup (pe_fld (pv 0) rfl) (pv 2) (fun _ _ => rfl)) pa_nil)) pa_nil))))))
      (pss_cons (ps_if (PW.pt (pw_or (pt_not (pt_val (pe_fld (pv 5) rfl))) (pw_or1 (pt_cmpR op_gt (pe_fld (pv 5) rfl) (pv 4) (nomark _)))))
      (pss_one (ps_ret pe_non))
      pss_nil)
      (pss_cons (ps_set (i := 6) sc_call.nd rfl (Or.inl rfl) (pe_call G_replaced (hr.mono (by decide)) rfl T.d_replaced.g T.d_replaced.kp b_replaced .nil pass0 (pa_cons (pe_fld (pv 0) rfl) (pa_cons (pv 2) (pa_cons (pe_tupItems rfl (pe_fld (pv 5) rfl) (by rfl) T.n_tuple (by decide +kernel)) pa_nil)))))
      (pss_one (ps_ret (pe_make T.m_Ledger G_Ledger_init (hr.mono (by decide)) (by rfl) T.g_Ledger b_Ledger_init .nil pass0 (pa_cons (pe_call G_moved (hr.mono (by decide)) rfl T.d_moved.g T.d_moved.kp b_moved .nil pass0 (pa_cons (pe_fld (pv 0) rfl) (pa_cons (pv 2) (pa_cons (pv 1) (pa_cons (pe_fld (pv 5) rfl) pa_nil))))) (pa_cons (pe_fld (pv 0) rfl) (pa_cons (pv 6) pa_nil))))))))))), ?_⟩
    walk_at "rs"
    refine ⟨(by show 2 ≤ sizeLine; decide), fun l hl => ?_⟩
    have s1' := same_new (o := .lst [V.int (i : Int), V.int (j : Int)]) hl
    refine ⟨p, l, A1, [(i : Int), (j : Int)], rfl, hp.same s1', SqL.of upd_same, (by show 2 ≤ 100; decide), fun H2 s2' => ?_⟩
    have s2 := s1'.trans s2'
    clear s1' s2'
    have ex : inA A1.bal.length [(i : Int), (j : Int)] = decide ((i : Int) < A1.bal.length ∧ (j : Int) < A1.bal.length) := by
      show (decide (0 ≤ (i : Int) ∧ (i : Int) < A1.bal.length) && (decide (0 ≤ (j : Int) ∧ (j : Int) < A1.bal.length) && true)) = _
      rw [Bool.and_true, ← Bool.decide_and]
      exact decide_eq_decide.mpr ⟨fun h => ⟨h.1.2, h.2.2⟩, fun h => ⟨⟨Int.natCast_nonneg _, h.1⟩, ⟨Int.natCast_nonneg _, h.2⟩⟩⟩
    rw [ex]
    rw [afterA] at k1 k2
    walk_at "rs"
    refine ite2 (fun c1 => ?_) (fun c1 => ?_)
    · have c1 : ¬ ((i : Int) < A1.bal.length ∧ (j : Int) < A1.bal.length) := fun h => by rw [decide_eq_true h] at c1; exact Bool.false_ne_true c1
      walk_at "rs"
      exact k1 (if_neg fun h => c1 h.1) H2 s2
    have c1 : (i : Int) < A1.bal.length ∧ (j : Int) < A1.bal.length := by
      by_cases h : (i : Int) < A1.bal.length ∧ (j : Int) < A1.bal.length
      · exact h
      · exact absurd (by rw [decide_eq_false h]; rfl) c1
    walk_at "rs"
    refine ⟨p, _, dx, _, .ref cd, rfl, s2 _ _ h1, T.cl_Ledger, T.a_Ledger_codes, rfl, ?_⟩
    walk_at "rs"
    refine ⟨cd, _, _, _, rfl, rfl, SqT.of (s2 _ _ h3), at_strs (by omega), ?_⟩
    walk_at "rs"
    refine ite2 (fun c2 => ?_) (fun c2 => ?_)
    · have c2 : A1.cds.getD j "" = "" := V.str.inj (of_decide_eq_true c2)
      walk_at "rs"
      exact k1 (if_neg fun h => h.2 (by rw [Int.toNat_natCast]; exact c2)) H2 s2
    have c2 : A1.cds.getD j "" ≠ "" := fun h => c2 (decide_eq_true (congrArg V.str h))
    rw [if_pos ⟨c1, by rw [Int.toNat_natCast]; exact c2⟩, Int.toNat_natCast] at k1
    rw [if_pos ⟨c1, by rw [Int.toNat_natCast]; exact c2⟩, Int.toNat_natCast, Int.toNat_natCast] at k2
    have hj : j < A1.bal.length := by omega
    have gs := ga.st _ (getD_memS (xs := A1.sts) (d := []) (i := j) (by omega))
    have bn : 0 ≤ A1.bal.getD j 0 := ga.nn _ (getD_mem hj)
    have lc : (A1.cds.getD j "").length ≤ 1000 := (ga.co _ (getD_memS (xs := A1.cds) (d := "") (i := j) (by omega))).1
    obtain ⟨o, ps, g1, g2, g3⟩ := paired_at (d := 0) (e := []) (i := j) h5 (by omega)
    have vsE : ∀ d : Addr, [V.str (A1.cds.getD j ""), V.int (gn : Int), V.int (A1.bal.getD j 0), V.ref d] = [V.str (callG A1 j gn).code, V.int ((callG A1 j gn).given : Nat), V.int ((callG A1 j gn).amount : Nat), V.ref d] := fun d => by
      show _ = [V.str (A1.cds.getD j ""), V.int (((gn : Int).toNat : Nat) : Int), V.int (((A1.bal.getD j 0).toNat : Nat) : Int), V.ref d]
      rw [Int.toNat_natCast, Int.toNat_of_nonneg bn]
    have lcode : (callG A1 j gn).code.length ≤ 5000 := Nat.le_trans lc (by decide)
    have hat := at_tup hj
    generalize callG A1 j gn = G at k1 k2 vsE lcode
    generalize A1.sts.getD j [] = kv at k1 k2 gs g3
    generalize A1.bal.getD j 0 = bv at k1 k2 vsE bn hat
    walk_at "rs"
    refine ⟨p, _, dx, _, .ref b1, rfl, s2 _ _ h1, T.cl_Ledger, T.a_Ledger_balances, rfl, ?_⟩
    walk_at "rs"
    refine ⟨b1, _, _, _, rfl, rfl, SqT.of (s2 _ _ h2), hat, ?_⟩
    walk_at "rs"
    refine ⟨p, _, dx, _, .ref cd, rfl, s2 _ _ h1, T.cl_Ledger, T.a_Ledger_codes, rfl, ?_⟩
    walk_at "rs"
    refine ⟨cd, _, _, _, rfl, rfl, SqT.of (s2 _ _ h3), at_strs (by omega), ?_⟩
    walk_at "rs"
    refine ⟨p, _, dx, _, .ref s1, rfl, s2 _ _ h1, T.cl_Ledger, T.a_Ledger_stores, rfl, ?_⟩
    walk_at "rs"
    refine ⟨s1, _, _, _, rfl, rfl, SqT.of (s2 _ _ h4), at_refs (by omega), ?_⟩
    refine ⟨_, o, ps, kvV kv, rfl, s2 _ _ g1, g2, pairs_sq (imp_paired g3 fun _ _ => s2 _ _), fun d hd => ?_⟩
    rw [show mergeK [] (kvV kv) = kvV kv from merge_kv (done := []) gs.nd]
    have s3' := same_new (o := .dK (kvV kv)) hd
    have s3 := s2.trans s3'
    have hd3 : upd H2 d (.dK (kvV kv)) d = some (.dK (kvV kv)) := upd_same
    generalize upd H2 d (.dK (kvV kv)) = H3 at s3' s3 hd3 ⊢
    refine ⟨d, G, kv, vsE d, hd3, gs.mono hm, lcode, fun m' n' ef r S dr H4 s4' nS hS hr' => ?_, fun n' ef r S dr H4 s4' nS hS hr' => ?_⟩
    · have s4 := s3.trans s4'
      rw [ef] at k1 k2
      replace k1 : (if (m'.pd : Int) ≤ bv then some (⟨moveA A1.bal j i (m'.pd : Int), A1.cds, A1.sts.set j (leftM m')⟩ : Ac) else none) = none → ∀ H', Same H H' → Q .non H' := k1
      replace k2 : ∀ r H' B, (if (m'.pd : Int) ≤ bv then some (⟨moveA A1.bal j i (m'.pd : Int), A1.cds, A1.sts.set j (leftM m')⟩ : Ac) else none) = some B → Same H H' → LgAt a.C_Ledger H' r B → Q (.ref r) H' := k2
      walk_at "rs"
      refine ⟨r, _, dr, _, .bl true, rfl, hr', T.cl_Run, T.a_Run_well, rfl, ?_⟩
      walk_at "rs"
      refine ⟨r, _, dr, _, .int (m'.pd : Nat), rfl, hr', T.cl_Run, T.a_Run_paid, rfl, ?_⟩
      walk_at "rs"
      refine ite2 (fun c3 => ?_) (fun c3 => ?_)
      · have c3 : (m'.pd : Int) > bv := of_decide_eq_true c3
        walk_at "rs"
        exact k1 (if_neg (by omega)) H4 s4
      have c3 : (m'.pd : Int) ≤ bv := by
        have : ¬ (m'.pd : Int) > bv := fun h => c3 (decide_eq_true h)
        omega
      walk_at "rs"
      refine ⟨p, _, dx, _, .ref s1, rfl, s4 _ _ h1, T.cl_Ledger, T.a_Ledger_stores, rfl, ?_⟩
      walk_at "rs"
      refine ⟨r, _, dr, _, .ref S, rfl, hr', T.cl_Run, T.a_Run_store, rfl, ?_⟩
      refine ⟨S, kvV (leftM m'), rfl, hS, fun H5 t0 o0 us s5' nt0 ho0 ht0 hus => ?_⟩
      have s5 := s4.trans s5'
      walk_at "rs"
      refine ⟨s1, ts.map V.ref, j, .ref t0, rfl, s5 _ _ h4, by rw [List.length_map]; omega, by rw [List.length_map]; omega, fun qs H6 s6' hqs => ?_⟩
      rw [set_map] at hqs
      have s6 := s5.trans s6'
      walk_at "rs"
      refine ⟨p, _, dx, _, .ref b1, rfl, s6 _ _ h1, T.cl_Ledger, T.a_Ledger_balances, rfl, ?_⟩
      walk_at "rs"
      refine ⟨r, _, dr, _, .int (m'.pd : Nat), rfl, s6' _ _ (s5' _ _ hr'), T.cl_Run, T.a_Run_paid, rfl, ?_⟩
      walk_at "rs"
      refine ⟨b1, A1.bal, j, i, _, rfl, s6 _ _ h2, by omega, by omega, by omega, fun q H7 s7' hq => ?_⟩
      have s7 := s6.trans s7'
      walk_at "rs"
      refine ⟨p, _, dx, _, .ref cd, rfl, s7 _ _ h1, T.cl_Ledger, T.a_Ledger_codes, rfl, ?_⟩
      walk_at "rs"
      intro f df hf1 hdf ndf
      refine ⟨f, df, _, _, _, rfl, upd_same, fun H8 h8' keep => ⟨rfl, ?_⟩⟩
      have s8' := made hf1 hdf keep
      have s8 := s7.trans s8'
      have s58 := s6'.trans (s7'.trans s8')
      exact k2 f H8 _ (if_pos c3) s8 ⟨df, q, cd, qs, ts.set j t0, h8', s8' _ _ hq, s8 _ _ h3, s8' _ _ (s7' _ _ hqs), paired_set ⟨o0, us, s58 _ _ ht0, ho0, imp_paired (pairs_pr hus) fun _ _ => s58 _ _⟩ j (imp_paired h5 fun _ _ z => z.same s8)⟩
    · have s4 := s3.trans s4'
      rw [ef] at k1
      walk_at "rs"
      refine ⟨r, _, dr, _, .bl false, rfl, hr', T.cl_Run, T.a_Run_well, rfl, ?_⟩
      walk_at "rs"
      refine ite2 (fun _ => ?_) (fun c => absurd rfl c)
      walk_at "rs"
      refine ite2 (fun _ => ?_) (fun c => absurd rfl c)
      walk_at "rs"
      exact k1 rfl H4 s4

def spDone (C : Addr) : Sp := fun vs H Q _ => ∃ (p c : Addr) (A : Ac) (x : Cm) (n k : Nat), vs = [.ref p, .ref c] ∧ LgAt C H p A ∧ CmAt H c x ∧ x.fine ∧ GoodA n k A ∧ k ≤ 7000 ∧
  (afterA A x = none → ∀ H', Same H H' → Q .non H') ∧ ∀ r H' B, afterA A x = some B → Same H H' → LgAt C H' r B → Q (.ref r) H'
theorem ok_done (TE : TxtE w K mg a) (T : Txt K mg a) : ∃ fd, FnOk P w K mg base CX0 7 a.d_done fd ["ledger", "command"] (spDone a.C_Ledger) ∧ Binds K fd ["ledger", "command"] [] := by
  obtain ⟨fd, F, b⟩ := T.d_done.F
  obtain ⟨fd_payment, G_payment, b_payment⟩ := ok_payment (P := P) (w := w) (base := base) T
  obtain ⟨fd_new_program, G_new_program, b_new_program⟩ := ok_new_program (P := P) (w := w) (base := base) T
  obtain ⟨fd_call, G_call, b_call⟩ := ok_call (P := P) (w := w) (base := base) TE T
  refine ⟨fd, F.ok sc_done (fun vs H Q E h => ?_) (fun cdv A outer s H vs Q E hr h => ?_), b⟩
  · obtain ⟨_, _, _, _, _, _, rfl, _⟩ := h
    rfl
  · obtain ⟨p, c, A1, x, n, m, rfl, hp, hc, fx, ga, hm, k1, k2⟩ := h
    have few : A1.bal.length ≤ 100 := by
      have := ga.lb
      have := ga.few
      omega
    have lps : x.ps.length ≤ 3 := by cases x <;> simp [Cm.ps]
    refine ⟨_, (pss_cons (ps_asg (pv 1) (pg_starT rfl (pgs_cons (pg_name (i := 2) sc_done.nd rfl (Or.inl rfl)) (pgs_cons (pg_name (i := 3) sc_done.nd rfl (Or.inl rfl)) pgs_nil))))
      (pss_cons (ps_if (pt_cmpR op_eq (pv 2) pe_str (nomark _))
      (pss_cons (ps_asg (pv 3) (pg_lst rfl (pgs_cons (pg_name (i := 4) sc_done.nd rfl (Or.inl rfl)) (pgs_cons (pg_name (i := 5) sc_done.nd rfl (Or.inl rfl)) (pgs_cons (pg_name (i := 6) sc_done.nd rfl (Or.inl rfl)) pgs_nil)))))
        (pss_one (ps_ret (pe_call G_payment (hr.mono (by decide)) rfl T.d_payment.g T.d_payment.kp b_payment .nil pass0 (pa_cons (pv 0) (pa_cons (pv 4) (pa_cons (pv 5) (pa_cons (pv 6) pa_nil))))))))
      pss_nil)
      (pss_cons (ps_if (pt_cmpR op_eq (pv 2) pe_str (nomark _))
      (pss_cons (ps_asg (pv 3) (pg_lst rfl (pgs_cons (pg_name (i := 7) sc_done.nd rfl (Or.inl rfl)) (pgs_cons (pg_name (i := 8) sc_done.nd rfl (Or.inl rfl)) pgs_nil))))
        (pss_one (ps_ret (pe_call G_new_program (hr.mono (by decide)) rfl T.d_new_program.g T.d_new_program.kp b_new_program .nil pass0 (pa_cons (pv 0) (pa_cons (pv 7) (pa_cons (pv 8) pa_nil)))))))
      pss_nil)
      (pss_cons (ps_if (pt_cmpR op_eq (pv 2) pe_str (nomark _))
      (pss_cons (ps_asg (pv 3) (pg_lst rfl (pgs_cons (pg_name (i := 9) sc_done.nd rfl (Or.inl rfl)) (pgs_cons (pg_name (i := 10) sc_done.nd rfl (Or.inl rfl)) (pgs_cons (pg_name (i := 11) sc_done.nd rfl (Or.inl rfl)) pgs_nil)))))
        (pss_one (ps_ret (pe_call G_call (hr.mono (by decide)) rfl T.d_call.g T.d_call.kp b_call .nil pass0 (pa_cons (pv 0) (pa_cons (pv 9) (pa_cons (pv 10) (pa_cons (pv 11) pa_nil))))))))
      pss_nil)
      (pss_one (ps_ret pe_non)))))), ?_⟩
    walk_at "rs"
    refine ⟨c, .str x.ki, x.ps, rfl, SqT.of hc, by omega, fun l hl => ?_⟩
    dsimp only
    have s1 := same_new (o := .lst x.ps) hl
    have h1 : upd H l (.lst x.ps) l = some (.lst x.ps) := upd_same
    generalize upd H l (.lst x.ps) = H1 at s1 h1 ⊢
    cases x with
    | p x y z =>
      change gCons _ _ [V.str ("p" : Str), V.ref l] _ _ _
      refine ⟨_, _, rfl, _, _, rfl, rfl, ?_⟩
      walk_at "rs"
      refine ⟨l, _, rfl, SqL.of h1, rfl, _, _, rfl, _, _, rfl, _, _, rfl, rfl, ?_⟩
      walk_at "rs"
      exact ⟨p, A1, x, y, z, rfl, hp.same s1, few, fx.1, fx.2.1, fx.2.2, fun e H' s' => k1 e H' (s1.trans s'), fun r H' B e s' => k2 r H' B e (s1.trans s')⟩
    | d x z =>
      change gCons _ _ [V.str ("d" : Str), V.ref l] _ _ _
      refine ⟨_, _, rfl, _, _, rfl, rfl, ?_⟩
      walk_at "rs"
      refine ⟨l, _, rfl, SqL.of h1, rfl, _, _, rfl, _, _, rfl, rfl, ?_⟩
      walk_at "rs"
      exact ⟨p, A1, n, m, x, z, rfl, hp.same s1, ga, fx.1, fun e H' s' => k1 e H' (s1.trans s'), fun r H' B e s' => k2 r H' B e (s1.trans s')⟩
    | k x y z =>
      change gCons _ _ [V.str ("k" : Str), V.ref l] _ _ _
      refine ⟨_, _, rfl, _, _, rfl, rfl, ?_⟩
      walk_at "rs"
      refine ⟨l, _, rfl, SqL.of h1, rfl, _, _, rfl, _, _, rfl, _, _, rfl, rfl, ?_⟩
      walk_at "rs"
      exact ⟨p, A1, n, m, x, y, z, rfl, hp.same s1, ga, hm, fx.1, fx.2.1, fx.2.2, fun e H' s' => k1 e H' (s1.trans s'), fun r H' B e s' => k2 r H' B e (s1.trans s')⟩
    | w x y =>
      change gCons _ _ [V.str ("w" : Str), V.ref l] _ _ _
      refine ⟨_, _, rfl, _, _, rfl, rfl, ?_⟩
      walk_at "rs"
      refine ite2 (fun c => absurd c (by decide +kernel)) (fun _ => ?_)
      walk_at "rs"
      exact k1 rfl H1 s1

def spAfter (C : Addr) : Sp := fun vs H Q _ => ∃ (p c : Addr) (A : Ac) (x : Cm) (n k : Nat), vs = [.ref p, .ref c] ∧ LgAt C H p A ∧ CmAt H c x ∧ x.fine ∧ GoodA n k A ∧ k ≤ 7000 ∧
  (afterA A x = none → ∀ q H', Same H H' → H' q = some (.tup [.ref p, .bl false]) → Q (.ref q) H') ∧ ∀ q r H' B, afterA A x = some B → Same H H' → LgAt C H' r B → H' q = some (.tup [.ref r, .bl true]) → Q (.ref q) H'
theorem ok_after_command (TE : TxtE w K mg a) (T : Txt K mg a) : ∃ fd, FnOk P w K mg base CX0 8 a.d_after_command fd ["ledger", "command"] (spAfter a.C_Ledger) ∧ Binds K fd ["ledger", "command"] [] := by
  obtain ⟨fd, F, b⟩ := T.d_after_command.F
  obtain ⟨fd_done, G_done, b_done⟩ := ok_done (P := P) (w := w) (base := base) TE T
  refine ⟨fd, F.ok sc_after_command (fun vs H Q E h => ?_) (fun cdv A outer s H vs Q E hr h => ?_), b⟩
  · obtain ⟨_, _, _, _, _, _, rfl, _⟩ := h
    rfl
  · obtain ⟨p, c, A1, x, n, m, rfl, hp, hc, fx, ga, hm, k1, k2⟩ := h
    refine ⟨_, (pss_cons (ps_set (i := 2) sc_after_command.nd rfl (Or.inl rfl) (pe_call G_done (hr.mono (by decide)) rfl T.d_done.g T.d_done.kp b_done .nil pass0 (pa_cons (pv 0) (pa_cons (pv 1) pa_nil))))
      (pss_cons (ps_if (pt_cmpR op_isN (pv 2) pe_non (nomark _))
      (pss_one (ps_ret (pe_tup (pa_cons (pv 0) (pa_cons pe_bl pa_nil)))))
      pss_nil)
      (pss_one (ps_ret (pe_tup (pa_cons (pv 2) (pa_cons pe_bl pa_nil))))))), ?_⟩
    walk_at "rs"
    refine ⟨p, c, A1, x, n, m, rfl, hp, hc, fx, ga, hm, fun e H1 s1 => ?_, fun r H1 B e s1 hr1 => ?_⟩
    · walk_at "rs"
      refine ⟨(by show 2 ≤ sizeLine; decide), fun q hq => ?_⟩
      exact k1 e q _ (same_upd s1 (s1.free hq)) upd_same
    · walk_at "rs"
      refine ⟨(by show 2 ≤ sizeLine; decide), fun q hq => ?_⟩
      exact k2 q r _ B e (same_upd s1 (s1.free hq)) (hr1.same (same_new hq)) upd_same

def spCell (K : PySem.W.Frag) : Sp := fun vs H Q _ => ∃ (a : Addr) (ns : List Int) (k : Int), vs = [.ref a, .int k] ∧ SqL K H a (ns.map V.int) ∧ ns.length ≤ 63 ∧ 0 ≤ k ∧ Q (.int (ns.getD k.toNat 0)) H
def spRow (K : PySem.W.Frag) : Sp := fun vs H Q _ => ∃ (cell count size : Int), vs = [.int cell, .int count, .int size] ∧ 0 ≤ count ∧ count ≤ 1000 ∧ 0 < size ∧ size < 1000 ∧
  ∀ p (row : List Int) H', Same H H' → H' p = some (.lst (row.map V.int)) → row.length = count.toNat → (∀ x ∈ row, 0 ≤ x ∧ x < size) → H p = none → Q (.ref p) H'
def spNumber : Sp := fun vs H Q _ => ∃ c : Int, vs = [.int c] ∧ ∀ v, NOk v → Q (.int v) H
def spPlace : Sp := fun vs H Q _ => ∃ c : Int, vs = [.int c] ∧ ∀ v, NOk v → Q (.int v) H
def spCode : Sp := fun vs H Q _ => ∃ c : Int, vs = [.int c] ∧ ∀ (z : Str) H', Same H H' → z.length ≤ 12 → Sgn z → Q (.str z) H'
def spMake : Sp := fun vs H Q _ => ∃ c m : Int, vs = [.int c, .int m] ∧ ∀ (p : Addr) (x : Cm) H', Same H H' → H p = none → CmAt H' p x → x.good → Q (.ref p) H'

def spLaw (K : PySem.W.Frag) : Sp := fun vs H Q _ => ∃ (a : Addr) (ns : List Int), vs = [.ref a] ∧ SqL K H a (ns.map V.int) ∧ ns.length ≤ 63 ∧ ∀ H', Q (.bl true) H'
theorem ok_law_cell (T : Txt K mg a) : ∃ fd, FnOk P w K mg base CX0 1 a.d_law_cell fd ["script", "k"] (spCell K) ∧ Binds K fd ["script", "k"] [] := by
  obtain ⟨fd, F, b⟩ := T.d_law_cell.F
  refine ⟨fd, F.ok sc_law_cell (fun vs H Q E h => ?_) (fun cdv A outer s H vs Q E hr h => ?_), b⟩
  · obtain ⟨a, ns, k, rfl, _⟩ := h
    rfl
  · obtain ⟨l, ns, k, rfl, hS, hl, hk, q⟩ := h
    refine ⟨_, (pss_cons (ps_if (pt_cmpR op_lt (pv 1) (pe_callB call_len_seq (by rfl) T.n_len PySem.boot_len (pa_cons (pv 0) pa_nil)) (nomark _))
      (pss_one (ps_ret (pe_ix ix_list (pv 0) (pv 1) (fun _ _ => rfl))))
      pss_nil)
      (pss_one (ps_ret pe_int))), ?_⟩
    refine ⟨_, rfl, _, rfl, l, _, rfl, .inl hS, _, _, rfl, rfl, _, rfl, ?_⟩
    refine ite2 (fun hlt => ?_) (fun hge => ?_)
    · have hlt : k < ((ns.map V.int).length : Int) := of_decide_eq_true hlt
      rw [List.length_map] at hlt
      have hj : k.toNat < ns.length := by omega
      have e : ns.getD k.toNat 0 = ns[k.toNat] := by rw [List.getD_eq_getElem?_getD, List.getElem?_eq_getElem hj]; rfl
      rw [e] at q
      refine ⟨_, rfl, _, rfl, l, _, k, .int ns[k.toNat], rfl, rfl, hS, at_of (j := k.toNat) (by omega) (by rw [List.getElem?_map, List.getElem?_eq_getElem hj]; rfl), q⟩
    · have hge : ¬ k < ((ns.map V.int).length : Int) := fun e => hge (decide_eq_true e)
      rw [List.length_map] at hge
      have e : ns.getD k.toNat 0 = 0 := by rw [List.getD_eq_getElem?_getD, List.getElem?_eq_none (by omega)]; rfl
      rw [e] at q
      exact q

theorem ok_law_row (T : Txt K mg a) : ∃ fd, FnOk P w K mg base CX0 1 a.d_law_row fd ["cell", "count", "size"] (spRow K) ∧ Binds K fd ["cell", "count", "size"] [] := by
  obtain ⟨fd, F, b⟩ := T.d_law_row.F
  refine ⟨fd, F.ok sc_law_row (fun vs H Q E h => ?_) (fun cdv A outer s H vs Q E hr h => ?_), b⟩
  · obtain ⟨_, _, _, rfl, _⟩ := h
    rfl
  · obtain ⟨cell, count, size, rfl, c0, c1, z0, z1, k⟩ := h
    refine ⟨_, (pss_cons (ps_set (i := 3) sc_law_row.nd rfl (Or.inl rfl) (pv 0))
      (pss_cons (ps_set (i := 4) sc_law_row.nd rfl (Or.inl rfl) (pe_lst pa_nil))
      (pss_cons (ps_for PassesOwn.never rfl (pi_range1 rfl T.n_range (pa_cons (pv 1) pa_nil)) (pg_name (i := 5) sc_law_row.nd rfl (Or.inl rfl))
      (pss_one (ps_if (pt_cmpR op_ge (pv 0) (pe_op op_pow pe_int pe_int) (nomark _))
        (pss_cons (ps_expr (pe_bm PySem.F.plainAttrs_list PySem.F.slot_list_append PySem.F.type_list_append mt_append (pv 4) (pa_cons (pe_op op_mod (pe_callTy call_int1 (by rfl) T.n_int (by decide +kernel) (pa_cons (pv 3) pa_nil)) (pv 2)) pa_nil)))
          (pss_one (ps_set (i := 3) sc_law_row.nd rfl (Or.inl rfl) (pe_op op_fdivN (pv 3) (pv 2)))))
        (pss_cons (ps_set (i := 3) sc_law_row.nd rfl (Or.inl rfl) (pe_op op_mod (pe_callTy call_int1 (by rfl) T.n_int (by decide +kernel) (pa_cons (pe_op op_add (pe_op op_mul (pv 3) pe_int) pe_int) pa_nil)) pe_int))
          (pss_one (ps_expr (pe_bm PySem.F.plainAttrs_list PySem.F.slot_list_append PySem.F.type_list_append mt_append (pv 4) (pa_cons (pe_op op_mod (pe_op op_mod (pe_callTy call_int1 (by rfl) T.n_int (by decide +kernel) (pa_cons (pe_op op_add (pe_op op_mul (pv 3) pe_int) (pe_op op_mul (pv 5) pe_int)) pa_nil)) pe_int) (pv 2)) pa_nil))))))))
      (pss_one (ps_ret (pv 4)))))), ?_⟩
    walk_at "rs"
    refine ⟨(by show 0 ≤ sizeLine; decide), fun p hp => ?_⟩
    walk_at "rs"
    refine ⟨(by show -(2 ^ 62 : Int) ≤ _; omega), (by show _ < (2 ^ 62 : Int); omega), ?_⟩
    refine for_range (lo := 0) (n := count.toNat) (fun i σ H2 => ∃ (st : Int) (row : List Int) (v5 : Option V), σ = [some (.int cell), some (.int count), some (.int size), some (.int st), some (.ref p), v5] ∧ Same H H2 ∧
      H2 p = some (.lst (row.map V.int)) ∧ row.length = i ∧ ∀ x ∈ row, 0 ≤ x ∧ x < size) ⟨_, [], _, rfl, same_new hp, upd_same, rfl, fun x hx => nomatch hx⟩ ?_ ?_
    · rintro i σ H2 hi ⟨st, row, v5, rfl, s2, hrow, hlen, hb⟩
      have fit : (row.map V.int).length < sizeLine := by
        rw [List.length_map]
        exact small1000 (by omega)
      have grow : ∀ z : Int, 0 ≤ z → z < size → ∀ x ∈ row ++ [z], 0 ≤ x ∧ x < size := fun z h0 h1 x hx => by
        rcases List.mem_append.mp hx with hx | hx
        · exact hb x hx
        · rw [List.mem_singleton.mp hx]
          exact ⟨h0, h1⟩
      walk_at "rs"
      refine ite2 (fun c1 => ?_) (fun c1 => ?_)
      · walk_at "rs"
        refine ⟨.inl ⟨rfl, _, SqL.of hrow⟩, ?_⟩
        walk_at "rs"
        refine ⟨p, _, _, rfl, rfl, hrow, fit, ?_⟩
        walk_at "rs"
        refine ⟨(show CDivN _ _ from ⟨by omega, by omega⟩), ?_⟩
        exact ⟨_, row ++ [st % size], _, rfl, same_upd s2 hp, by rw [upd_same]; simp, by simp [hlen], grow _ (Int.emod_nonneg _ (by omega)) (Int.emod_lt_of_pos _ z0)⟩
      · walk_at "rs"
        refine ⟨.inl ⟨rfl, _, SqL.of hrow⟩, ?_⟩
        walk_at "rs"
        refine ⟨p, _, _, rfl, rfl, hrow, fit, ?_⟩
        exact ⟨_, row ++ [((st * 48271 + 12345) % 2147483647 * 69621 + (i : Int) * 7919) % 2147483647 % size], _, rfl, same_upd s2 hp, by rw [upd_same]; simp, by simp [hlen], grow _ (Int.emod_nonneg _ (by omega)) (Int.emod_lt_of_pos _ z0)⟩
    · rintro σ H2 ⟨st, row, v5, rfl, s2, hrow, hlen, hb⟩
      walk_at "rs"
      exact k p row H2 s2 hrow hlen hb hp

theorem join_nil_len : ∀ l : List Str, (Str.join "" l).length = (l.map fun x => x.length).sum
  | [] => rfl
  | [x] => by simp [Str.join]
  | x :: y :: r => by
    have ih := join_nil_len (y :: r)
    show ((x ++ "") ++ Str.join "" (y :: r)).length = _
    rw [PySem.Str.length_append, PySem.Str.length_append, ih]
    rfl

theorem ok_law_number (T : Txt K mg a) : ∃ fd, FnOk P w K mg base CX0 1 a.d_law_number fd ["cell"] spNumber ∧ Binds K fd ["cell"] [] := by
  obtain ⟨fd, F, b⟩ := T.d_law_number.F
  refine ⟨fd, F.ok sc_law_number (fun vs H Q E h => ?_) (fun cdv A outer s H vs Q E hr h => ?_), b⟩
  · obtain ⟨_, rfl, _⟩ := h
    rfl
  · obtain ⟨c, rfl, k⟩ := h
    refine ⟨_, (pss_cons (ps_if (pt_cmpR op_eq (pe_op op_mod (pe_callTy call_int1 (by rfl) T.n_int (by decide +kernel) (pa_cons (pv 0) pa_nil)) pe_int) pe_int (nomark _))
      (pss_one (ps_ret (pe_op op_mod (pe_op op_fdiv (pv 0) pe_int) pe_int)))
      pss_nil)
      (pss_cons (ps_if (pt_cmpR op_eq (pe_op op_mod (pe_callTy call_int1 (by rfl) T.n_int (by decide +kernel) (pa_cons (pv 0) pa_nil)) pe_int) pe_int (nomark _))
      (pss_one (ps_ret (pe_op op_mod (pe_op op_fdiv (pv 0) pe_int) pe_int)))
      pss_nil)
      (pss_one (ps_ret (pe_op op_mod (pe_op op_fdiv (pv 0) pe_int) pe_int))))), ?_⟩
    have b1 := Int.emod_nonneg (c / 3) (show (6 : Int) ≠ 0 by decide)
    have b2 := Int.emod_lt_of_pos (c / 3) (show (0 : Int) < 6 by decide)
    have b3 := Int.emod_nonneg (c / 3) (show (1000 : Int) ≠ 0 by decide)
    have b4 := Int.emod_lt_of_pos (c / 3) (show (0 : Int) < 1000 by decide)
    have b5 := Int.emod_nonneg (c / 3) (show (1000000 : Int) ≠ 0 by decide)
    have b6 := Int.emod_lt_of_pos (c / 3) (show (0 : Int) < 1000000 by decide)
    walk_at "rs"
    refine ite2 (fun c1 => ?_) (fun c1 => ?_)
    · walk_at "rs"
      exact k _ ⟨b1, by omega⟩
    · walk_at "rs"
      refine ite2 (fun c1 => ?_) (fun c1 => ?_)
      · walk_at "rs"
        exact k _ ⟨b3, by omega⟩
      · walk_at "rs"
        exact k _ ⟨b5, by omega⟩
theorem ok_law_place (T : Txt K mg a) : ∃ fd, FnOk P w K mg base CX0 1 a.d_law_place fd ["cell"] spPlace ∧ Binds K fd ["cell"] [] := by
  obtain ⟨fd, F, b⟩ := T.d_law_place.F
  refine ⟨fd, F.ok sc_law_place (fun vs H Q E h => ?_) (fun cdv A outer s H vs Q E hr h => ?_), b⟩
  · obtain ⟨_, rfl, _⟩ := h
    rfl
  · obtain ⟨c, rfl, k⟩ := h
    refine ⟨_, (pss_cons (ps_if (pt_cmpR op_eq (pe_op op_mod (pe_op op_fdiv (pe_callTy call_int1 (by rfl) T.n_int (by decide +kernel) (pa_cons (pv 0) pa_nil)) pe_int) pe_int) pe_int (nomark _))
      (pss_one (ps_ret (pe_op op_add pe_int (pe_op op_mod (pe_op op_fdiv (pe_callTy call_int1 (by rfl) T.n_int (by decide +kernel) (pa_cons (pv 0) pa_nil)) pe_int) pe_int))))
      pss_nil)
      (pss_one (ps_ret (pe_op op_mod (pe_callTy call_int1 (by rfl) T.n_int (by decide +kernel) (pa_cons (pv 0) pa_nil)) pe_int)))), ?_⟩
    have b1 := Int.emod_nonneg c (show (6 : Int) ≠ 0 by decide)
    have b2 := Int.emod_lt_of_pos c (show (0 : Int) < 6 by decide)
    have b3 := Int.emod_nonneg (c / 30) (show (994 : Int) ≠ 0 by decide)
    have b4 := Int.emod_lt_of_pos (c / 30) (show (0 : Int) < 994 by decide)
    walk_at "rs"
    refine ite2 (fun c1 => ?_) (fun c1 => ?_)
    · walk_at "rs"
      exact k _ ⟨by omega, by omega⟩
    · walk_at "rs"
      exact k _ ⟨b1, by omega⟩
theorem sgn_ok : ∀ i : Fin 27, (TL.tl "0123456789gginasmtcehlujfyo").getD i.val 0 ∈ TL.tl "0123456789ginasmtcehlujfyo" := by decide +kernel
theorem sgn_len : (TL.tl "0123456789gginasmtcehlujfyo").length = 27 := by decide +kernel
theorem at_sign {l : List Nat} {i : Int} (h0 : 0 ≤ i) (h1 : i < l.length) : atI l i = some (l.getD i.toNat 0) := by
  have e : i = (i.toNat : Int) := by omega
  rw [e]
  refine atI_nat ?_
  rw [Int.toNat_natCast, List.getD_eq_getElem?_getD, List.getElem?_eq_getElem (by omega)]
  rfl
theorem ones_sum : ∀ {ys : List Str}, (∀ y ∈ ys, y.length = 1) → (ys.map fun x => x.length).sum = ys.length
  | [], _ => rfl
  | y :: ys, h => by
    rw [List.map_cons, List.sum_cons, ones_sum fun z hz => h z (List.mem_cons_of_mem _ hz), h y List.mem_cons_self, List.length_cons]
    omega
theorem join_sgn : ∀ {ys : List Str}, (∀ y ∈ ys, Sgn y) → ∀ n ∈ TL.joinL (TL.tl "") (ys.map TL.tl), n ∈ TL.tl "0123456789ginasmtcehlujfyo"
  | [], _, n, hn => by cases hn
  | [y], h, n, hn => h y List.mem_cons_self n hn
  | y :: z :: r, h, n, hn => by
    have hn : n ∈ TL.tl y ++ ([] ++ TL.joinL (TL.tl "") ((z :: r).map TL.tl)) := hn
    rw [List.nil_append] at hn
    rcases List.mem_append.mp hn with hn | hn
    · exact h y List.mem_cons_self n hn
    · exact join_sgn (fun u hu => h u (List.mem_cons_of_mem _ hu)) n hn
theorem ok_law_code (T : Txt K mg a) : ∃ fd, FnOk P w K mg base CX0 2 a.d_law_code fd ["cell"] spCode ∧ Binds K fd ["cell"] [] := by
  obtain ⟨fd, F, b⟩ := T.d_law_code.F
  obtain ⟨fd_law_row, G_law_row, b_law_row⟩ := ok_law_row (P := P) (w := w) (base := base) T
  refine ⟨fd, F.ok sc_law_code (fun vs H Q E h => ?_) (fun cdv A outer s H vs Q E hr h => ?_), b⟩
  · obtain ⟨_, rfl, _⟩ := h
    rfl
  · obtain ⟨c, rfl, k⟩ := h
    refine ⟨_, (pss_cons (ps_set (i := 1) sc_law_code.nd rfl (Or.inr rfl) pe_str)
      (pss_cons (ps_set (i := 2) sc_law_code.nd rfl (Or.inl rfl) (pe_call G_law_row (hr.mono (by decide)) rfl T.d_law_row.g T.d_law_row.kp b_law_row .nil pass0 (pa_cons (pe_op op_fdiv (pv 0) pe_int) (pa_cons (pe_op op_mod (pe_callTy call_int1 (by rfl) T.n_int (by decide +kernel) (pa_cons (pv 0) pa_nil)) pe_int) (pa_cons pe_int pa_nil)))))
      (pss_one (ps_ret (pe_join pe_str (pe_lc (own := [("digit", 3)]) (g := (gName 3)) (tt := tYes) rfl sc_law_code.nd (pi_list (pv 2)) (blkOk_by (own := [("digit", 3)]) (N := sc_law_code_N) (sc := defScope s_law_code) (by decide +kernel)) (fun _ _ _ _ _ => (pg_name (i := 3) sc_law_code.nd rfl (Or.inl rfl))) (fun _ _ _ _ _ => pts_nil) (fun _ _ _ _ _ => (pe_ix ix_str (pv 1) (pv 3) (fun _ _ => rfl))))))))), ?_⟩
    have b1 := Int.emod_nonneg c (show (13 : Int) ≠ 0 by decide)
    have b2 := Int.emod_lt_of_pos c (show (0 : Int) < 13 by decide)
    walk_at "rs"
    refine ⟨_, _, _, rfl, b1, by omega, by decide, by decide, fun D row H1 s1 hD lrow hrow _ => ?_⟩
    refine ⟨⟨_, rfl⟩, ?_⟩
    walk_at "rs"
    refine ⟨⟨_, SqL.of hD⟩, fun D2 hD2 => ?_⟩
    have lr : row.length ≤ 12 := by rw [lrow]; omega
    refine lc_list (K := K) (a := D) (xs := row.map V.int) (fun i H2 => Same H1 H2 ∧ ∃ ys : List Str, H2 D2 = some (.lst (ys.map V.str)) ∧ ys.length = i ∧ (∀ y ∈ ys, y.length = 1) ∧ ∀ y ∈ ys, Sgn y) ⟨same_new hD2, [], upd_same, rfl, fun y hy => absurd hy List.not_mem_nil, fun y hy => absurd hy List.not_mem_nil⟩ (fun i H2 _ ⟨s2, _⟩ => SqL.of (s2 _ _ hD)) ?_ ?_
    · rintro i y H2 hy ⟨s2, ys, hd, ly, l1, sg⟩
      have hi : i < row.length := by
        have e := (List.getElem?_eq_some_iff.mp hy).1
        rwa [List.length_map] at e
      rw [at_ints hi] at hy
      cases hy
      have hz := hrow _ (getD_mem hi)
      refine ⟨rfl, ?_⟩
      walk_at "rs"
      refine ⟨_, _, _, rfl, rfl, (by rw [sizeLine_eq]; decide +kernel), at_sign (l := TL.tl "0123456789gginasmtcehlujfyo") hz.1 (by rw [sgn_len]; omega), ?_⟩
      have hs := sgn_ok ⟨(row.getD i 0).toNat, by omega⟩
      refine ⟨_, hd, by rw [List.length_map]; exact small1000 (by omega), same_upd s2 hD2, ys ++ [⟨#[(TL.tl "0123456789gginasmtcehlujfyo").getD (row.getD i 0).toNat 0]⟩], by rw [upd_same, List.map_append]; rfl, by rw [List.length_append, ly]; rfl, fun y hy => ?_, fun y hy => ?_⟩
      · rcases List.mem_append.mp hy with hy | hy
        · exact l1 y hy
        · rw [List.mem_singleton.mp hy]
          rfl
      · rcases List.mem_append.mp hy with hy | hy
        · exact sg y hy
        · rw [List.mem_singleton.mp hy]
          intro n hn
          rw [TL.tl_mk, List.mem_singleton] at hn
          rw [hn]
          exact hs
    · rintro H2 ⟨s2, ys, hd, ly, l1, sg⟩
      walk_at "rs"
      refine ⟨_, _, ys, rfl, rfl, .inl (SqL.of hd), ?_, ?_⟩
      · have e : (ys.map fun x => x.length).sum = ys.length := ones_sum l1
        rw [List.length_map] at ly
        have l0 : ("" : Str).length = 0 := rfl
        rw [e, l0]
        omega
      · have e : (ys.map fun x => x.length).sum = ys.length := ones_sum l1
        rw [List.length_map] at ly
        refine k _ H2 (s1.trans s2) ?_ ?_
        · rw [TL.join_eq, join_nil_len, e]
          omega
        · intro n hn
          rw [TL.join_eq, TL.tl_join] at hn
          exact join_sgn sg n hn
theorem ok_law_command (T : Txt K mg a) : ∃ fd, FnOk P w K mg base CX0 3 a.d_law_command fd ["cell", "more"] spMake ∧ Binds K fd ["cell", "more"] [] := by
  obtain ⟨fd, F, b⟩ := T.d_law_command.F
  obtain ⟨fd_law_place, G_law_place, b_law_place⟩ := ok_law_place (P := P) (w := w) (base := base) T
  obtain ⟨fd_law_number, G_law_number, b_law_number⟩ := ok_law_number (P := P) (w := w) (base := base) T
  obtain ⟨fd_law_code, G_law_code, b_law_code⟩ := ok_law_code (P := P) (w := w) (base := base) T
  refine ⟨fd, F.ok sc_law_command (fun vs H Q E h => ?_) (fun cdv A outer s H vs Q E hr h => ?_), b⟩
  · obtain ⟨_, _, rfl, _⟩ := h
    rfl
  · obtain ⟨c, m, rfl, k⟩ := h
    refine ⟨_, (pss_cons (ps_set (i := 2) sc_law_command.nd rfl (Or.inl rfl) (pe_call G_law_place (hr.mono (by decide)) rfl T.d_law_place.g T.d_law_place.kp b_law_place .nil pass0 (pa_cons (pe_op op_fdiv (pv 0) pe_int) pa_nil)))
      (pss_cons (ps_if (pt_cmpR op_eq (pe_op op_mod (pe_callTy call_int1 (by rfl) T.n_int (by decide +kernel) (pa_cons (pv 0) pa_nil)) pe_int) pe_int (nomark _))
      (pss_one (ps_ret (pe_tup (pa_cons pe_str (pa_cons (pv 2) (pa_cons (pe_op op_mod (pe_callTy call_int1 (by rfl) T.n_int (by decide +kernel) (pa_cons (pv 1) pa_nil)) pe_int) pa_nil))))))
      pss_nil)
      (pss_cons (ps_if (pt_cmpR op_eq (pe_op op_mod (pe_callTy call_int1 (by rfl) T.n_int (by decide +kernel) (pa_cons (pv 0) pa_nil)) pe_int) pe_int (nomark _))
      (pss_one (ps_ret (pe_tup (pa_cons pe_str (pa_cons (pv 2) (pa_cons (pe_call G_law_code (hr.mono (by decide)) rfl T.d_law_code.g T.d_law_code.kp b_law_code .nil pass0 (pa_cons (pv 1) pa_nil)) pa_nil))))))
      pss_nil)
      (pss_cons (ps_if (pt_cmpR op_eq (pe_op op_mod (pe_callTy call_int1 (by rfl) T.n_int (by decide +kernel) (pa_cons (pv 0) pa_nil)) pe_int) pe_int (nomark _))
      (pss_one (ps_ret (pe_tup (pa_cons pe_str (pa_cons (pv 2) (pa_cons (pe_call G_law_place (hr.mono (by decide)) rfl T.d_law_place.g T.d_law_place.kp b_law_place .nil pass0 (pa_cons (pe_op op_fdiv (pv 0) pe_int) pa_nil)) (pa_cons (pe_call G_law_number (hr.mono (by decide)) rfl T.d_law_number.g T.d_law_number.kp b_law_number .nil pass0 (pa_cons (pv 1) pa_nil)) pa_nil)))))))
      pss_nil)
      (pss_one (ps_ret (pe_tup (pa_cons pe_str (pa_cons (pv 2) (pa_cons (pe_call G_law_place (hr.mono (by decide)) rfl T.d_law_place.g T.d_law_place.kp b_law_place .nil pass0 (pa_cons (pe_op op_fdiv (pv 0) pe_int) pa_nil)) (pa_cons (pe_call G_law_number (hr.mono (by decide)) rfl T.d_law_number.g T.d_law_number.kp b_law_number .nil pass0 (pa_cons (pv 1) pa_nil)) pa_nil))))))))))), ?_⟩
    have b1 := Int.emod_nonneg m (show (10 : Int) ≠ 0 by decide)
    have b2 := Int.emod_lt_of_pos m (show (0 : Int) < 10 by decide)
    walk_at "rs"
    intro one ho
    walk_at "rs"
    refine ite2 (fun c1 => ?_) (fun c1 => ?_)
    · walk_at "rs"
      refine ⟨(by show 3 ≤ sizeLine; decide), fun p hp => ?_⟩
      exact k p (.w one (m % 10)) _ (same_new hp) hp upd_same ⟨ho, b1, by omega⟩
    · walk_at "rs"
      refine ite2 (fun c2 => ?_) (fun c2 => ?_)
      · walk_at "rs"
        intro z H1 s1 lz sz
        walk_at "rs"
        refine ⟨(by show 3 ≤ sizeLine; decide), fun p hp => ?_⟩
        have hpH : H p = none := by
          cases e : H p with
          | none => rfl
          | some o => rw [s1 _ _ e] at hp; cases hp
        exact k p (.d one z) _ (same_upd s1 hpH) hpH upd_same ⟨ho, lz, sz⟩
      · walk_at "rs"
        refine ite2 (fun c3 => ?_) (fun c3 => ?_)
        · walk_at "rs"
          intro two ht
          walk_at "rs"
          intro n hn
          walk_at "rs"
          refine ⟨(by show 4 ≤ sizeLine; decide), fun p hp => ?_⟩
          exact k p (.k one two n) _ (same_new hp) hp upd_same ⟨ho, ht, hn⟩
        · walk_at "rs"
          intro two ht
          walk_at "rs"
          intro n hn
          walk_at "rs"
          refine ⟨(by show 4 ≤ sizeLine; decide), fun p hp => ?_⟩
          exact k p (.p one two n) _ (same_new hp) hp upd_same ⟨ho, ht, hn⟩

def spReckon : Sp := fun vs H Q _ => ∃ (c l r : Nat), vs = [.str ⟨#[c]⟩, .int (l : Nat), .int (r : Nat)] ∧ l < 1000000 ∧ r < 1000000 ∧ Q (.int (work c l r : Nat)) H
theorem ok_law_reckon (T : Txt K mg a) : ∃ fd, FnOk P w K mg base CX0 1 a.d_law_reckon fd ["sign", "left", "right"] spReckon ∧ Binds K fd ["sign", "left", "right"] [] := by
  obtain ⟨fd, F, b⟩ := T.d_law_reckon.F
  refine ⟨fd, F.ok sc_law_reckon (fun vs H Q E h => ?_) (fun cdv A outer s H vs Q E hr h => ?_), b⟩
  · obtain ⟨_, _, _, rfl, _⟩ := h
    rfl
  · obtain ⟨c, l, r, rfl, hl, hr', k⟩ := h
    refine ⟨_, (pss_cons (ps_if (pt_cmpR op_eq (pv 0) pe_str (nomark _))
      (pss_one (ps_ret (pe_op op_add (pv 1) (pv 2))))
      pss_nil)
      (pss_cons (ps_if (pt_cmpR op_eq (pv 0) pe_str (nomark _))
      (pss_one (ps_ret (pe_callB (call_max2 rfl) (by rfl) T.n_max (by decide +kernel) (pa_cons pe_int (pa_cons (pe_op op_sub (pv 1) (pv 2)) pa_nil)))))
      pss_nil)
      (pss_cons (ps_if (pt_cmpR op_eq (pv 0) pe_str (nomark _))
      (pss_one (ps_ret (pe_op op_mul (pv 1) (pv 2))))
      pss_nil)
      (pss_cons (ps_if (pt_cmpR op_eq (pv 0) pe_str (nomark _))
      (pss_one (ps_ret (pe_op op_add (pe_op op_mul pe_int (pv 1)) (pv 2))))
      pss_nil)
      (pss_cons (ps_if (pt_cmpR op_eq (pv 0) pe_str (nomark _))
      (pss_one (ps_ret (pe_callTy call_int1 (by rfl) T.n_int (by decide +kernel) (pa_cons (pe_cmpR op_lt (pv 1) (pv 2) (nomark _)) pa_nil))))
      pss_nil)
      (pss_one (ps_ret (pe_callTy call_int1 (by rfl) T.n_int (by decide +kernel) (pa_cons (pe_cmpR op_eq (pv 1) (pv 2) (nomark _)) pa_nil))))))))), ?_⟩
    unfold work at k
    walk_at "rs"
    refine ite2 (fun c1 => ?_) (fun c1 => ?_)
    · have c1 : c = 97 := (sg_eq c 97).mp (V.str.inj (of_decide_eq_true c1))
      rw [if_pos c1, Int.natCast_add] at k
      walk_at "rs"
      exact k
    have c1 : c ≠ 97 := fun e => c1 (decide_eq_true (congrArg V.str ((sg_eq c 97).mpr e)))
    rw [if_neg c1] at k
    walk_at "rs"
    refine ite2 (fun c2 => ?_) (fun c2 => ?_)
    · have c2 : c = 115 := (sg_eq c 115).mp (V.str.inj (of_decide_eq_true c2))
      rw [if_pos c2] at k
      walk_at "rs"
      have e : ((l - r : Nat) : Int) = if (l : Int) - (r : Int) > 0 then (l : Int) - (r : Int) else 0 := by
        split <;> omega
      rw [e] at k
      exact ⟨_, _, rfl, k⟩
    have c2 : c ≠ 115 := fun e => c2 (decide_eq_true (congrArg V.str ((sg_eq c 115).mpr e)))
    rw [if_neg c2] at k
    walk_at "rs"
    refine ite2 (fun c3 => ?_) (fun c3 => ?_)
    · have c3 : c = 109 := (sg_eq c 109).mp (V.str.inj (of_decide_eq_true c3))
      rw [if_pos c3, Int.natCast_mul] at k
      walk_at "rs"
      exact ⟨(show CMul _ _ from .inl ⟨by omega, by omega⟩), k⟩
    have c3 : c ≠ 109 := fun e => c3 (decide_eq_true (congrArg V.str ((sg_eq c 109).mpr e)))
    rw [if_neg c3] at k
    walk_at "rs"
    refine ite2 (fun c4 => ?_) (fun c4 => ?_)
    · have c4 : c = 116 := (sg_eq c 116).mp (V.str.inj (of_decide_eq_true c4))
      rw [if_pos c4, Int.natCast_add, Int.natCast_mul] at k
      walk_at "rs"
      exact k
    have c4 : c ≠ 116 := fun e => c4 (decide_eq_true (congrArg V.str ((sg_eq c 116).mpr e)))
    rw [if_neg c4] at k
    walk_at "rs"
    refine ite2 (fun c5 => ?_) (fun c5 => ?_)
    · have c5 : c = 99 := (sg_eq c 99).mp (V.str.inj (of_decide_eq_true c5))
      rw [if_pos c5] at k
      walk_at "rs"
      refine .inr ⟨_, rfl, ?_⟩
      by_cases h : l < r
      · rw [if_pos h] at k
        rw [decide_eq_true (by omega)]
        exact k
      · rw [if_neg h] at k
        rw [decide_eq_false (by omega)]
        exact k
    have c5 : c ≠ 99 := fun e => c5 (decide_eq_true (congrArg V.str ((sg_eq c 99).mpr e)))
    rw [if_neg c5] at k
    walk_at "rs"
    refine .inr ⟨_, rfl, ?_⟩
    by_cases h : l = r
    · rw [if_pos h] at k
      rw [decide_eq_true (by rw [h])]
      exact k
    · rw [if_neg h] at k
      rw [decide_eq_false (fun e => h (by have := V.int.inj e; omega))]
      exact k
def needM (c : Nat) : Nat := if c ∈ TL.tl "0123456789gin" then 0 else if c ∈ TL.tl "asmtceuf" then 2 else 1
def spNeed : Sp := fun vs H Q _ => ∃ c : Nat, vs = [.str ⟨#[c]⟩] ∧ Q (.int (needM c : Nat)) H
theorem ok_law_need (T : Txt K mg a) : ∃ fd, FnOk P w K mg base CX0 1 a.d_law_need fd ["sign"] spNeed ∧ Binds K fd ["sign"] [] := by
  obtain ⟨fd, F, b⟩ := T.d_law_need.F
  refine ⟨fd, F.ok sc_law_need (fun vs H Q E h => ?_) (fun cdv A outer s H vs Q E hr h => ?_), b⟩
  · obtain ⟨_, rfl, _⟩ := h
    rfl
  · obtain ⟨c, rfl, k⟩ := h
    refine ⟨_, (pss_cons (ps_if (pt_cmpR op_in_sign (pv 0) pe_str (by rfl))
      (pss_one (ps_ret pe_int))
      pss_nil)
      (pss_cons (ps_if (pt_cmpR op_in_sign (pv 0) pe_str (by rfl))
      (pss_one (ps_ret pe_int))
      pss_nil)
      (pss_one (ps_ret pe_int)))), ?_⟩
    unfold needM at k
    walk_at "rs"
    refine ite2 (fun c1 => ?_) (fun c1 => ?_)
    · rw [if_pos (show c ∈ TL.tl "0123456789gin" from of_decide_eq_true c1)] at k
      exact k
    rw [if_neg (show ¬ c ∈ TL.tl "0123456789gin" from fun h => c1 (decide_eq_true h))] at k
    walk_at "rs"
    refine ite2 (fun c2 => ?_) (fun c2 => ?_)
    · rw [if_pos (show c ∈ TL.tl "asmtceuf" from of_decide_eq_true c2)] at k
      exact k
    rw [if_neg (show ¬ c ∈ TL.tl "asmtceuf" from fun h => c2 (decide_eq_true h))] at k
    exact k
/-- the law's own machine in the heap -/
def LAt (H : Hp) (L D S : Addr) (m : Mc) : Prop := L ≠ S ∧ H L = some (.lst (m.stk.map fun n => V.int (n : Nat))) ∧ H D = some (.dK (kvV m.kv)) ∧ H S = some (.lst [.int (m.pl : Nat), .int (m.pd : Nat)])
theorem LAt.ne {H : Hp} {L D S : Addr} {m : Mc} (h : LAt H L D S m) : L ≠ D ∧ L ≠ S ∧ D ≠ S := by
  obtain ⟨n, h1, h2, h3⟩ := h
  exact ⟨fun e => (by rw [e, h2] at h1; cases h1), n, fun e => (by rw [e, h3] at h2; cases h2)⟩
theorem LAt.toL {H : Hp} {L D S : Addr} {m : Mc} (h : LAt H L D S m) (s : List Nat) : LAt (upd H L (.lst (s.map fun n => V.int (n : Nat)))) L D S { m with stk := s } := by
  obtain ⟨n1, n2, n3⟩ := h.ne
  obtain ⟨n, h1, h2, h3⟩ := h
  exact ⟨n, upd_same, by rw [upd_ne (fun e => n1 e.symm)]; exact h2, by rw [upd_ne (fun e => n2 e.symm)]; exact h3⟩
theorem LAt.toD {H : Hp} {L D S : Addr} {m : Mc} (h : LAt H L D S m) (kv : List (Nat × Nat)) : LAt (upd H D (.dK (kvV kv))) L D S { m with kv := kv } := by
  obtain ⟨n1, n2, n3⟩ := h.ne
  obtain ⟨n, h1, h2, h3⟩ := h
  exact ⟨n, by rw [upd_ne n1]; exact h1, upd_same, by rw [upd_ne (fun e => n3 e.symm)]; exact h3⟩
theorem LAt.toS {H : Hp} {L D S : Addr} {m : Mc} (h : LAt H L D S m) (p d : Nat) : LAt (upd H S (.lst [.int (p : Nat), .int (d : Nat)])) L D S { m with pl := p, pd := d } := by
  obtain ⟨n1, n2, n3⟩ := h.ne
  obtain ⟨n, h1, h2, h3⟩ := h
  exact ⟨n, by rw [upd_ne n2]; exact h1, by rw [upd_ne n3]; exact h2, upd_same⟩
theorem Oth.u1 {H : Hp} {p D L : Addr} {o : HO} : Oth p D L H (upd H p o) := fun b u n1 _ _ e => by rw [upd_ne n1]; exact e
theorem Oth.u2 {H : Hp} {p D L : Addr} {o : HO} : Oth p D L H (upd H D o) := fun b u _ n1 _ e => by rw [upd_ne n1]; exact e
theorem Oth.u3 {H : Hp} {p D L : Addr} {o : HO} : Oth p D L H (upd H L o) := fun b u _ _ n1 e => by rw [upd_ne n1]; exact e
theorem last_of {l : List Nat} (h : l ≠ []) : ∃ s y, l = s ++ [y] ∧ l.dropLast = s ∧ l.getLast? = some y := by
  rcases List.eq_nil_or_concat l with e | ⟨s, y, e⟩
  · exact absurd e h
  · rw [List.concat_eq_append] at e
    exact ⟨s, y, e, by rw [e]; simp, by rw [e]; simp⟩
def actM (c t : Nat) (m : Mc) : Bool × Mc :=
  if c = 104 then (true, { m with stk := m.stk ++ [t] ++ [t] })
  else if c = 108 then (true, { m with stk := m.stk ++ [getN m.kv t] })
  else if c = 117 then (true, { m with stk := m.stk.dropLast, kv := putN m.kv t (m.stk.getLast?.getD 0) })
  else if c = 106 then (true, { m with pl := t })
  else if c = 102 then (true, if m.stk.getLast?.getD 0 = 0 then { m with stk := m.stk.dropLast, pl := t } else { m with stk := m.stk.dropLast })
  else if c = 121 then (true, { m with pd := m.pd + t })
  else (decide (t ≠ 0), m)
def spAct : Sp := fun vs H Q _ => ∃ (c t : Nat) (L D S : Addr) (m : Mc), vs = [.str ⟨#[c]⟩, .int (t : Nat), .ref L, .ref D, .ref S] ∧ (c = 104 ∨ c = 108 ∨ c = 117 ∨ c = 106 ∨ c = 102 ∨ c = 121 ∨ c = 111) ∧ (c = 117 ∨ c = 102 → m.stk ≠ []) ∧ LAt H L D S m ∧ m.stk.length ≤ 16 ∧ m.kv.length ≤ 7899 ∧
  ∀ H', LAt H' L D S (actM c t m).2 → Oth L D S H H' → Q (.bl (actM c t m).1) H'
theorem ok_law_act (T : Txt K mg a) : ∃ fd, FnOk P w K mg base CX0 1 a.d_law_act fd ["sign", "top", "stack", "store", "state"] spAct ∧ Binds K fd ["sign", "top", "stack", "store", "state"] [] := by
  obtain ⟨fd, F, b⟩ := T.d_law_act.F
  refine ⟨fd, F.ok sc_law_act (fun vs H Q E h => ?_) (fun cdv A outer s H vs Q E hr h => ?_), b⟩
  · obtain ⟨_, _, _, _, _, _, rfl, _⟩ := h
    rfl
  · obtain ⟨c, t, L, D, S, m, rfl, hc, hne, hm, lm, lk, k⟩ := h
    obtain ⟨nLD, nLS, nDS⟩ := hm.ne
    obtain ⟨-, hL, hD, hS⟩ := id hm
    refine ⟨_, (pss_cons (ps_if (pt_cmpR op_eq (pv 0) pe_str (nomark _))
      (pss_cons (ps_expr (pe_bm PySem.F.plainAttrs_list PySem.F.slot_list_append PySem.F.type_list_append mt_append (pv 2) (pa_cons (pv 1) pa_nil)))
        (pss_one (ps_expr (pe_bm PySem.F.plainAttrs_list PySem.F.slot_list_append PySem.F.type_list_append mt_append (pv 2) (pa_cons (pv 1) pa_nil)))))
      pss_nil)
      (pss_cons (ps_if (pt_cmpR op_eq (pv 0) pe_str (nomark _))
      (pss_one (ps_expr (pe_bm PySem.F.plainAttrs_list PySem.F.slot_list_append PySem.F.type_list_append mt_append (pv 2) (pa_cons (pe_dget2 (hu_of hr) (pv 3) (pv 1) pe_int ⟨rfl, rfl, rfl, rfl⟩) pa_nil))))
      pss_nil)
      (pss_cons (ps_if (pt_cmpR op_eq (pv 0) pe_str (nomark _))
      (pss_one (ps_dput (hu_of hr) (pv 3) (pv 1) (pe_bm0 PySem.F.plainAttrs_list PySem.F.slot_list_pop PySem.F.type_list_pop mt_pop (pv 2)) rfl))
      pss_nil)
      (pss_cons (ps_if (pt_cmpR op_eq (pv 0) pe_str (nomark _))
      (pss_one (ps_asg (pv 1) (pg_sub (pv 4) pe_int set_list)))
      pss_nil)
      (pss_cons (ps_if (PW.pt (pw_and (pt_cmpR op_eq (pv 0) pe_str (nomark _)) (pw_and1 (pt_cmpR op_eq (pe_bm0 PySem.F.plainAttrs_list PySem.F.slot_list_pop PySem.F.type_list_pop mt_pop (pv 2)) pe_int (nomark _)))))
      (pss_one (ps_asg (pv 1) (pg_sub (pv 4) pe_int set_list)))
      pss_nil)
      (pss_cons (ps_if (pt_cmpR op_eq (pv 0) pe_str (nomark _))
      (pss_one (ps_asg (pe_op op_add (pe_ix ix_list (pv 4) pe_int (fun _ _ => rfl)) (pv 1)) (pg_sub (pv 4) pe_int set_list)))
      pss_nil)
      (pss_one (ps_ret (pe_or (pe_cmpR op_ne (pv 0) pe_str (nomark _)) (pe_one (pe_cmpR op_ne (pv 1) pe_int (nomark _)))))))))))), ?_⟩
    have hl : (m.stk.map fun n => V.int (n : Nat)).length = m.stk.length := List.length_map ..
    have cat : ∀ x : Nat, (m.stk.map fun n => V.int (n : Nat)) ++ [V.int (x : Nat)] = (m.stk ++ [x]).map fun n => V.int (n : Nat) := fun x => by simp
    rcases hc with rfl | rfl | rfl | rfl | rfl | rfl | rfl
    · walk_at "rs"
      refine ⟨.inl ⟨rfl, _, SqL.of hL⟩, ?_⟩
      walk_at "rs"
      refine ⟨L, _, _, rfl, rfl, hL, by rw [hl]; exact small8000 (by omega), ?_⟩
      rw [cat]
      walk_at "rs"
      refine ⟨.inl ⟨rfl, _, SqL.of upd_same⟩, ?_⟩
      walk_at "rs"
      refine ⟨L, _, _, rfl, rfl, upd_same, by rw [List.length_map, List.length_append]; exact small8000 (by show m.stk.length + 1 ≤ _; omega), ?_⟩
      rw [upd_upd, show (m.stk ++ [t]).map (fun n : Nat => V.int (n : Nat)) ++ [V.int (t : Nat)] = (m.stk ++ [t] ++ [t]).map fun n : Nat => V.int (n : Nat) by simp]
      walk_at "rs"
      refine ite2 (fun _ => ?_) (fun h => absurd (by decide +kernel) h)
      exact k _ (hm.toL _) .u1
    · walk_at "rs"
      refine ⟨.inl ⟨rfl, _, SqL.of hL⟩, ?_⟩
      walk_at "rs"
      refine ⟨.inl ⟨_, .of hD⟩, ?_⟩
      walk_at "rs"
      refine ⟨_, DGet.k (k := Sum.inl (t : Int)) hD, ?_⟩
      rw [get_kv]
      refine ⟨L, _, _, rfl, rfl, hL, by rw [hl]; exact small8000 (by omega), ?_⟩
      rw [cat]
      walk_at "rs"
      refine ite2 (fun _ => ?_) (fun h => absurd (by decide +kernel) h)
      exact k _ (hm.toL _) .u1
    · obtain ⟨s, y, e1, e2, e3⟩ := last_of (hne (.inl rfl))
      have ea : actM 117 t m = (true, { m with stk := s, kv := putN m.kv t y }) := by
        show (true, { m with stk := m.stk.dropLast, kv := putN m.kv t (m.stk.getLast?.getD 0) }) = _
        rw [e2, e3]
        rfl
      rw [ea] at k
      walk_at "rs"
      refine ⟨.inl ⟨rfl, _, SqL.of hL⟩, ?_⟩
      refine ⟨L, _, .int (y : Nat), rfl, rfl, hL, by rw [e1]; simp, ?_⟩
      rw [show (m.stk.map fun n : Nat => V.int (n : Nat)).dropLast = s.map fun n : Nat => V.int (n : Nat) by rw [e1]; simp]
      have h2 := hm.toL s
      walk_at "rs"
      refine ⟨D, _, rfl, DPut.k (k := Sum.inl (t : Int)) h2.2.2.1 (by rw [len_kv]; exact small8000 (by show m.kv.length ≤ _; omega)), ?_⟩
      rw [put_kv]
      walk_at "rs"
      refine ite2 (fun _ => ?_) (fun h => absurd (by decide +kernel) h)
      exact k _ (h2.toD _) (Oth.trans .u1 .u2)
    · walk_at "rs"
      refine ⟨S, _, _, 0, rfl, rfl, hS, rfl, ?_⟩
      walk_at "rs"
      refine ite2 (fun _ => ?_) (fun h => absurd (by decide +kernel) h)
      exact k _ (hm.toS t m.pd) .u3
    · obtain ⟨s, y, e1, e2, e3⟩ := last_of (hne (.inr rfl))
      have ea : actM 102 t m = (true, if y = 0 then { m with stk := s, pl := t } else { m with stk := s }) := by
        show (true, if m.stk.getLast?.getD 0 = 0 then { m with stk := m.stk.dropLast, pl := t } else { m with stk := m.stk.dropLast }) = _
        rw [e2, e3]
        rfl
      rw [ea] at k
      walk_at "rs"
      refine ⟨.inl ⟨rfl, _, SqL.of hL⟩, ?_⟩
      refine ⟨L, _, .int (y : Nat), rfl, rfl, hL, by rw [e1]; simp, ?_⟩
      rw [show (m.stk.map fun n : Nat => V.int (n : Nat)).dropLast = s.map fun n : Nat => V.int (n : Nat) by rw [e1]; simp]
      have h2 := hm.toL s
      walk_at "rs"
      refine ite2 (fun c => ?_) (fun c => ?_)
      · have c : y = 0 := by
          have := V.int.inj (of_decide_eq_true c)
          omega
        rw [if_pos c] at k
        walk_at "rs"
        refine ⟨S, _, _, 0, rfl, rfl, h2.2.2.2, rfl, ?_⟩
        walk_at "rs"
        refine ite2 (fun _ => ?_) (fun h => absurd (by decide +kernel) h)
        exact k _ (h2.toS t m.pd) (Oth.trans .u1 .u3)
      · have c : ¬ y = 0 := fun h => c (decide_eq_true (by rw [h]; rfl))
        rw [if_neg c] at k
        walk_at "rs"
        refine ite2 (fun _ => ?_) (fun h => absurd (by decide +kernel) h)
        exact k _ h2 .u1
    · walk_at "rs"
      refine ⟨S, _, 1, .int (m.pd : Nat), rfl, rfl, SqL.of hS, rfl, ?_⟩
      walk_at "rs"
      refine ⟨S, _, _, 1, rfl, rfl, hS, rfl, ?_⟩
      walk_at "rs"
      refine ite2 (fun _ => ?_) (fun h => absurd (by decide +kernel) h)
      refine k _ (hm.toS m.pl (m.pd + t)) .u3
    · have e : (!decide (V.int (t : Int) = V.int 0)) = decide (t ≠ 0) := by
        by_cases h : t = 0
        · rw [h]
          rfl
        · rw [decide_eq_false (fun e => h (by have := V.int.inj e; omega)), decide_eq_true h]
          rfl
      walk_at "rs"
      rw [e]
      exact k _ hm .rfl


def Alph (c : Nat) : Prop := c ∈ TL.tl "0123456789ginasmtcehlujfyo"
theorem alph_iff (c : Nat) : Alph c ↔ (48 ≤ c ∧ c ≤ 57) ∨ (c = 103 ∨ c = 105 ∨ c = 110) ∨ (c = 97 ∨ c = 115 ∨ c = 109 ∨ c = 116 ∨ c = 99 ∨ c = 101) ∨ (c = 104 ∨ c = 108 ∨ c = 117 ∨ c = 106 ∨ c = 102 ∨ c = 121 ∨ c = 111) := by
  unfold Alph
  rw [show TL.tl "0123456789ginasmtcehlujfyo" = [48, 49, 50, 51, 52, 53, 54, 55, 56, 57, 103, 105, 110, 97, 115, 109, 116, 99, 101, 104, 108, 117, 106, 102, 121, 111] by decide +kernel]
  simp only [List.mem_cons, List.not_mem_nil, or_false]
  omega
theorem in_dig (c : Nat) : c ∈ TL.tl "0123456789" ↔ 48 ≤ c ∧ c ≤ 57 := by
  rw [show TL.tl "0123456789" = [48, 49, 50, 51, 52, 53, 54, 55, 56, 57] by decide +kernel]
  simp only [List.mem_cons, List.not_mem_nil, or_false]
  omega
theorem in_gin (c : Nat) : c ∈ TL.tl "gin" ↔ c = 103 ∨ c = 105 ∨ c = 110 := by
  rw [show TL.tl "gin" = [103, 105, 110] by decide +kernel]
  simp only [List.mem_cons, List.not_mem_nil, or_false]
theorem in_six (c : Nat) : c ∈ TL.tl "asmtce" ↔ c = 97 ∨ c = 115 ∨ c = 109 ∨ c = 116 ∨ c = 99 ∨ c = 101 := by
  rw [show TL.tl "asmtce" = [97, 115, 109, 116, 99, 101] by decide +kernel]
  simp only [List.mem_cons, List.not_mem_nil, or_false]
theorem need_eq (c : Nat) : needM c = if (48 ≤ c ∧ c ≤ 57) ∨ c = 103 ∨ c = 105 ∨ c = 110 then 0 else if (c = 97 ∨ c = 115 ∨ c = 109 ∨ c = 116 ∨ c = 99 ∨ c = 101) ∨ c = 117 ∨ c = 102 then 2 else 1 := by
  unfold needM
  have e1 : c ∈ TL.tl "0123456789gin" ↔ (48 ≤ c ∧ c ≤ 57) ∨ c = 103 ∨ c = 105 ∨ c = 110 := by
    rw [show TL.tl "0123456789gin" = [48, 49, 50, 51, 52, 53, 54, 55, 56, 57, 103, 105, 110] by decide +kernel]
    simp only [List.mem_cons, List.not_mem_nil, or_false]
    omega
  have e2 : c ∈ TL.tl "asmtceuf" ↔ (c = 97 ∨ c = 115 ∨ c = 109 ∨ c = 116 ∨ c = 99 ∨ c = 101) ∨ c = 117 ∨ c = 102 := by
    rw [show TL.tl "asmtceuf" = [97, 115, 109, 116, 99, 101, 117, 102] by decide +kernel]
    simp only [List.mem_cons, List.not_mem_nil, or_false]
    omega
  simp only [e1, e2]
theorem perf_dig {G : Gv} {c : Nat} (m : Mc) (h : 48 ≤ c ∧ c ≤ 57) : performM G c m = pushM (c - 48) m := if_pos h
theorem perf_num {G : Gv} {c : Nat} (m : Mc) (h : c = 103 ∨ c = 105 ∨ c = 110) : performM G c m = numberM G c m := by
  unfold performM
  rw [if_neg (by omega), if_pos h]
theorem perf_six {G : Gv} {c : Nat} (m : Mc) (h : c = 97 ∨ c = 115 ∨ c = 109 ∨ c = 116 ∨ c = 99 ∨ c = 101) : performM G c m = combineM c m := by
  unfold performM
  rw [if_neg (by omega), if_neg (by omega), if_pos h]
theorem perf_move {G : Gv} {c : Nat} (m : Mc) (h : c = 104 ∨ c = 108 ∨ c = 117) : performM G c m = moveM c m := by
  unfold performM
  rw [if_neg (by omega), if_neg (by omega), if_neg (by omega), if_pos h]
theorem perf_jump {G : Gv} {c : Nat} (m : Mc) (h : c = 106 ∨ c = 102) : performM G c m = jumpM c m := by
  unfold performM
  rw [if_neg (by omega), if_neg (by omega), if_neg (by omega), if_neg (by omega), if_pos h]
theorem perf_settle {G : Gv} {c : Nat} (m : Mc) (h : c = 121 ∨ c = 111) : performM G c m = settleM c m := by
  unfold performM
  rw [if_neg (by omega), if_neg (by omega), if_neg (by omega), if_neg (by omega), if_neg (by omega)]
theorem need_none {G : Gv} {c : Nat} {m : Mc} (ha : Alph c) (h : m.stk.length < needM c) : performM G c m = none := by
  rw [need_eq] at h
  have one : ∀ {g : Nat × Mc → Option Mc}, m.stk = [] → (takeM m).bind g = none := fun e => by rw [take_nil e]; rfl
  have nil : m.stk.length < 1 → m.stk = [] := fun h => List.eq_nil_of_length_eq_zero (by omega)
  have two : ∀ {g : Nat × Mc → Option Mc}, m.stk.length < 2 → (∀ x : Nat × Mc, x.2.stk = [] → g x = none) → (takeM m).bind g = none := fun {g} h2 hg => by
    rcases List.eq_nil_or_concat m.stk with e | ⟨s, t, e⟩
    · exact one e
    · rw [List.concat_eq_append] at e
      rw [take_at e]
      refine hg _ ?_
      rw [e, List.length_append, List.length_singleton] at h2
      exact List.eq_nil_of_length_eq_zero (by show s.length = 0; omega)
  rcases (alph_iff c).mp ha with d | d | d | d
  · rw [if_pos (.inl d)] at h
    omega
  · rw [if_pos (.inr d)] at h
    omega
  · rw [if_neg (by omega), if_pos (.inl d)] at h
    rw [perf_six m d]
    exact two h fun x hx => by rw [take_nil hx]; rfl
  · rcases d with d | d | d | d | d | d | d
    · rw [if_neg (by omega), if_neg (by omega)] at h
      rw [perf_move m (by omega)]
      exact one (nil h)
    · rw [if_neg (by omega), if_neg (by omega)] at h
      rw [perf_move m (by omega)]
      exact one (nil h)
    · rw [if_neg (by omega), if_pos (by omega)] at h
      rw [perf_move m (by omega)]
      exact two h fun x hx => by rw [if_neg (by omega), if_neg (by omega), take_nil hx]; rfl
    · rw [if_neg (by omega), if_neg (by omega)] at h
      rw [perf_jump m (by omega)]
      exact one (nil h)
    · rw [if_neg (by omega), if_pos (by omega)] at h
      rw [perf_jump m (by omega)]
      exact two h fun x hx => by rw [if_neg (by omega), take_nil hx]; rfl
    · rw [if_neg (by omega), if_neg (by omega)] at h
      rw [perf_settle m (by omega)]
      exact one (nil h)
    · rw [if_neg (by omega), if_neg (by omega)] at h
      rw [perf_settle m (by omega)]
      exact one (nil h)
theorem act_perf {G : Gv} {c t : Nat} {m : Mc} {s : List Nat} (hc : c = 104 ∨ c = 108 ∨ c = 117 ∨ c = 106 ∨ c = 102 ∨ c = 121 ∨ c = 111) (e : m.stk = s ++ [t]) (hn : c = 117 ∨ c = 102 → s ≠ []) (f : Fit m) (hv : ∀ x ∈ m.kv, x.2 < 1000000) :
    performM G c m = if (actM c t { m with stk := s }).1 = true ∧ (actM c t { m with stk := s }).2.stk.length ≤ 16 then some (actM c t { m with stk := s }).2 else none := by
  have ls : s.length ≤ 15 := by
    have := f.1
    rw [e, List.length_append, List.length_singleton] at this
    omega
  have lt : t < 1000000 := f.2.2 t (by rw [e]; simp)
  have mt : t % 1000000 = t := Nat.mod_eq_of_lt lt
  rcases hc with rfl | rfl | rfl | rfl | rfl | rfl | rfl
  · rw [perf_move m (by omega)]
    unfold moveM
    rw [take_at e]
    show (pushM t { m with stk := s }).bind (pushM t) = if true = true ∧ (s ++ [t] ++ [t]).length ≤ 16 then some { m with stk := s ++ [t] ++ [t] } else none
    rw [show pushM t { m with stk := s } = some { m with stk := s ++ [t % 1000000] } from if_neg (by show ¬ 16 ≤ s.length; omega), mt]
    show (if 16 ≤ (s ++ [t]).length then none else some { m with stk := s ++ [t] ++ [t % 1000000] }) = _
    rw [mt]
    by_cases h : 16 ≤ (s ++ [t]).length
    · rw [if_pos h, if_neg (by rw [List.length_append (as := s ++ [t])]; simp only [List.length_singleton]; omega)]
    · rw [if_neg h, if_pos ⟨rfl, by rw [List.length_append (as := s ++ [t])]; simp only [List.length_singleton]; omega⟩]
  · rw [perf_move m (by omega)]
    unfold moveM
    rw [take_at e]
    show pushM (getN m.kv t) { m with stk := s } = if true = true ∧ (s ++ [getN m.kv t]).length ≤ 16 then some { m with stk := s ++ [getN m.kv t] } else none
    rw [if_pos ⟨rfl, by rw [List.length_append, List.length_singleton]; omega⟩]
    rw [show pushM (getN m.kv t) { m with stk := s } = some { m with stk := s ++ [getN m.kv t % 1000000] } from if_neg (by show ¬ 16 ≤ s.length; omega), Nat.mod_eq_of_lt (get_lt hv t)]
  · obtain ⟨s2, y, e1, e2, e3⟩ := last_of (hn (.inl rfl))
    rw [perf_move m (by omega)]
    unfold moveM
    rw [take_at e]
    show (takeM { m with stk := s }).map (fun y => { y.2 with kv := putN y.2.kv t y.1 }) = if true = true ∧ s.dropLast.length ≤ 16 then some { m with stk := s.dropLast, kv := putN m.kv t (s.getLast?.getD 0) } else none
    rw [take_at (m := { m with stk := s }) e1, e2, e3, if_pos ⟨rfl, by rw [e1, List.length_append, List.length_singleton] at ls; omega⟩]
    rfl
  · rw [perf_jump m (by omega)]
    unfold jumpM
    rw [take_at e]
    show some { m with stk := s, pl := t } = if true = true ∧ s.length ≤ 16 then some { m with stk := s, pl := t } else none
    rw [if_pos ⟨rfl, by omega⟩]
  · obtain ⟨s2, y, e1, e2, e3⟩ := last_of (hn (.inr rfl))
    rw [perf_jump m (by omega)]
    unfold jumpM
    rw [take_at e]
    show (takeM { m with stk := s }).map (fun y => if y.1 = 0 then { y.2 with pl := t } else y.2) = if true = true ∧ (if s.getLast?.getD 0 = 0 then ({ m with stk := s.dropLast, pl := t } : Mc) else { m with stk := s.dropLast }).stk.length ≤ 16 then some (if s.getLast?.getD 0 = 0 then ({ m with stk := s.dropLast, pl := t } : Mc) else { m with stk := s.dropLast }) else none
    rw [take_at (m := { m with stk := s }) e1, e2, e3]
    have l2 : s2.length ≤ 16 := by rw [e1, List.length_append, List.length_singleton] at ls; omega
    show some (if y = 0 then ({ m with stk := s2, pl := t } : Mc) else { m with stk := s2 }) = if true = true ∧ (if y = 0 then ({ m with stk := s2, pl := t } : Mc) else { m with stk := s2 }).stk.length ≤ 16 then some (if y = 0 then ({ m with stk := s2, pl := t } : Mc) else { m with stk := s2 }) else none
    by_cases h : y = 0
    · rw [if_pos h, if_pos ⟨rfl, l2⟩]
    · rw [if_neg h, if_pos ⟨rfl, l2⟩]
  · rw [perf_settle m (by omega)]
    unfold settleM
    rw [take_at e]
    show some { m with stk := s, pd := m.pd + t } = if true = true ∧ s.length ≤ 16 then some { m with stk := s, pd := m.pd + t } else none
    rw [if_pos ⟨rfl, by omega⟩]
  · rw [perf_settle m (by omega)]
    unfold settleM
    rw [take_at e]
    show (if t = 0 then none else some { m with stk := s }) = if decide (t ≠ 0) = true ∧ s.length ≤ 16 then some { m with stk := s } else none
    by_cases h : t = 0
    · rw [if_pos h, if_neg (by rw [decide_eq_true_iff]; exact fun z => z.1 h)]
    · rw [if_neg h, if_pos ⟨decide_eq_true h, by omega⟩]
def spLSign : Sp := fun vs H Q _ => ∃ (c : Nat) (G : Gv) (L D S : Addr) (m : Mc), vs = [.str ⟨#[c]⟩, .int (G.given : Nat), .int (G.amount : Nat), .ref L, .ref D, .ref S] ∧ Alph c ∧ LAt H L D S m ∧ Fit m ∧ m.kv.length ≤ 7899 ∧ (∀ x ∈ m.kv, x.2 < 1000000) ∧ G.given < 1000000 ∧ G.amount < 1000000 ∧
  (∀ m' H', performM G c m = some m' → LAt H' L D S m' → Oth L D S H H' → Q (.bl true) H') ∧ (performM G c m = none → ∀ H', Oth L D S H H' → Q (.bl false) H')


theorem ok_law_sign (T : Txt K mg a) : ∃ fd, FnOk P w K mg base CX0 2 a.d_law_sign fd ["sign", "given", "amount", "stack", "store", "state"] spLSign ∧ Binds K fd ["sign", "given", "amount", "stack", "store", "state"] [] := by
  obtain ⟨fd, F, b⟩ := T.d_law_sign.F
  obtain ⟨fd_law_need, G_law_need, b_law_need⟩ := ok_law_need (P := P) (w := w) (base := base) T
  obtain ⟨fd_law_act, G_law_act, b_law_act⟩ := ok_law_act (P := P) (w := w) (base := base) T
  obtain ⟨fd_law_reckon, G_law_reckon, b_law_reckon⟩ := ok_law_reckon (P := P) (w := w) (base := base) T
  refine ⟨fd, F.ok sc_law_sign (fun vs H Q E h => ?_) (fun cdv A outer s H vs Q E hr h => ?_), b⟩
  · obtain ⟨_, _, _, _, _, _, rfl, _⟩ := h
    rfl
  · obtain ⟨c, G, L, D, S, m, rfl, hc, hm, hf, few, hv, g1, g2, k1, k2⟩ := h
    obtain ⟨nLD, nLS, nDS⟩ := hm.ne
    obtain ⟨-, hL, hD, hS⟩ := id hm
    have hl : (m.stk.map fun n => V.int (n : Nat)).length = m.stk.length := List.length_map ..
    have cat : ∀ x : Nat, (m.stk.map fun n => V.int (n : Nat)) ++ [V.int (x : Nat)] = (m.stk ++ [x]).map fun n => V.int (n : Nat) := fun x => by simp
    refine ⟨_, (pss_cons (ps_if (pt_cmpR op_lt (pe_callB call_len_seq (by rfl) T.n_len PySem.boot_len (pa_cons (pv 3) pa_nil)) (pe_call G_law_need (hr.mono (by decide)) rfl T.d_law_need.g T.d_law_need.kp b_law_need .nil pass0 (pa_cons (pv 0) pa_nil)) (nomark _))
      (pss_one (ps_ret pe_bl))
      pss_nil)
      (pss_cons (ps_if (pt_cmpR op_in_sign (pv 0) pe_str (by rfl))
      (pss_cons (ps_expr (pe_bm PySem.F.plainAttrs_list PySem.F.slot_list_append PySem.F.type_list_append mt_append (pv 3) (pa_cons (pe_callTy call_int_str (by rfl) T.n_int (by decide +kernel) (pa_cons (pv 0) pa_nil)) pa_nil)))
        (pss_one (ps_ret (pe_cmpR op_le (pe_callB call_len_seq (by rfl) T.n_len PySem.boot_len (pa_cons (pv 3) pa_nil)) pe_int (nomark _)))))
      pss_nil)
      (pss_cons (ps_if (pt_cmpR op_in_sign (pv 0) pe_str (by rfl))
      (pss_cons (ps_expr (pe_bm PySem.F.plainAttrs_list PySem.F.slot_list_append PySem.F.type_list_append mt_append (pv 3) (pa_cons (pe_op op_mod (pe_callTy call_int1 (by rfl) T.n_int (by decide +kernel) (pa_cons (pe_ix ix_tup (pe_tup (pa_cons (pv 1) (pa_cons (pv 2) (pa_cons (pe_callB call_len_seq (by rfl) T.n_len PySem.boot_len (pa_cons (pv 3) pa_nil)) pa_nil)))) (pe_bm PySem.F.plainAttrs_str PySem.F.slot_str_index PySem.F.type_str_index mt_sindex pe_str (pa_cons (pv 0) pa_nil)) (fun _ _ => rfl)) pa_nil)) pe_int) pa_nil)))
        (pss_one (ps_ret (pe_cmpR op_le (pe_callB call_len_seq (by rfl) T.n_len PySem.boot_len (pa_cons (pv 3) pa_nil)) pe_int (nomark _)))))
      pss_nil)
      (pss_cons (ps_set (i := 6) sc_law_sign.nd rfl (Or.inl rfl) (pe_bm0 PySem.F.plainAttrs_list PySem.F.slot_list_pop PySem.F.type_list_pop mt_pop (pv 3)))
      (pss_cons (ps_if (pt_cmpR op_in_sign (pv 0) pe_str (by rfl))
      (pss_cons (ps_set (i := 7) sc_law_sign.nd rfl (Or.inl rfl) (pe_bm0 PySem.F.plainAttrs_list PySem.F.slot_list_pop PySem.F.type_list_pop mt_pop (pv 3)))
        (pss_cons (ps_expr (pe_bm PySem.F.plainAttrs_list PySem.F.slot_list_append PySem.F.type_list_append mt_append (pv 3) (pa_cons (pe_op op_mod (pe_callTy call_int1 (by rfl) T.n_int (by decide +kernel) (pa_cons (pe_call G_law_reckon (hr.mono (by decide)) rfl T.d_law_reckon.g T.d_law_reckon.kp b_law_reckon .nil pass0 (pa_cons (pv 0) (pa_cons (pv 7) (pa_cons (pv 6) pa_nil)))) pa_nil)) pe_int) pa_nil)))
        (pss_one (ps_ret pe_bl))))
      pss_nil)
      (pss_one (ps_ret (pe_and (pe_call G_law_act (hr.mono (by decide)) rfl T.d_law_act.g T.d_law_act.kp b_law_act .nil pass0 (pa_cons (pv 0) (pa_cons (pv 6) (pa_cons (pv 3) (pa_cons (pv 4) (pa_cons (pv 5) pa_nil)))))) (pe_one (pe_cmpR op_le (pe_callB call_len_seq (by rfl) T.n_len PySem.boot_len (pa_cons (pv 3) pa_nil)) pe_int (nomark _))))))))))), ?_⟩
    walk_at "rs"
    refine ⟨L, _, rfl, .inl (SqL.of hL), ?_⟩
    walk_at "rs"
    rw [hl]
    refine ite2 (fun c1 => ?_) (fun c1 => ?_)
    · have c1 := of_decide_eq_true c1
      exact k2 (need_none hc (by omega)) H .rfl
    have c1 : needM c ≤ m.stk.length := by
      have : ¬ m.stk.length < needM c := fun h => c1 (decide_eq_true (by omega))
      omega
    rw [need_eq] at c1
    walk_at "rs"
    have full : ∀ (v : Nat) (H1 : Hp), LAt H1 L D S m → Oth L D S H H1 → performM G c m = pushM v m → v < 1000000 → Q (.bl (decide ((((m.stk.map fun n => V.int (n : Nat)).length + 1 : Nat) : Int) ≤ 16))) (upd H1 L (.lst ((m.stk.map fun n => V.int (n : Nat)) ++ [V.int (v : Nat)]))) := fun v H1 h1 o1 e lv => by
      rw [cat, hl]
      unfold pushM at e
      by_cases h : 16 ≤ m.stk.length
      · rw [if_pos h] at e
        rw [decide_eq_false (by omega)]
        exact k2 e _ (o1.trans .u1)
      · rw [if_neg h, Nat.mod_eq_of_lt lv] at e
        rw [decide_eq_true (by omega)]
        exact k1 _ _ e (h1.toL _) (o1.trans .u1)
    refine ite2 (fun c2 => ?_) (fun c2 => ?_)
    · have c2 := (in_dig c).mp (of_decide_eq_true c2)
      walk_at "rs"
      refine ⟨.inl ⟨rfl, _, SqL.of hL⟩, ?_⟩
      walk_at "rs"
      have hall : NumText.AllDigits [c] := fun n hn => by
        rw [List.mem_singleton.mp hn]
        exact c2
      refine ⟨_, _, rfl, PySem.intText_digits (x := ⟨#[c]⟩) hall (fun e => nomatch e) (by show 1 ≤ _; decide), (by show 1 ≤ 640; decide), ?_⟩
      refine ⟨L, _, _, rfl, rfl, hL, by rw [hl]; exact small1000 (by have := hf.1; omega), ?_⟩
      walk_at "rs"
      refine ⟨L, _, rfl, .inl (SqL.of upd_same), ?_⟩
      rw [show NumText.digitsVal (Array.toList (Str.cps ⟨#[c]⟩)) = c - 48 by simp [NumText.digitsVal], List.length_append]
      walk_at "rs"
      exact full (c - 48) H hm .rfl (perf_dig m c2) (by omega)
    have c2 : ¬ (48 ≤ c ∧ c ≤ 57) := fun h => c2 (decide_eq_true ((in_dig c).mpr h))
    walk_at "rs"
    refine ite2 (fun c3 => ?_) (fun c3 => ?_)
    · have c3 := (in_gin c).mp (of_decide_eq_true c3)
      walk_at "rs"
      refine ⟨.inl ⟨rfl, _, SqL.of hL⟩, ?_⟩
      walk_at "rs"
      refine ⟨L, _, rfl, .inl (SqL.of hL), ?_⟩
      walk_at "rs"
      refine ⟨(by show 3 ≤ sizeLine; decide), fun p np => ?_⟩
      have hm2 : LAt (upd H p (.tup [.int (G.given : Nat), .int (G.amount : Nat), .int (m.stk.length : Nat)])) L D S m := by
        obtain ⟨n, h1, h2, h3⟩ := hm
        exact ⟨n, by rw [upd_ne (ne_of_none h1 np)]; exact h1, by rw [upd_ne (ne_of_none h2 np)]; exact h2, by rw [upd_ne (ne_of_none h3 np)]; exact h3⟩
      have o2 : Oth L D S H (upd H p (.tup [.int (G.given : Nat), .int (G.amount : Nat), .int (m.stk.length : Nat)])) := fun b u _ _ _ e => by
        rw [upd_ne (ne_of_none e np)]
        exact e
      have tu : SqT K (upd H p (.tup [.int (G.given : Nat), .int (G.amount : Nat), .int (m.stk.length : Nat)])) p [.int (G.given : Nat), .int (G.amount : Nat), .int (m.stk.length : Nat)] := SqT.of upd_same
      have lm : m.stk.length ≤ 16 := hf.1
      rw [hl]
      generalize upd H p (.tup [.int (G.given : Nat), .int (G.amount : Nat), .int (m.stk.length : Nat)]) = H2 at hm2 o2 tu ⊢
      rcases c3 with rfl | rfl | rfl
      · walk_at "rs"
        refine ⟨_, _, 0, [], rfl, rfl, by decide +kernel, ?_⟩
        refine ⟨p, _, 0, .int (G.given : Nat), rfl, rfl, tu, rfl, ?_⟩
        walk_at "rs"
        refine ⟨L, _, _, rfl, rfl, hm2.2.1, by rw [hl]; exact small1000 (by omega), ?_⟩
        walk_at "rs"
        refine ⟨L, _, rfl, .inl (SqL.of upd_same), ?_⟩
        dsimp only
        rw [show ((G.given : Nat) : Int) % 1000000 = ((G.given : Nat) : Int) by omega, List.length_append]
        walk_at "rs"
        exact full (G.given) H2 hm2 o2 (perf_num m (by omega)) (by omega)
      · walk_at "rs"
        refine ⟨_, _, 1, [], rfl, rfl, by decide +kernel, ?_⟩
        refine ⟨p, _, 1, .int (G.amount : Nat), rfl, rfl, tu, rfl, ?_⟩
        walk_at "rs"
        refine ⟨L, _, _, rfl, rfl, hm2.2.1, by rw [hl]; exact small1000 (by omega), ?_⟩
        walk_at "rs"
        refine ⟨L, _, rfl, .inl (SqL.of upd_same), ?_⟩
        dsimp only
        rw [show ((G.amount : Nat) : Int) % 1000000 = ((G.amount : Nat) : Int) by omega, List.length_append]
        walk_at "rs"
        exact full (G.amount) H2 hm2 o2 (perf_num m (by omega)) (by omega)
      · walk_at "rs"
        refine ⟨_, _, 2, [], rfl, rfl, by decide +kernel, ?_⟩
        refine ⟨p, _, 2, .int (m.stk.length : Nat), rfl, rfl, tu, rfl, ?_⟩
        walk_at "rs"
        refine ⟨L, _, _, rfl, rfl, hm2.2.1, by rw [hl]; exact small1000 (by omega), ?_⟩
        walk_at "rs"
        refine ⟨L, _, rfl, .inl (SqL.of upd_same), ?_⟩
        dsimp only
        rw [show ((m.stk.length : Nat) : Int) % 1000000 = ((m.stk.length : Nat) : Int) by omega, List.length_append]
        walk_at "rs"
        exact full (m.stk.length) H2 hm2 o2 (perf_num m (by omega)) (by omega)
    have c3 : ¬ (c = 103 ∨ c = 105 ∨ c = 110) := fun h => c3 (decide_eq_true ((in_gin c).mpr h))
    obtain ⟨s, t, es⟩ : ∃ s t, m.stk = s ++ [t] := by
      rcases List.eq_nil_or_concat m.stk with e | ⟨s, t, e⟩
      · rw [e, if_neg (by omega)] at c1
        split at c1 <;> exact absurd c1 (by simp)
      · exact ⟨s, t, by rw [e, List.concat_eq_append]⟩
    have lt : t < 1000000 := hf.2.2 t (by rw [es]; simp)
    have ls : s.length ≤ 15 := by
      have := hf.1
      rw [es, List.length_append, List.length_singleton] at this
      omega
    have hm1 := hm.toL s
    have top : (m.stk.map fun n : Nat => V.int (n : Nat)).dropLast = s.map fun n : Nat => V.int (n : Nat) := by rw [es]; simp
    walk_at "rs"
    refine ⟨.inl ⟨rfl, _, SqL.of hL⟩, ?_⟩
    refine ⟨L, _, .int (t : Nat), rfl, rfl, hL, by rw [es]; simp, ?_⟩
    rw [top]
    walk_at "rs"
    refine ite2 (fun c4 => ?_) (fun c4 => ?_)
    · have c4 := (in_six c).mp (of_decide_eq_true c4)
      walk_at "rs"
      obtain ⟨s2, l, e2⟩ : ∃ s2 l, s = s2 ++ [l] := by
        rcases List.eq_nil_or_concat s with e | ⟨s2, l, e⟩
        · rw [if_neg (by omega), if_pos (.inl c4), es, e] at c1
          simp at c1
        · exact ⟨s2, l, by rw [e, List.concat_eq_append]⟩
      have ll : l < 1000000 := hf.2.2 l (by rw [es, e2]; simp)
      have l2 : s2.length ≤ 14 := by
        rw [e2, List.length_append, List.length_singleton] at ls
        omega
      have ep : performM G c m = some { m with stk := s2 ++ [work c l t % 1000000] } := by
        rw [perf_six m c4]
        unfold combineM
        rw [take_at es]
        show (takeM { m with stk := s }).bind (fun y => pushM (work c y.1 t) y.2) = _
        rw [take_at (m := { m with stk := s }) e2]
        exact if_neg (by show ¬ 16 ≤ s2.length; omega)
      refine ⟨.inl ⟨rfl, _, SqL.of upd_same⟩, ?_⟩
      refine ⟨L, _, .int (l : Nat), rfl, rfl, upd_same, by rw [e2]; simp, ?_⟩
      rw [upd_upd, show (s.map fun n : Nat => V.int (n : Nat)).dropLast = s2.map fun n : Nat => V.int (n : Nat) by rw [e2]; simp]
      walk_at "rs"
      refine ⟨.inl ⟨rfl, _, SqL.of upd_same⟩, ?_⟩
      walk_at "rs"
      refine ⟨c, l, t, rfl, ll, lt, ?_⟩
      walk_at "rs"
      refine ⟨L, _, _, rfl, rfl, upd_same, by rw [List.length_map]; exact small1000 (by omega), ?_⟩
      rw [upd_upd, show (s2.map fun n : Nat => V.int (n : Nat)) ++ [V.int ((work c l t : Nat) % 1000000 : Int)] = (s2 ++ [work c l t % 1000000]).map fun n : Nat => V.int (n : Nat) by simp]
      exact k1 _ _ ep (hm.toL _) .u1
    have c4 : ¬ (c = 97 ∨ c = 115 ∨ c = 109 ∨ c = 116 ∨ c = 99 ∨ c = 101) := fun h => c4 (decide_eq_true ((in_six c).mpr h))
    have c5 : c = 104 ∨ c = 108 ∨ c = 117 ∨ c = 106 ∨ c = 102 ∨ c = 121 ∨ c = 111 := by
      rcases (alph_iff c).mp hc with d | d | d | d
      · exact absurd d c2
      · exact absurd d c3
      · exact absurd d c4
      · exact d
    have hn : c = 117 ∨ c = 102 → s ≠ [] := fun z e => by
      rw [if_neg (by omega), if_pos (by omega), es, e] at c1
      simp at c1
    have hp := act_perf (G := G) c5 es hn hf hv
    walk_at "rs"
    refine ⟨c, t, L, D, S, { m with stk := s }, rfl, c5, hn, hm1, by show s.length ≤ 16; omega, few, fun H' h' o' => ?_⟩
    have o2 : Oth L D S H H' := Oth.trans .u1 o'
    obtain ⟨-, hL2, -, -⟩ := id h'
    walk_at "rs"
    cases hb : (actM c t { m with stk := s }).1 with
    | false =>
      rw [hb, if_neg (fun z => nomatch z.1)] at hp
      exact k2 hp H' o2
    | true =>
      walk_at "rs"
      refine ⟨L, _, rfl, .inl (SqL.of hL2), ?_⟩
      walk_at "rs"
      rw [List.length_map]
      by_cases h : (actM c t { m with stk := s }).2.stk.length ≤ 16
      · rw [if_pos ⟨hb, h⟩] at hp
        have z := k1 _ H' hp h' o2
        rw [← decide_eq_true (p := ((actM c t { m with stk := s }).2.stk.length : Int) ≤ 16) (by omega)] at z
        exact z
      · rw [if_neg (fun z => h z.2)] at hp
        have z := k2 hp H' o2
        rw [← decide_eq_false (p := ((actM c t { m with stk := s }).2.stk.length : Int) ≤ 16) (by omega)] at z
        exact z

def spLRun : Sp := fun vs H Q _ => ∃ (d : Addr) (G : Gv) (kv : List (Nat × Nat)), vs = [.str G.code, .int (G.given : Nat), .int (G.amount : Nat), .ref d] ∧ H d = some (.dK (kvV kv)) ∧ kv.length ≤ 7000 ∧ (kv.map (·.1)).Nodup ∧ (∀ x ∈ kv, x.2 < 1000000) ∧ G.code.length ≤ 5000 ∧ (∀ c ∈ TL.tl G.code, Alph c) ∧ G.given < 1000000 ∧ G.amount < 1000000 ∧
  (∀ m' n, finM G 201 ⟨[], kv, 0, 0, 0⟩ = (some m', n) → ∀ (q S : Addr) (ys : List Nat) H', ys.Perm (m'.kv.map (·.1)) → ys.Pairwise (· ≤ ·) → Same H H' → H q = none → H S = none → H' S = some (.dK (kvV (pick ys m'.kv))) →
    H' q = some (.tup [.bl true, .ref S, .int (m'.pd : Nat), .int (m'.st : Nat)]) → Q (.ref q) H') ∧
  (∀ n, finM G 201 ⟨[], kv, 0, 0, 0⟩ = (none, n) → ∀ (q S : Addr) H', Same H H' → H q = none → H S = none → H' S = some (.dK (kvV kv)) → H' q = some (.tup [.bl false, .ref S, .int 0, .int (n : Nat)]) → Q (.ref q) H')
theorem ok_law_run (T : Txt K mg a) : ∃ fd, FnOk P w K mg base CX0 3 a.d_law_run fd ["code", "given", "amount", "store"] spLRun ∧ Binds K fd ["code", "given", "amount", "store"] [] := by
  obtain ⟨fd, F, b⟩ := T.d_law_run.F
  obtain ⟨fd_law_sign, G_law_sign, b_law_sign⟩ := ok_law_sign (P := P) (w := w) (base := base) T
  refine ⟨fd, F.ok sc_law_run (fun vs H Q E h => ?_) (fun cdv A outer s H vs Q E hr h => ?_), b⟩
  · obtain ⟨_, _, _, rfl, _⟩ := h
    rfl
  · obtain ⟨d, G, kv, rfl, hd, few, nd, hv, lc, al, g1, g2, k1, k2⟩ := h
    have ks := Keep.start nd few (by decide) hv
    obtain ⟨r, er⟩ : ∃ r, r = finM G 201 ⟨[], kv, 0, 0, 0⟩ := ⟨_, rfl⟩
    rw [← er] at k1 k2
    refine ⟨_, (pss_cons (ps_set (i := 4) sc_law_run.nd rfl (Or.inl rfl) (pe_lst pa_nil))
      (pss_cons (ps_set (i := 5) sc_law_run.nd rfl (Or.inl rfl) (pe_callTy call_dictD (by rfl) T.n_dict (by decide +kernel) (pa_cons (pv 3) pa_nil)))
      (pss_cons (ps_set (i := 6) sc_law_run.nd rfl (Or.inl rfl) (pe_lst (pa_cons pe_int (pa_cons pe_int pa_nil))))
      (pss_cons (ps_set (i := 7) sc_law_run.nd rfl (Or.inl rfl) pe_int)
      (pss_cons (ps_for PassesOwn.never rfl (pi_range1 rfl T.n_range (pa_cons pe_int pa_nil)) (pg_name (i := 8) sc_law_run.nd rfl (Or.inl rfl))
      (pss_cons (ps_if (pt_cmpR op_ge (pe_ix ix_list (pv 6) pe_int (fun _ _ => rfl)) (pe_callB call_len_str (by rfl) T.n_len PySem.boot_len (pa_cons (pv 0) pa_nil)) (nomark _))
        (pss_cons (ps_set (i := 9) sc_law_run.nd rfl (Or.inl rfl) pe_dnewK)
          (pss_cons (ps_for PassesOwn.never rfl (pi_list (pe_callB (cr_sortIs) (by rfl) T.n_sorted (by decide +kernel) (pa_cons (pe_lock (pe_lc (own := [("key", 10)]) (g := (gName 10)) (tt := tYes) rfl sc_law_run.nd (pi_keys (pv 5)) (blkOk_by (own := [("key", 10)]) (N := sc_law_run_N) (sc := defScope s_law_run) (by decide +kernel)) (fun _ _ _ _ _ => (pg_name (i := 10) sc_law_run.nd rfl (Or.inl rfl))) (fun _ _ _ _ _ => pts_nil) (fun _ _ _ _ _ => (pv 10)))) pa_nil))) (pg_name (i := 10) sc_law_run.nd rfl (Or.inl rfl))
          (pss_one (ps_if (pt_cmpR op_ne (pe_dget (hu_of hr) (pv 5) (pv 10) (fun _ _ => rfl)) pe_int (nomark _))
            (pss_one (ps_dput (hu_of hr) (pv 9) (pv 10) (pe_dget (hu_of hr) (pv 5) (pv 10) (fun _ _ => rfl)) rfl))
            pss_nil)))
          (pss_one (ps_ret (pe_tup (pa_cons pe_bl (pa_cons (pv 9) (pa_cons (pe_ix ix_list (pv 6) pe_int (fun _ _ => rfl)) (pa_cons (pv 7) pa_nil)))))))))
        pss_nil)
        (pss_cons (ps_if (pt_cmpR op_eq (pv 7) pe_int (nomark _))
        (pss_one (ps_ret (pe_tup (pa_cons pe_bl (pa_cons (pe_callTy call_dictD (by rfl) T.n_dict (by decide +kernel) (pa_cons (pv 3) pa_nil)) (pa_cons pe_int (pa_cons (pv 7) pa_nil)))))))
        pss_nil)
        (pss_cons (ps_set (i := 11) sc_law_run.nd rfl (Or.inl rfl) (pe_ix ix_str (pv 0) (pe_ix ix_list (pv 6) pe_int (fun _ _ => rfl)) (fun _ _ => rfl)))
        (pss_cons (ps_asg (pe_op op_add (pe_ix ix_list (pv 6) pe_int (fun _ _ => rfl)) pe_int) (pg_sub (pv 6) pe_int set_list))
        (pss_cons (ps_set (i := 7) sc_law_run.nd rfl (Or.inl rfl) (pe_op op_add (pv 7) pe_int))
        (pss_one (ps_if (pt_not (pt_truth (pe_call G_law_sign (hr.mono (by decide)) rfl T.d_law_sign.g T.d_law_sign.kp b_law_sign .nil pass0 (pa_cons (pv 11) (pa_cons (pv 1) (pa_cons (pv 2) (pa_cons (pv 4) (pa_cons (pv 5) (pa_cons (pv 6) pa_nil))))))) (by intro _; rfl)))
        (pss_one (ps_ret (pe_tup (pa_cons pe_bl (pa_cons (pe_callTy call_dictD (by rfl) T.n_dict (by decide +kernel) (pa_cons (pv 3) pa_nil)) (pa_cons pe_int (pa_cons (pv 7) pa_nil)))))))
        pss_nil))))))))
      (pss_one (ps_ret (pe_tup (pa_cons pe_bl (pa_cons (pe_callTy call_dictD (by rfl) T.n_dict (by decide +kernel) (pa_cons (pv 3) pa_nil)) (pa_cons pe_int (pa_cons (pv 7) pa_nil)))))))))))), ?_⟩
    walk_at "rs"
    refine ⟨(by show 0 ≤ sizeLine; decide), fun L hL => ?_⟩
    have s1 := same_new (o := .lst []) hL
    walk_at "rs"
    refine ⟨d, _, rfl, .of (s1 _ _ hd), fun D hD => ?_⟩
    have nD := s1.free hD
    have s2 := same_upd (o := .dK (kvV kv)) s1 nD
    have LD : L ≠ D := fun e => by rw [← e, upd_same] at hD; cases hD
    walk_at "rs"
    refine ⟨(by show 2 ≤ sizeLine; decide), fun S hS => ?_⟩
    have nS := s2.free hS
    have s3 := same_upd (o := .lst [.int 0, .int 0]) s2 nS
    have LS : L ≠ S := fun e => by rw [← e, upd_ne LD, upd_same] at hS; cases hS
    have DS : D ≠ S := fun e => by rw [← e, upd_same] at hS; cases hS
    have hm0 : LAt (upd (upd (upd H L (.lst [])) D (.dK (kvV kv))) S (.lst [.int 0, .int 0])) L D S ⟨[], kv, 0, 0, 0⟩ :=
      ⟨LS, by rw [upd_ne LS, upd_ne LD]; exact upd_same, by rw [upd_ne DS]; exact upd_same, upd_same⟩
    walk_at "rs"
    generalize upd (upd (upd H L (.lst [])) D (.dK (kvV kv))) S (.lst [.int 0, .int 0]) = H0 at hm0 s3 ⊢
    have on : ∀ {H1 H2 : Hp}, Same H H1 → Oth L D S H1 H2 → Same H H2 := fun {H1 H2} s1 o b u e => o b u (ne_of_none e hL) (ne_of_none e nD) (ne_of_none e nS) (s1 b u e)
    refine ⟨(by decide), (by decide), ?_⟩
    refine for_range (lo := 0) (n := 201) (fun i σ H2 => ∃ (m : Mc) (v8 v9 v10 v11 : Option V), σ = [some (.str G.code), some (.int (G.given : Nat)), some (.int (G.amount : Nat)), some (.ref d), some (.ref L), some (.ref D), some (.ref S), some (.int (m.st : Nat)), v8, v9, v10, v11] ∧
        m.st = i ∧ i ≤ 200 ∧ LAt H2 L D S m ∧ Keep 7000 m ∧ Same H H2 ∧ r = finM G (201 - i) m) ⟨_, _, _, _, _, rfl, rfl, Nat.zero_le _, hm0, ks, s3, er⟩ ?_ ?_
    · rintro i σ H2 hi ⟨m, v8, v9, v10, v11, rfl, rfl, i2, hm, hk, sm, e2⟩
      obtain ⟨nLD, nLS, nDS⟩ := hm.ne
      obtain ⟨-, hL2, hD2, hS2⟩ := id hm
      obtain ⟨f, ef⟩ : ∃ f, 201 - m.st = f + 1 := ⟨200 - m.st, by omega⟩
      rw [ef, finM] at e2
      have hd2 := sm _ _ hd
      have failed : ∀ {H3 : Hp} {q t : Addr} (n : Nat), Same H H3 → r = (none, n) → H3 q = none → upd H3 q (.dK (kvV kv)) t = none → Q (.ref t) (upd (upd H3 q (.dK (kvV kv))) t (.tup [.bl false, .ref q, .int 0, .int (n : Nat)])) := fun {H3 q t} n s e hq ht => by
        have s4 := same_upd (o := .dK (kvV kv)) s (s.free hq)
        have qt : q ≠ t := fun e => by rw [← e, upd_same] at ht; cases ht
        exact k2 n e t q _ (same_upd s4 (s4.free ht)) (s4.free ht) (s.free hq) (by rw [upd_ne qt]; exact upd_same) upd_same
      walk_at "rs"
      refine ⟨S, _, 0, .int (m.pl : Nat), rfl, rfl, SqL.of hS2, rfl, ?_⟩
      walk_at "rs"
      refine ⟨(by rw [sizeLine_eq]; omega), ?_⟩
      walk_at "rs"
      refine ite2 (fun c1 => ?_) (fun c1 => ?_)
      · have c1 : ¬ m.pl < G.code.length := by
          have := of_decide_eq_true c1
          omega
        rw [List.getElem?_eq_none (by rw [← TL.len_tl]; omega)] at e2
        replace e2 : r = (some m, m.st) := e2
        have small := hk.small (by decide) (by omega)
        have ndk := hk.2.1
        walk_at "rs"
        intro B hB
        have nB := sm.free hB
        have BD : D ≠ B := ne_of_none hD2 hB
        walk_at "rs"
        refine ⟨D, .dK (kvV m.kv), by rw [upd_ne BD]; exact hD2, trivial, fun od => ?_⟩
        walk_at "rs"
        refine ⟨D, od, rfl, .inl ⟨kvV m.kv, upd_same, fun R hR => ?_⟩⟩
        have RD : R ≠ D := fun e => by rw [e, upd_same] at hR; cases hR
        have nRb : upd H2 B (.dK []) R = none := by rw [upd_ne RD] at hR; exact hR
        have RB : R ≠ B := fun e => by rw [e, upd_same] at nRb; cases nRb
        have sB := same_upd (o := .dK []) sm nB
        have hDb : upd H2 B (.dK []) D = some (.dK (kvV m.kv)) := by rw [upd_ne BD]; exact hD2
        have hSb : upd H2 B (.dK []) S = some (.lst [.int (m.pl : Nat), .int (m.pd : Nat)]) := by rw [upd_ne (ne_of_none hS2 hB)]; exact hS2
        have hBb : upd H2 B (.dK []) B = some (.dK []) := upd_same
        generalize upd H2 B (.dK []) = Hb at nRb sB hDb hSb hBb ⊢
        refine lc_it walk_keys (fun i H3 => H3 D = some (.frz od (.dK (kvV m.kv))) ∧ H3 R = some (.lst ((m.kv.take i).map fun x => V.int (x.1 : Int))) ∧ ∀ b o, b ≠ D → Hb b = some o → H3 b = some o) ⟨by rw [upd_ne (fun e => RD e.symm)]; exact upd_same, upd_same, fun b o n e => by rw [upd_ne (ne_of_none e nRb), upd_ne n]; exact e⟩ (fun i H _ p => p.1) ?_ ?_
        · rintro i x H3 H3' hi ⟨a1, a2, a3⟩ ⟨rfl, k, v, hk, rfl⟩
          rw [len_kv] at hi
          obtain ⟨x, hx, rfl⟩ : ∃ x, m.kv[i]? = some x ∧ k = Sum.inl (x.1 : Int) := by
            unfold kvV at hk
            rw [List.getElem?_map] at hk
            cases h : m.kv[i]? with
            | none => rw [h] at hk; cases hk
            | some x =>
              rw [h] at hk
              have := Option.some.inj hk
              exact ⟨x, rfl, (Prod.mk.inj this).1.symm⟩
          refine ⟨rfl, ?_⟩
          walk_at "rs"
          refine ⟨_, a2, by rw [List.length_map]; exact small8000 (by have := List.length_take_le' i m.kv; omega), by rw [upd_ne (fun e => RD e.symm)]; exact a1, ?_, fun b o n e => ?_⟩
          · rw [upd_same, List.take_add_one, hx]
            simp [kV]
          · rw [upd_ne (ne_of_none e nRb)]
            exact a3 b o n e
        · rintro H3 ⟨a1, a2, a3⟩
          rw [len_kv, List.take_length] at a2
          refine ⟨a1, ?_⟩
          have sH4 : Same Hb (upd H3 D (.dK (kvV m.kv))) := fun b o e => by
            by_cases n : b = D
            · rw [n, upd_same]
              rw [n, hDb] at e
              exact e
            · rw [upd_ne n]
              exact a3 b o n e
          have hR4 : upd H3 D (.dK (kvV m.kv)) R = some (.lst ((m.kv.map fun x => (x.1 : Int)).map V.int)) := by
            rw [upd_ne RD, a2, List.map_map]
            rfl
          generalize upd H3 D (.dK (kvV m.kv)) = H4 at sH4 hR4 ⊢
          have lk : (m.kv.map fun x => (x.1 : Int)).length = m.kv.length := List.length_map ..
          walk_at "rs"
          refine ⟨R, m.kv.map fun x => (x.1 : Int), rfl, SqL.of hR4, fun zs q hperm hpw hq => ?_⟩
          obtain ⟨ys, rfl, yp, yw⟩ : ∃ ys : List Nat, zs = ys.map (fun n : Nat => (n : Int)) ∧ ys.Perm (m.kv.map (·.1)) ∧ ys.Pairwise (· ≤ ·) := by
            refine ⟨zs.map Int.toNat, ?_, ?_, ?_⟩
            · rw [List.map_map]
              conv => lhs; rw [← List.map_id zs]
              refine List.map_congr_left fun z hz => ?_
              obtain ⟨x, _, rfl⟩ := List.mem_map.mp (hperm.mem_iff.mp hz)
              rfl
            · have := hperm.map Int.toNat
              rw [List.map_map] at this
              exact this
            · rw [List.pairwise_map]
              exact hpw.imp fun h => Int.toNat_le_toNat h
          have nodys : ys.Nodup := yp.nodup_iff.mpr ndk
          have ly : ys.length = m.kv.length := by rw [yp.length_eq, List.length_map]
          have s5 := same_upd (o := .lst ((ys.map fun n : Nat => (n : Int)).map V.int)) sH4 (sH4.free hq)
          have hq5 : upd H4 q (.lst ((ys.map fun n : Nat => (n : Int)).map V.int)) q = some (.lst ((ys.map fun n : Nat => (n : Int)).map V.int)) := upd_same
          have hB5 := s5 _ _ hBb
          have hD5 := s5 _ _ hDb
          have hS5 := s5 _ _ hSb
          have nqB : q ≠ B := fun e => by rw [e, sH4 _ _ hBb] at hq; cases hq
          walk_at "rs"
          generalize upd H4 q (.lst ((ys.map fun n : Nat => (n : Int)).map V.int)) = H5 at s5 hq5 hB5 hD5 hS5 ⊢
          refine ⟨⟨_, SqL.of hq5⟩, ?_⟩
          refine for_list (K := K) (a := q) (xs := (ys.map fun n : Nat => (n : Int)).map V.int) (fun i σ H6 => ∃ v10 : Option V, σ = [some (.str G.code), some (.int (G.given : Nat)), some (.int (G.amount : Nat)), some (.ref d), some (.ref L), some (.ref D), some (.ref S), some (.int (m.st : Nat)), some (.int (0 + (m.st : Nat))), some (.ref B), v10, v11] ∧
              (∀ b o, b ≠ B → H5 b = some o → H6 b = some o) ∧ H6 B = some (.dK (kvV (pick (ys.take i) m.kv)))) ⟨_, rfl, fun b o _ e => e, hB5⟩ (fun i σ H6 _ ⟨_, _, fr, _⟩ => SqL.of (fr _ _ nqB hq5)) ?_ ?_
          · rintro i y σ H6 hy ⟨v10, rfl, fr, hB6⟩
            obtain ⟨k, hk, rfl⟩ : ∃ k, ys[i]? = some k ∧ y = V.int (k : Int) := by
              rw [List.getElem?_map, List.getElem?_map] at hy
              cases h : ys[i]? with
              | none => rw [h] at hy; cases hy
              | some k =>
                rw [h] at hy
                exact ⟨k, rfl, (Option.some.inj hy).symm⟩
            have hmem : k ∈ m.kv.map (·.1) := yp.mem_iff.mp (List.mem_of_getElem? hk)
            have hg6 : DGet H6 D (V.int (k : Int)) (some (V.int (getN m.kv k : Nat))) := by
              have := DGet.k (k := Sum.inl (k : Int)) (fr _ _ BD hD5)
              rw [val_mem hmem] at this
              exact this
            have pt := pick_take (kv := m.kv) hk
            walk_at "rs"
            refine ⟨D, _, rfl, hg6, ?_⟩
            walk_at "rs"
            refine ite2 (fun c => ?_) (fun c => ?_)
            · have c : getN m.kv k ≠ 0 := fun e => by
                rw [e] at c
                simp at c
              rw [if_pos c] at pt
              walk_at "rs"
              refine ⟨D, _, rfl, hg6, ?_⟩
              walk_at "rs"
              have lp : (pick (ys.take i) m.kv).length ≤ 7200 := by
                unfold pick
                rw [List.length_map]
                have h1 := List.length_filter_le (fun k => decide (getN m.kv k ≠ 0)) (ys.take i)
                have h2 := List.length_take_le' i ys
                omega
              refine ⟨B, _, rfl, DPut.k (k := Sum.inl (k : Int)) hB6 (by rw [len_kv]; exact small8000 (by omega)), ?_⟩
              refine ⟨_, rfl, fun b o n e => by rw [upd_ne n]; exact fr b o n e, ?_⟩
              rw [upd_same, put_kv, put_new (k := k) (fun x hx e => nodup_take nodys hk (by rw [← e]; exact pick_keys hx)), pt]
            · have c : ¬ getN m.kv k ≠ 0 := fun h => c (by simpa using h)
              rw [if_neg c] at pt
              refine ⟨_, rfl, fr, ?_⟩
              rw [pt]
              exact hB6
          · rintro σ H6 ⟨v10, rfl, fr, hB6⟩
            rw [List.take_of_length_le (by simp)] at hB6
            have s6 : Same H H6 := fun b o e => fr b o (ne_of_none e nB) (s5 b o (sB b o e))
            walk_at "rs"
            refine ⟨S, _, 1, .int (m.pd : Nat), rfl, rfl, SqL.of (fr _ _ (ne_of_none hS2 hB) hS5), rfl, ?_⟩
            walk_at "rs"
            refine ⟨(by show 4 ≤ sizeLine; decide), fun t ht => ?_⟩
            exact k1 m m.st e2 t B ys _ yp yw (same_upd s6 (s6.free ht)) (s6.free ht) nB (by rw [upd_ne (ne_of_none hB6 ht)]; exact hB6) upd_same
      have c1 : m.pl < G.code.length := by
        have : ¬ G.code.length ≤ m.pl := fun h => c1 (decide_eq_true (by omega))
        omega
      obtain ⟨c, eg⟩ : ∃ c, (TL.tl G.code)[m.pl]? = some c := ⟨_, List.getElem?_eq_getElem (by rw [← TL.len_tl]; exact c1)⟩
      rw [eg] at e2
      replace e2 : r = if m.st = 200 then (none, 200) else match performM G c { m with st := m.st + 1, pl := m.pl + 1 } with
        | none => (none, m.st + 1)
        | some m' => finM G f m' := e2
      have hc := al c (List.mem_of_getElem? eg)
      walk_at "rs"
      refine ite2 (fun c2 => ?_) (fun c2 => ?_)
      · have c2 : m.st = 200 := by
          have := V.int.inj (of_decide_eq_true c2)
          omega
        rw [if_pos c2] at e2
        walk_at "rs"
        rw [← c2] at e2
        refine ⟨d, kvV kv, rfl, .of hd2, fun q hq => ?_⟩
        walk_at "rs"
        exact ⟨(by show 4 ≤ sizeLine; decide), fun t ht => failed m.st sm e2 hq ht⟩
      have c2 : ¬ m.st = 200 := fun h => c2 (decide_eq_true (by rw [h]; rfl))
      rw [if_neg c2] at e2
      walk_at "rs"
      refine ⟨S, _, 0, .int (m.pl : Nat), rfl, rfl, SqL.of hS2, rfl, ?_⟩
      walk_at "rs"
      refine ⟨G.code, m.pl, c, rfl, rfl, (by rw [sizeLine_eq]; omega), atI_nat eg, ?_⟩
      walk_at "rs"
      refine ⟨S, _, 0, .int (m.pl : Nat), rfl, rfl, SqL.of hS2, rfl, ?_⟩
      walk_at "rs"
      refine ⟨S, _, _, 0, rfl, rfl, hS2, rfl, ?_⟩
      have hm3 : LAt (upd H2 S (.lst [.int ((m.pl + 1 : Nat) : Int), .int (m.pd : Nat)])) L D S { m with st := m.st + 1, pl := m.pl + 1 } := hm.toS (m.pl + 1) m.pd
      walk_at "rs"
      refine ⟨c, G, L, D, S, { m with st := m.st + 1, pl := m.pl + 1 }, rfl, hc, hm3, hk.1, ?_, hk.2.2.1, g1, g2, fun m' H' e' h' o' => ?_, fun e' H' o' => ?_⟩
      · have := hk.small (by decide) (by omega)
        show m.kv.length ≤ 7899
        omega
      · rw [e'] at e2
        obtain ⟨k', s'⟩ := hk.step (by decide) (by omega) e'
        walk_at "rs"
        refine ite2 (fun h => absurd h (by decide)) (fun _ => ?_)
        refine ⟨m', some (.int (0 + (m.st : Nat))), v9, v10, some (.str ⟨#[c]⟩), by rw [s']; rfl, s', by omega, h', k', on sm (Oth.trans .u3 o'), ?_⟩
        rw [show 201 - (m.st + 1) = f by omega]
        exact e2
      · rw [e'] at e2
        have s' := on sm (Oth.trans .u3 o')
        walk_at "rs"
        refine ⟨d, kvV kv, rfl, .of (s' _ _ hd), fun q hq => ?_⟩
        walk_at "rs"
        exact ⟨(by show 4 ≤ sizeLine; decide), fun t ht => failed (m.st + 1) s' e2 hq ht⟩
    · rintro σ H2 ⟨m, v8, v9, v10, v11, rfl, i1, i2, -⟩
      omega

def DkAt (H : Hp) (d : Addr) (kv : List (Nat × Nat)) : Prop := H d = some (.dK (kvV kv))
/-- the law's own accounts -/
def StA (H : Hp) (p : Addr) (A : Ac) : Prop := ∃ (b c s : Addr) (ds : List Addr), H p = some (.tup [.ref b, .ref c, .ref s]) ∧ H b = some (.lst (A.bal.map V.int)) ∧ H c = some (.lst (A.cds.map V.str)) ∧ H s = some (.lst (ds.map V.ref)) ∧
  Paired (DkAt H) ds A.sts
theorem StA.same {H H' : Hp} {p : Addr} {A : Ac} (h : StA H p A) (s : Same H H') : StA H' p A := by
  obtain ⟨b, c, t, ds, h1, h2, h3, h4, h5⟩ := h
  exact ⟨b, c, t, ds, s _ _ h1, s _ _ h2, s _ _ h3, s _ _ h4, imp_paired h5 fun _ _ => s _ _⟩
def spLAfter : Sp := fun vs H Q _ => ∃ (p c : Addr) (A : Ac) (x : Cm) (n k : Nat), vs = [.ref p, .ref c] ∧ StA H p A ∧ CmAt H c x ∧ x.fine ∧ GoodA n k A ∧ k ≤ 7000 ∧
  (afterA A x = none → ∀ q H', Same H H' → H' q = some (.tup [.ref p, .bl false]) → Q (.ref q) H') ∧ ∀ q r H' B, afterA A x = some B → Same H H' → StA H' r B → H' q = some (.tup [.ref r, .bl true]) → Q (.ref q) H'
theorem ok_law_after (T : Txt K mg a) : ∃ fd, FnOk P w K mg base CX0 4 a.d_law_after fd ["state", "command"] spLAfter ∧ Binds K fd ["state", "command"] [] := by
  obtain ⟨fd, F, b⟩ := T.d_law_after.F
  obtain ⟨fd_law_run, G_law_run, b_law_run⟩ := ok_law_run (P := P) (w := w) (base := base) T
  refine ⟨fd, F.ok sc_law_after (fun vs H Q E h => ?_) (fun cdv A outer s H vs Q E hr h => ?_), b⟩
  · obtain ⟨_, _, _, _, _, _, rfl, _⟩ := h
    rfl
  · obtain ⟨p, c, A1, x, n, m, rfl, hp, hc, fx, ga, hm, k1, k2⟩ := h
    obtain ⟨b1, cd, s1, ds, h1, h2, h3, h4, h5⟩ := id hp
    have lds := paired_len h5
    have e1 := ga.lb
    have e2 := ga.lc
    have e3 := ga.ls
    have few := ga.few
    refine ⟨_, (pss_cons (ps_set (i := 2) sc_law_after.nd rfl (Or.inl rfl) (pe_callTy call_list_of (by rfl) T.n_list (by decide +kernel) (pa_cons (pe_ix ix_tup (pv 0) pe_int (fun _ _ => rfl)) pa_nil)))
      (pss_cons (ps_set (i := 3) sc_law_after.nd rfl (Or.inl rfl) (pe_callTy call_list_of (by rfl) T.n_list (by decide +kernel) (pa_cons (pe_ix ix_tup (pv 0) pe_int (fun _ _ => rfl)) pa_nil)))
      (pss_cons (ps_set (i := 4) sc_law_after.nd rfl (Or.inl rfl) (pe_callTy call_list_of (by rfl) T.n_list (by decide +kernel) (pa_cons (pe_ix ix_tup (pv 0) pe_int (fun _ _ => rfl)) pa_nil)))
      (pss_cons (ps_set (i := 5) sc_law_after.nd rfl (Or.inl rfl) (pe_callB call_len_seq (by rfl) T.n_len PySem.boot_len (pa_cons (pv 2) pa_nil)))
      (pss_cons (ps_if (PW.pt (pw_or (pt_cmpR op_eq (pe_ix ix_tup (pv 1) pe_int (fun _ _ => rfl)) pe_str (nomark _)) (pw_or1 (pt_cmpR op_ge (pe_ix ix_tup (pv 1) pe_int (fun _ _ => rfl)) (pv 5) (nomark _)))))
      (pss_one (ps_ret (pe_tup (pa_cons (pv 0) (pa_cons pe_bl pa_nil)))))
      pss_nil)
      (pss_cons (ps_if (pt_cmpR op_eq (pe_ix ix_tup (pv 1) pe_int (fun _ _ => rfl)) pe_str (nomark _))
      (pss_cons (ps_asg (pe_ix ix_tup (pv 1) pe_int (fun _ _ => rfl)) (pg_sub (pv 3) (pe_ix ix_tup (pv 1) pe_int (fun _ _ => rfl)) set_list))
        (pss_cons (ps_asg pe_dnewK (pg_sub (pv 4) (pe_ix ix_tup (pv 1) pe_int (fun _ _ => rfl)) set_list))
        (pss_one (ps_ret (pe_tup (pa_cons (pe_tup (pa_cons (pv 2) (pa_cons (pv 3) (pa_cons (pv 4) pa_nil)))) (pa_cons pe_bl pa_nil)))))))
      pss_nil)
      (pss_cons (ps_if (pt_cmpR op_ge (pe_ix ix_tup (pv 1) pe_int (fun _ _ => rfl)) (pv 5) (nomark _))
      (pss_one (ps_ret (pe_tup (pa_cons (pv 0) (pa_cons pe_bl pa_nil)))))
      pss_nil)
      (pss_cons (ps_if (pt_cmpR op_eq (pe_ix ix_tup (pv 1) pe_int (fun _ _ => rfl)) pe_str (nomark _))
      (pss_cons (ps_if (pt_cmpR op_lt (pe_ix ix_list (pv 2) (pe_ix ix_tup (pv 1) pe_int (fun _ _ => rfl)) (fun _ _ => rfl)) (pe_ix ix_tup (pv 1) pe_int (fun _ _ => rfl)) (nomark _))
        (pss_one (ps_ret (pe_tup (pa_cons (pv 0) (pa_cons pe_bl pa_nil)))))
        pss_nil)
        (pss_cons (ps_asg (pe_op op_sub (pe_ix ix_list (pv 2) (pe_ix ix_tup (pv 1) pe_int (fun _ _ => rfl)) (fun _ _ => rfl)) (pe_ix ix_tup (pv 1) pe_int (fun _ _ => rfl))) (pg_sub (pv 2) (pe_ix ix_tup (pv 1) pe_int (fun _ _ => rfl)) set_list))
        (pss_cons (ps_asg (pe_op op_add (pe_ix ix_list (pv 2) (pe_ix ix_tup (pv 1) pe_int (fun _ _ => rfl)) (fun _ _ => rfl)) (pe_ix ix_tup (pv 1) pe_int (fun _ _ => rfl))) (pg_sub (pv 2) (pe_ix ix_tup (pv 1) pe_int (fun _ _ => rfl)) set_list))
        (pss_one (ps_ret (pe_tup (pa_cons (pe_tup (pa_cons (pv 2) (pa_cons (pv 3) (pa_cons (pv 4) pa_nil)))) (pa_cons pe_bl pa_nil))))))))
      pss_nil)
      (pss_cons (ps_set (i := 6) sc_law_after.nd rfl (Or.inl rfl) (pe_ix ix_tup (pv 1) pe_int (fun _ _ => rfl)))
      (pss_cons (ps_if (pt_cmpR op_eq (pe_ix ix_list (pv 3) (pv 6) (fun _ _ => rfl)) pe_str (nomark _))
      (pss_one (ps_ret (pe_tup (pa_cons (pv 0) (pa_cons pe_bl pa_nil)))))
      pss_nil)
      (pss_cons (ps_set (i := 7) sc_law_after.nd rfl (Or.inl rfl) (pe_call G_law_run (hr.mono (by decide)) rfl T.d_law_run.g T.d_law_run.kp b_law_run .nil pass0 (pa_cons (pe_ix ix_list (pv 3) (pv 6) (fun _ _ => rfl)) (pa_cons (pe_ix ix_tup (pv 1) pe_int (fun _ _ => rfl)) (pa_cons (pe_op op_mod (pe_callTy call_int1 (by rfl) T.n_int (by decide +kernel) (pa_cons (pe_ix ix_list (pv 2) (pv 6) (fun _ _ => rfl)) pa_nil)) pe_int) (pa_cons (pe_ix ix_list (pv 4) (pv 6) (fun _ _ => rfl)) pa_nil))))))
      (pss_cons (ps_if (PW.pt (pw_or (pt_not (pt_val (pe_ix ix_tup (pv 7) pe_int (fun _ _ => rfl)))) (pw_or1 (pt_cmpR op_lt (pe_ix ix_list (pv 2) (pv 6) (fun _ _ => rfl)) (pe_ix ix_tup (pv 7) pe_int (fun _ _ => rfl)) (nomark _)))))
      (pss_one (ps_ret (pe_tup (pa_cons (pv 0) (pa_cons pe_bl pa_nil)))))
      pss_nil)
      (pss_cons (ps_asg (pe_ix ix_tup (pv 7) pe_int (fun _ _ => rfl)) (pg_sub (pv 4) (pv 6) set_list))
      (pss_cons (ps_asg (pe_op op_sub (pe_ix ix_list (pv 2) (pv 6) (fun _ _ => rfl)) (pe_ix ix_tup (pv 7) pe_int (fun _ _ => rfl))) (pg_sub (pv 2) (pv 6) set_list))
      (pss_cons (ps_asg (pe_op op_add (pe_ix ix_list (pv 2) (pe_ix ix_tup (pv 1) pe_int (fun _ _ => rfl)) (fun _ _ => rfl)) (pe_ix ix_tup (pv 7) pe_int (fun _ _ => rfl))) (pg_sub (pv 2) (pe_ix ix_tup (pv 1) pe_int (fun _ _ => rfl)) set_list))
      (pss_one (ps_ret (pe_tup (pa_cons (pe_tup (pa_cons (pv 2) (pa_cons (pv 3) (pa_cons (pv 4) pa_nil)))) (pa_cons pe_bl pa_nil)))))))))))))))))))), ?_⟩
    walk_at "rs"
    refine ⟨p, _, _, _, rfl, rfl, SqT.of h1, rfl, ?_⟩
    refine ⟨b1, _, rfl, .inl (SqL.of h2), fun l1 hl1 => ?_⟩
    have t1 := same_new (o := .lst (A1.bal.map V.int)) hl1
    have g1 : upd H l1 (.lst (A1.bal.map V.int)) l1 = some (.lst (A1.bal.map V.int)) := upd_same
    generalize upd H l1 (.lst (A1.bal.map V.int)) = H1 at t1 g1 ⊢
    walk_at "rs"
    refine ⟨p, _, _, _, rfl, rfl, SqT.of (t1 _ _ h1), rfl, ?_⟩
    refine ⟨cd, _, rfl, .inl (SqL.of (t1 _ _ h3)), fun l2 hl2 => ?_⟩
    have t2' := same_new (o := .lst (A1.cds.map V.str)) hl2
    have g2 : upd H1 l2 (.lst (A1.cds.map V.str)) l2 = some (.lst (A1.cds.map V.str)) := upd_same
    have n12 : l1 ≠ l2 := fun e => by rw [e, hl2] at g1; cases g1
    generalize upd H1 l2 (.lst (A1.cds.map V.str)) = H2 at t2' g2 ⊢
    have t2 := t1.trans t2'
    walk_at "rs"
    refine ⟨p, _, _, _, rfl, rfl, SqT.of (t2 _ _ h1), rfl, ?_⟩
    refine ⟨s1, _, rfl, .inl (SqL.of (t2 _ _ h4)), fun l3 hl3 => ?_⟩
    have t3' := same_new (o := .lst (ds.map V.ref)) hl3
    have g3 : upd H2 l3 (.lst (ds.map V.ref)) l3 = some (.lst (ds.map V.ref)) := upd_same
    have n13 : l1 ≠ l3 := fun e => by rw [e] at g1; rw [t2' _ _ g1] at hl3; cases hl3
    have n23 : l2 ≠ l3 := fun e => by rw [e, hl3] at g2; cases g2
    have g1 := t3' _ _ (t2' _ _ g1)
    have g2 := t3' _ _ g2
    have nl2 : H l2 = none := t1.free hl2
    have nl3 : H l3 = none := t2.free hl3
    generalize upd H2 l3 (.lst (ds.map V.ref)) = H3 at t3' g1 g2 g3 ⊢
    have t3 := t2.trans t3'
    clear t1 t2 t2' t3' hl2 hl3
    walk_at "rs"
    refine ⟨l1, _, rfl, .inl (SqL.of g1), ?_⟩
    rw [List.length_map]
    have hc3 := t3 _ _ hc
    have no : afterA A1 x = none → ∀ H', Same H H' → ∀ q, H' q = none → Q (.ref q) (upd H' q (.tup [.ref p, .bl false])) := fun e H' s q hq => k1 e q _ (same_upd s (s.free hq)) upd_same
    cases x with
    | w x y =>
      have hc4 : H3 c = some (.tup [.str "w", .int x, .int y]) := hc3
      walk_at "rs"
      refine ⟨c, _, _, _, rfl, rfl, SqT.of hc4, rfl, ?_⟩
      walk_at "rs"
      exact ⟨(by show 2 ≤ sizeLine; decide), no rfl _ t3⟩
    | d x z =>
      have hc4 : H3 c = some (.tup [.str "d", .int x, .str z]) := hc3
      walk_at "rs"
      obtain ⟨i, rfl⟩ : ∃ i : Nat, x = (i : Int) := ⟨x.toNat, by have := fx.1.1; omega⟩
      rw [afterA] at no k2
      refine ⟨c, _, _, _, rfl, rfl, SqT.of hc4, rfl, ?_⟩
      walk_at "rs"
      refine ⟨c, _, _, _, rfl, rfl, SqT.of hc4, rfl, ?_⟩
      walk_at "rs"
      refine ite2 (fun c1 => ?_) (fun c1 => ?_)
      · have c1 := of_decide_eq_true c1
        walk_at "rs"
        exact ⟨(by show 2 ≤ sizeLine; decide), no (if_neg (by omega)) _ t3⟩
      have c1 : (i : Int) < A1.bal.length := by
        have : ¬ (i : Int) ≥ A1.bal.length := fun h => c1 (decide_eq_true h)
        omega
      rw [if_pos c1, Int.toNat_natCast] at k2
      walk_at "rs"
      refine ⟨c, _, _, _, rfl, rfl, SqT.of hc4, rfl, ?_⟩
      walk_at "rs"
      refine ⟨c, _, _, _, rfl, rfl, SqT.of hc4, rfl, ?_⟩
      walk_at "rs"
      refine ⟨c, _, _, _, rfl, rfl, SqT.of hc4, rfl, ?_⟩
      walk_at "rs"
      refine ⟨l2, _, _, i, rfl, rfl, g2, ixN_at (by rw [List.length_map]; omega), ?_⟩
      rw [set_map]
      have s4 := same_upd (o := .lst ((A1.cds.set i z).map V.str)) t3 nl2
      have g1 := (upd_ne (H := H3) (o := .lst ((A1.cds.set i z).map V.str)) n12).trans g1
      have g3 := (upd_ne (H := H3) (o := .lst ((A1.cds.set i z).map V.str)) n23.symm).trans g3
      have g2 : upd H3 l2 (.lst ((A1.cds.set i z).map V.str)) l2 = some (.lst ((A1.cds.set i z).map V.str)) := upd_same
      have hc5 := s4 _ _ hc
      have hc5 : upd H3 l2 (.lst ((A1.cds.set i z).map V.str)) c = some (.tup [.str "d", .int (i : Int), .str z]) := hc5
      generalize upd H3 l2 (.lst ((A1.cds.set i z).map V.str)) = H4 at s4 g1 g2 g3 hc5 ⊢
      walk_at "rs"
      intro D hD
      have s5' := same_new (o := .dK []) hD
      have gD : upd H4 D (.dK []) D = some (.dK (kvV [])) := upd_same
      have g1 := s5' _ _ g1
      have g2 := s5' _ _ g2
      have g3 := s5' _ _ g3
      have hc5 := s5' _ _ hc5
      have s5 := s4.trans s5'
      generalize upd H4 D (.dK []) = H5 at s5 gD g1 g2 g3 hc5 ⊢
      walk_at "rs"
      refine ⟨c, _, _, _, rfl, rfl, SqT.of hc5, rfl, ?_⟩
      refine ⟨l3, _, _, i, rfl, rfl, g3, ixN_at (by rw [List.length_map]; omega), ?_⟩
      rw [set_map]
      have s6 := same_upd (o := .lst ((ds.set i D).map V.ref)) s5 nl3
      have off : ∀ {b : Addr} {o : HO}, b ≠ l3 → H5 b = some o → upd H5 l3 (.lst ((ds.set i D).map V.ref)) b = some o := fun n e => by rw [upd_ne n]; exact e
      have g1 := off n13 g1
      have g2 := off n23 g2
      have gD := off (fun e => by rw [e, g3] at gD; cases gD) gD
      have g3 : upd H5 l3 (.lst ((ds.set i D).map V.ref)) l3 = some (.lst ((ds.set i D).map V.ref)) := upd_same
      clear off
      generalize upd H5 l3 (.lst ((ds.set i D).map V.ref)) = H6 at s6 gD g1 g2 g3 ⊢
      walk_at "rs"
      refine ⟨(by show 3 ≤ sizeLine; decide), fun t ht => ?_⟩
      have s7' := same_new (o := .tup [.ref l1, .ref l2, .ref l3]) ht
      have gt : upd H6 t (.tup [.ref l1, .ref l2, .ref l3]) t = some (.tup [.ref l1, .ref l2, .ref l3]) := upd_same
      generalize upd H6 t (.tup [.ref l1, .ref l2, .ref l3]) = H7 at s7' gt ⊢
      have s7 := s6.trans s7'
      walk_at "rs"
      refine ⟨(by show 2 ≤ sizeLine; decide), fun q hq => ?_⟩
      have s8' := same_new (o := .tup [.ref t, .bl true]) hq
      have s78 := s7'.trans s8'
      exact k2 q t _ _ rfl (s7.trans s8') ⟨l1, l2, l3, ds.set i D, s8' _ _ gt, s78 _ _ g1, s78 _ _ g2, s78 _ _ g3, paired_set (F := DkAt _) (s78 _ _ gD) i (imp_paired h5 fun _ _ e => s78 _ _ (s6 _ _ e))⟩ upd_same
    | p x y z =>
      have hc4 : H3 c = some (.tup [.str "p", .int x, .int y, .int z]) := hc3
      walk_at "rs"
      obtain ⟨i, rfl⟩ : ∃ i : Nat, x = (i : Int) := ⟨x.toNat, by have := fx.1.1; omega⟩
      obtain ⟨j, rfl⟩ : ∃ j : Nat, y = (j : Int) := ⟨y.toNat, by have := fx.2.1.1; omega⟩
      rw [afterA] at no k2
      refine ⟨c, _, _, _, rfl, rfl, SqT.of hc4, rfl, ?_⟩
      walk_at "rs"
      refine ⟨c, _, _, _, rfl, rfl, SqT.of hc4, rfl, ?_⟩
      walk_at "rs"
      refine ite2 (fun c1 => ?_) (fun c1 => ?_)
      · have c1 := of_decide_eq_true c1
        walk_at "rs"
        exact ⟨(by show 2 ≤ sizeLine; decide), no (if_neg (by omega)) _ t3⟩
      have c1 : (i : Int) < A1.bal.length := by
        have : ¬ (i : Int) ≥ A1.bal.length := fun h => c1 (decide_eq_true h)
        omega
      walk_at "rs"
      refine ⟨c, _, _, _, rfl, rfl, SqT.of hc4, rfl, ?_⟩
      walk_at "rs"
      refine ⟨c, _, _, _, rfl, rfl, SqT.of hc4, rfl, ?_⟩
      walk_at "rs"
      refine ite2 (fun c2 => ?_) (fun c2 => ?_)
      · have c2 := of_decide_eq_true c2
        walk_at "rs"
        exact ⟨(by show 2 ≤ sizeLine; decide), no (if_neg (by omega)) _ t3⟩
      have c2 : (j : Int) < A1.bal.length := by
        have : ¬ (j : Int) ≥ A1.bal.length := fun h => c2 (decide_eq_true h)
        omega
      walk_at "rs"
      refine ⟨c, _, _, _, rfl, rfl, SqT.of hc4, rfl, ?_⟩
      walk_at "rs"
      refine ⟨c, _, _, _, rfl, rfl, SqT.of hc4, rfl, ?_⟩
      refine ⟨l1, _, _, _, rfl, rfl, SqL.of g1, at_tup (by omega), ?_⟩
      walk_at "rs"
      refine ⟨c, _, _, _, rfl, rfl, SqT.of hc4, rfl, ?_⟩
      walk_at "rs"
      refine ite2 (fun c3 => ?_) (fun c3 => ?_)
      · have c3 := of_decide_eq_true c3
        walk_at "rs"
        exact ⟨(by show 2 ≤ sizeLine; decide), no (if_neg fun h => by have := h.2; rw [Int.toNat_natCast] at this; omega) _ t3⟩
      have c3 : z ≤ A1.bal.getD i 0 := by
        have : ¬ A1.bal.getD i 0 < z := fun h => c3 (decide_eq_true h)
        omega
      rw [if_pos ⟨⟨c1, c2⟩, by rw [Int.toNat_natCast]; exact c3⟩, Int.toNat_natCast, Int.toNat_natCast] at k2
      walk_at "rs"
      refine ⟨c, _, _, _, rfl, rfl, SqT.of hc4, rfl, ?_⟩
      refine ⟨l1, _, _, _, rfl, rfl, SqL.of g1, at_tup (by omega), ?_⟩
      walk_at "rs"
      refine ⟨c, _, _, _, rfl, rfl, SqT.of hc4, rfl, ?_⟩
      walk_at "rs"
      refine ⟨c, _, _, _, rfl, rfl, SqT.of hc4, rfl, ?_⟩
      refine ⟨l1, _, _, i, rfl, rfl, g1, ixN_at (by rw [List.length_map]; omega), ?_⟩
      have hset : (A1.bal.map V.int).set i (V.int (A1.bal.getD i 0 - z)) = (A1.bal.set i (A1.bal.getD i 0 - z)).map V.int := set_map V.int _ _ _
      dsimp only
      rw [hset]
      have s4 := same_upd (o := .lst ((A1.bal.set i (A1.bal.getD i 0 - z)).map V.int)) t3 hl1
      have off : ∀ {b : Addr} {o : HO}, b ≠ l1 → H3 b = some o → upd H3 l1 (.lst ((A1.bal.set i (A1.bal.getD i 0 - z)).map V.int)) b = some o := fun n e => by rw [upd_ne n]; exact e
      have g2 := off n12.symm g2
      have g3 := off n13.symm g3
      have hc5 := off (fun e => by rw [e, g1] at hc4; cases hc4) hc4
      have g1 : upd H3 l1 (.lst ((A1.bal.set i (A1.bal.getD i 0 - z)).map V.int)) l1 = some (.lst ((A1.bal.set i (A1.bal.getD i 0 - z)).map V.int)) := upd_same
      clear off
      generalize upd H3 l1 (.lst ((A1.bal.set i (A1.bal.getD i 0 - z)).map V.int)) = H4 at s4 g1 g2 g3 hc5 ⊢
      have lset : (A1.bal.set i (A1.bal.getD i 0 - z)).length = A1.bal.length := List.length_set ..
      generalize hb2 : A1.bal.set i (A1.bal.getD i 0 - z) = bal2 at g1 lset
      walk_at "rs"
      refine ⟨c, _, _, _, rfl, rfl, SqT.of hc5, rfl, ?_⟩
      refine ⟨l1, _, _, _, rfl, rfl, SqL.of g1, at_tup (by omega), ?_⟩
      walk_at "rs"
      refine ⟨c, _, _, _, rfl, rfl, SqT.of hc5, rfl, ?_⟩
      walk_at "rs"
      refine ⟨c, _, _, _, rfl, rfl, SqT.of hc5, rfl, ?_⟩
      refine ⟨l1, _, _, j, rfl, rfl, g1, ixN_at (by rw [List.length_map]; omega), ?_⟩
      have hset2 : (bal2.map V.int).set j (V.int (bal2.getD j 0 + z)) = (moveA A1.bal i j z).map V.int := by
        rw [set_map V.int]
        unfold moveA
        rw [hb2]
      dsimp only
      rw [hset2]
      have s6 := same_upd (o := .lst ((moveA A1.bal i j z).map V.int)) s4 hl1
      have off : ∀ {b : Addr} {o : HO}, b ≠ l1 → H4 b = some o → upd H4 l1 (.lst ((moveA A1.bal i j z).map V.int)) b = some o := fun n e => by rw [upd_ne n]; exact e
      have g2 := off n12.symm g2
      have g3 := off n13.symm g3
      have g1 : upd H4 l1 (.lst ((moveA A1.bal i j z).map V.int)) l1 = some (.lst ((moveA A1.bal i j z).map V.int)) := upd_same
      clear off
      generalize upd H4 l1 (.lst ((moveA A1.bal i j z).map V.int)) = H6 at s6 g1 g2 g3 ⊢
      walk_at "rs"
      refine ⟨(by show 3 ≤ sizeLine; decide), fun t ht => ?_⟩
      have s7' := same_new (o := .tup [.ref l1, .ref l2, .ref l3]) ht
      have gt : upd H6 t (.tup [.ref l1, .ref l2, .ref l3]) t = some (.tup [.ref l1, .ref l2, .ref l3]) := upd_same
      generalize upd H6 t (.tup [.ref l1, .ref l2, .ref l3]) = H7 at s7' gt ⊢
      have s7 := s6.trans s7'
      walk_at "rs"
      refine ⟨(by show 2 ≤ sizeLine; decide), fun q hq => ?_⟩
      have s8' := same_new (o := .tup [.ref t, .bl true]) hq
      have s78 := s7'.trans s8'
      exact k2 q t _ _ rfl (s7.trans s8') ⟨l1, l2, l3, ds, s8' _ _ gt, s78 _ _ g1, s78 _ _ g2, s78 _ _ g3, imp_paired h5 fun _ _ e => s78 _ _ (s6 _ _ e)⟩ upd_same
    | k x y z =>
      have hc4 : H3 c = some (.tup [.str "k", .int x, .int y, .int z]) := hc3
      walk_at "rs"
      obtain ⟨i, rfl⟩ : ∃ i : Nat, x = (i : Int) := ⟨x.toNat, by have := fx.1.1; omega⟩
      obtain ⟨j, rfl⟩ : ∃ j : Nat, y = (j : Int) := ⟨y.toNat, by have := fx.2.1.1; omega⟩
      rw [afterA] at no k2
      refine ⟨c, _, _, _, rfl, rfl, SqT.of hc4, rfl, ?_⟩
      walk_at "rs"
      refine ⟨c, _, _, _, rfl, rfl, SqT.of hc4, rfl, ?_⟩
      walk_at "rs"
      refine ite2 (fun c1 => ?_) (fun c1 => ?_)
      · have c1 := of_decide_eq_true c1
        walk_at "rs"
        exact ⟨(by show 2 ≤ sizeLine; decide), no (if_neg (by omega)) _ t3⟩
      have c1 : (i : Int) < A1.bal.length := by
        have : ¬ (i : Int) ≥ A1.bal.length := fun h => c1 (decide_eq_true h)
        omega
      walk_at "rs"
      refine ⟨c, _, _, _, rfl, rfl, SqT.of hc4, rfl, ?_⟩
      walk_at "rs"
      refine ⟨c, _, _, _, rfl, rfl, SqT.of hc4, rfl, ?_⟩
      walk_at "rs"
      refine ite2 (fun c2 => ?_) (fun c2 => ?_)
      · have c2 := of_decide_eq_true c2
        walk_at "rs"
        exact ⟨(by show 2 ≤ sizeLine; decide), no (if_neg (by omega)) _ t3⟩
      have c2 : (j : Int) < A1.bal.length := by
        have : ¬ (j : Int) ≥ A1.bal.length := fun h => c2 (decide_eq_true h)
        omega
      walk_at "rs"
      refine ⟨c, _, _, _, rfl, rfl, SqT.of hc4, rfl, ?_⟩
      walk_at "rs"
      refine ⟨c, _, _, _, rfl, rfl, SqT.of hc4, rfl, ?_⟩
      walk_at "rs"
      refine ⟨l2, _, _, _, rfl, rfl, SqL.of g2, at_strs (by omega), ?_⟩
      walk_at "rs"
      refine ite2 (fun c3 => ?_) (fun c3 => ?_)
      · have c3 : A1.cds.getD j "" = "" := V.str.inj (of_decide_eq_true c3)
        walk_at "rs"
        exact ⟨(by show 2 ≤ sizeLine; decide), no (if_neg fun h => h.2 (by rw [Int.toNat_natCast]; exact c3)) _ t3⟩
      have c3 : A1.cds.getD j "" ≠ "" := fun h => c3 (decide_eq_true (congrArg V.str h))
      rw [if_pos ⟨⟨c1, c2⟩, by rw [Int.toNat_natCast]; exact c3⟩, Int.toNat_natCast] at no
      rw [if_pos ⟨⟨c1, c2⟩, by rw [Int.toNat_natCast]; exact c3⟩, Int.toNat_natCast, Int.toNat_natCast] at k2
      have hj : j < A1.bal.length := by omega
      have gs := ga.st _ (getD_memS (xs := A1.sts) (d := []) (i := j) (by omega))
      have bn : 0 ≤ A1.bal.getD j 0 := ga.nn _ (getD_mem hj)
      have hco := ga.co _ (getD_memS (xs := A1.cds) (d := "") (i := j) (by omega))
      have gD : DkAt H (ds.getD j 0) (A1.sts.getD j []) := paired_at (d := 0) (e := []) (i := j) h5 (by omega)
      obtain ⟨gn, rfl⟩ : ∃ g : Nat, z = (g : Int) := ⟨z.toNat, by have := fx.2.2.1; omega⟩
      have gle := fx.2.2.2
      have vsE : ∀ d : Addr, [V.str (A1.cds.getD j ""), V.int (gn : Int), V.int (A1.bal.getD j 0 % 1000000), V.ref d] = [V.str (cutG (callG A1 j gn)).code, V.int ((cutG (callG A1 j gn)).given : Nat), V.int ((cutG (callG A1 j gn)).amount : Nat), V.ref d] := fun d => by
        show _ = [V.str (A1.cds.getD j ""), V.int (((gn : Int).toNat : Nat) : Int), V.int (((A1.bal.getD j 0).toNat % 1000000 : Nat) : Int), V.ref d]
        rw [Int.toNat_natCast, Int.natCast_emod, Int.toNat_of_nonneg bn]
        rfl
      have lcode : (cutG (callG A1 j gn)).code.length ≤ 5000 := Nat.le_trans hco.1 (by decide)
      have alph : ∀ c ∈ TL.tl (cutG (callG A1 j gn)).code, Alph c := hco.2
      have lg : (cutG (callG A1 j gn)).given < 1000000 := by
        show (gn : Int).toNat < 1000000
        omega
      have la : (cutG (callG A1 j gn)).amount < 1000000 := Nat.mod_lt _ (by decide)
      have hcut := fin_cut (callG A1 j gn) 201 ⟨[], A1.sts.getD j [], 0, 0, 0⟩
      have hat := at_tup hj
      generalize callG A1 j gn = G at no k2 vsE lcode alph lg la hcut
      generalize A1.sts.getD j [] = kv at no k2 gs gD hcut
      generalize hbv : A1.bal.getD j 0 = bv at no k2 vsE bn hat
      walk_at "rs"
      refine ⟨l2, _, _, _, rfl, rfl, SqL.of g2, at_strs (by omega), ?_⟩
      walk_at "rs"
      refine ⟨c, _, _, _, rfl, rfl, SqT.of hc4, rfl, ?_⟩
      walk_at "rs"
      refine ⟨l1, _, _, _, rfl, rfl, SqL.of g1, hat, ?_⟩
      walk_at "rs"
      refine ⟨l3, _, _, _, rfl, rfl, SqL.of g3, at_refs (by omega), ?_⟩
      refine ⟨ds.getD j 0, cutG G, kv, vsE _, t3 _ _ gD, gs.mono hm |>.2.2, gs.nd, gs.2.1, lcode, alph, lg, la, fun m' n' ef q S ys H4 yp yw s4' nq nS hS hq => ?_, fun n' ef q S H4 s4' nq nS hS hq => ?_⟩
      · rw [hcut] at ef
        rw [ef] at no k2
        replace no : (if (m'.pd : Int) ≤ bv then some (⟨moveA A1.bal j i (m'.pd : Int), A1.cds, A1.sts.set j (leftM m')⟩ : Ac) else none) = none → ∀ H', Same H H' → ∀ q, H' q = none → Q (.ref q) (upd H' q (.tup [.ref p, .bl false])) := no
        replace k2 : ∀ q r H' B, (if (m'.pd : Int) ≤ bv then some (⟨moveA A1.bal j i (m'.pd : Int), A1.cds, A1.sts.set j (leftM m')⟩ : Ac) else none) = some B → Same H H' → StA H' r B → H' q = some (.tup [.ref r, .bl true]) → Q (.ref q) H' := k2
        have hS : H4 S = some (.dK (kvV (leftM m'))) := by unfold leftM; rw [← ord_is yp yw]; exact hS
        have s4 := t3.trans s4'
        have g1 := s4' _ _ g1
        have g3 := s4' _ _ g3
        have g2 := s4' _ _ g2
        have hc5 := s4' _ _ hc4
        walk_at "rs"
        refine ⟨q, _, _, _, rfl, rfl, SqT.of hq, rfl, ?_⟩
        walk_at "rs"
        refine ⟨l1, _, _, _, rfl, rfl, SqL.of g1, hat, ?_⟩
        walk_at "rs"
        refine ⟨q, _, _, _, rfl, rfl, SqT.of hq, rfl, ?_⟩
        walk_at "rs"
        refine ite2 (fun c4 => ?_) (fun c4 => ?_)
        · have c4 := of_decide_eq_true c4
          walk_at "rs"
          exact ⟨(by show 2 ≤ sizeLine; decide), no (if_neg (by omega)) H4 s4⟩
        have c4 : (m'.pd : Int) ≤ bv := by
          have : ¬ bv < (m'.pd : Int) := fun h => c4 (decide_eq_true h)
          omega
        walk_at "rs"
        refine ⟨q, _, _, _, rfl, rfl, SqT.of hq, rfl, ?_⟩
        walk_at "rs"
        refine ⟨l3, _, _, j, rfl, rfl, g3, ixN_at (by rw [List.length_map]; omega), ?_⟩
        rw [set_map]
        have s5 := same_upd (o := .lst ((ds.set j S).map V.ref)) s4 nl3
        have off : ∀ {b : Addr} {o : HO}, b ≠ l3 → H4 b = some o → upd H4 l3 (.lst ((ds.set j S).map V.ref)) b = some o := fun n e => by rw [upd_ne n]; exact e
        have g1 := off n13 g1
        have g2 := off n23 g2
        have hS := off (fun e => by rw [e, g3] at hS; cases hS) hS
        have hq := off (fun e => by rw [e, g3] at hq; cases hq) hq
        have hc5 := off (fun e => by rw [e, g3] at hc5; cases hc5) hc5
        have g3 : upd H4 l3 (.lst ((ds.set j S).map V.ref)) l3 = some (.lst ((ds.set j S).map V.ref)) := upd_same
        clear off
        generalize upd H4 l3 (.lst ((ds.set j S).map V.ref)) = H5 at s5 hS hq hc5 g1 g2 g3 ⊢
        walk_at "rs"
        refine ⟨l1, _, _, _, rfl, rfl, SqL.of g1, hat, ?_⟩
        walk_at "rs"
        refine ⟨q, _, _, _, rfl, rfl, SqT.of hq, rfl, ?_⟩
        walk_at "rs"
        refine ⟨l1, _, _, j, rfl, rfl, g1, ixN_at (by rw [List.length_map]; omega), ?_⟩
        have hset : (A1.bal.map V.int).set j (V.int (bv - (m'.pd : Int))) = (A1.bal.set j (bv - (m'.pd : Int))).map V.int := set_map V.int _ _ _
        dsimp only
        rw [hset]
        have s6 := same_upd (o := .lst ((A1.bal.set j (bv - (m'.pd : Int))).map V.int)) s5 hl1
        have off : ∀ {b : Addr} {o : HO}, b ≠ l1 → H5 b = some o → upd H5 l1 (.lst ((A1.bal.set j (bv - (m'.pd : Int))).map V.int)) b = some o := fun n e => by rw [upd_ne n]; exact e
        have g2 := off n12.symm g2
        have g3 := off n13.symm g3
        have hS := off (fun e => by rw [e, g1] at hS; cases hS) hS
        have hq := off (fun e => by rw [e, g1] at hq; cases hq) hq
        have hc5 := off (fun e => by rw [e, g1] at hc5; cases hc5) hc5
        have g1 : upd H5 l1 (.lst ((A1.bal.set j (bv - (m'.pd : Int))).map V.int)) l1 = some (.lst ((A1.bal.set j (bv - (m'.pd : Int))).map V.int)) := upd_same
        clear off
        generalize upd H5 l1 (.lst ((A1.bal.set j (bv - (m'.pd : Int))).map V.int)) = H6 at s6 hS hq hc5 g1 g2 g3 ⊢
        have lset : (A1.bal.set j (bv - (m'.pd : Int))).length = A1.bal.length := List.length_set ..
        generalize hb2 : A1.bal.set j (bv - (m'.pd : Int)) = bal2 at g1 lset
        walk_at "rs"
        refine ⟨c, _, _, _, rfl, rfl, SqT.of hc5, rfl, ?_⟩
        refine ⟨l1, _, _, _, rfl, rfl, SqL.of g1, at_tup (by omega), ?_⟩
        walk_at "rs"
        refine ⟨q, _, _, _, rfl, rfl, SqT.of hq, rfl, ?_⟩
        walk_at "rs"
        refine ⟨c, _, _, _, rfl, rfl, SqT.of hc5, rfl, ?_⟩
        refine ⟨l1, _, _, i, rfl, rfl, g1, ixN_at (by rw [List.length_map]; omega), ?_⟩
        have hset2 : (bal2.map V.int).set i (V.int (bal2.getD i 0 + (m'.pd : Int))) = (moveA A1.bal j i (m'.pd : Int)).map V.int := by
          rw [set_map V.int]
          unfold moveA
          rw [hbv, hb2]
        dsimp only
        rw [hset2]
        have s7 := same_upd (o := .lst ((moveA A1.bal j i (m'.pd : Int)).map V.int)) s6 hl1
        have off : ∀ {b : Addr} {o : HO}, b ≠ l1 → H6 b = some o → upd H6 l1 (.lst ((moveA A1.bal j i (m'.pd : Int)).map V.int)) b = some o := fun n e => by rw [upd_ne n]; exact e
        have g2 := off n12.symm g2
        have g3 := off n13.symm g3
        have hS := off (fun e => by rw [e, g1] at hS; cases hS) hS
        have g1 : upd H6 l1 (.lst ((moveA A1.bal j i (m'.pd : Int)).map V.int)) l1 = some (.lst ((moveA A1.bal j i (m'.pd : Int)).map V.int)) := upd_same
        clear off
        generalize upd H6 l1 (.lst ((moveA A1.bal j i (m'.pd : Int)).map V.int)) = H7 at s7 hS g1 g2 g3 ⊢
        walk_at "rs"
        refine ⟨(by show 3 ≤ sizeLine; decide), fun t ht => ?_⟩
        have s8' := same_new (o := .tup [.ref l1, .ref l2, .ref l3]) ht
        have gt : upd H7 t (.tup [.ref l1, .ref l2, .ref l3]) t = some (.tup [.ref l1, .ref l2, .ref l3]) := upd_same
        generalize upd H7 t (.tup [.ref l1, .ref l2, .ref l3]) = H8 at s8' gt ⊢
        have s8 := s7.trans s8'
        walk_at "rs"
        refine ⟨(by show 2 ≤ sizeLine; decide), fun q2 hq2 => ?_⟩
        have s9' := same_new (o := .tup [.ref t, .bl true]) hq2
        have s89 := s8'.trans s9'
        exact k2 q2 t _ _ (if_pos c4) (s8.trans s9') ⟨l1, l2, l3, ds.set j S, s9' _ _ gt, s89 _ _ g1, s89 _ _ g2, s89 _ _ g3, paired_set (F := DkAt _) (s89 _ _ hS) j (imp_paired h5 fun _ _ e => s89 _ _ (s7 _ _ e))⟩ upd_same
      · rw [hcut] at ef
        rw [ef] at no
        have s4 := t3.trans s4'
        walk_at "rs"
        refine ⟨q, _, _, _, rfl, rfl, SqT.of hq, rfl, ?_⟩
        walk_at "rs"
        exact ⟨(by show 2 ≤ sizeLine; decide), no rfl H4 s4⟩

def spPairs : Sp := fun vs H Q _ => ∃ (d : Addr) (kv : List (Nat × Nat)), vs = [.ref d] ∧ H d = some (.dK (kvV kv)) ∧ GoodS 7200 kv ∧
  ∀ t ps H', Same H H' → H' t = some (.tup (ps.map V.ref)) → Paired (PrAt H') ps kv → Q (.ref t) H'
theorem paired_snoc {α β : Type} {F : α → β → Prop} {x : α} {y : β} : ∀ {xs : List α} {ys : List β}, Paired F xs ys → F x y → Paired F (xs ++ [x]) (ys ++ [y])
  | _, _, .nil, h => .cons h .nil
  | _, _, .cons g t, h => .cons g (paired_snoc t h)
theorem getN_at {kv : List (Nat × Nat)} (nd : (kv.map (·.1)).Nodup) {x : Nat × Nat} (h : x ∈ kv) : getN kv x.1 = x.2 := by
  unfold getN
  induction kv with
  | nil => cases h
  | cons y r ih =>
    rw [List.map_cons] at nd
    have nd := List.nodup_cons.mp nd
    rw [List.find?_cons]
    rcases List.mem_cons.mp h with rfl | h
    · rw [decide_eq_true rfl]
      rfl
    · have ne : y.1 ≠ x.1 := fun e => nd.1 (by rw [e]; exact List.mem_map.mpr ⟨x, h, rfl⟩)
      rw [decide_eq_false ne]
      exact ih nd.2 h
theorem ok_law_pairs (T : Txt K mg a) : ∃ fd, FnOk P w K mg base CX0 1 a.d_law_pairs fd ["store"] spPairs ∧ Binds K fd ["store"] [] := by
  obtain ⟨fd, F, b⟩ := T.d_law_pairs.F
  refine ⟨fd, F.ok sc_law_pairs (fun vs H Q E h => ?_) (fun cdv A outer s H vs Q E hr h => ?_), b⟩
  · obtain ⟨_, _, rfl, _⟩ := h
    rfl
  · obtain ⟨d, kv, rfl, hd, gs, k⟩ := h
    have ndk := gs.nd
    have small := gs.2.2
    refine ⟨_, (pss_one (ps_ret (pe_callTy call_tuple_of (by rfl) T.n_tuple (by decide +kernel) (pa_cons (pe_lc (own := [("key", 1)]) (g := (gName 1)) (tt := tYes) rfl sc_law_pairs.nd (pi_list (pe_callB (cr_sortIs) (by rfl) T.n_sorted (by decide +kernel) (pa_cons (pe_lock (pe_lc (own := [("key", 1)]) (g := (gName 1)) (tt := tYes) rfl sc_law_pairs.nd (pi_keys (pv 0)) (blkOk_by (own := [("key", 1)]) (N := sc_law_pairs_N) (sc := defScope s_law_pairs) (by decide +kernel)) (fun _ _ _ _ _ => (pg_name (i := 1) sc_law_pairs.nd rfl (Or.inl rfl))) (fun _ _ _ _ _ => pts_nil) (fun _ _ _ _ _ => (pv 1)))) pa_nil))) (blkOk_by (own := [("key", 1)]) (N := sc_law_pairs_N) (sc := defScope s_law_pairs) (by decide +kernel)) (fun _ _ _ _ _ => (pg_name (i := 1) sc_law_pairs.nd rfl (Or.inl rfl))) (fun _ _ _ _ _ => pts_nil) (fun _ _ _ _ _ => (pe_tup (pa_cons (pv 1) (pa_cons (pe_dget (hu_of hr) (pv 0) (pv 1) (fun _ _ => rfl)) pa_nil))))) pa_nil)))), ?_⟩
    walk_at "rs"
    refine ⟨d, .dK (kvV kv), hd, trivial, fun od => ?_⟩
    walk_at "rs"
    refine ⟨d, od, rfl, .inl ⟨kvV kv, upd_same, fun R hR => ?_⟩⟩
    have RD : R ≠ d := fun e => by rw [e, upd_same] at hR; cases hR
    have nR : H R = none := by rw [upd_ne RD] at hR; exact hR
    refine lc_it walk_keys (fun i H3 => H3 d = some (.frz od (.dK (kvV kv))) ∧ H3 R = some (.lst ((kv.take i).map fun x => V.int (x.1 : Int))) ∧ ∀ b o, b ≠ d → H b = some o → H3 b = some o) ⟨by rw [upd_ne (fun e => RD e.symm)]; exact upd_same, upd_same, fun b o n e => by rw [upd_ne (ne_of_none e nR), upd_ne n]; exact e⟩ (fun i H _ p => p.1) ?_ ?_
    · rintro i x H3 H3' hi ⟨a1, a2, a3⟩ ⟨rfl, k, v, hk, rfl⟩
      rw [len_kv] at hi
      obtain ⟨x, hx, rfl⟩ : ∃ x, kv[i]? = some x ∧ k = Sum.inl (x.1 : Int) := by
        unfold kvV at hk
        rw [List.getElem?_map] at hk
        cases h : kv[i]? with
        | none => rw [h] at hk; cases hk
        | some x =>
          rw [h] at hk
          have := Option.some.inj hk
          exact ⟨x, rfl, (Prod.mk.inj this).1.symm⟩
      refine ⟨rfl, ?_⟩
      walk_at "rs"
      refine ⟨_, a2, by rw [List.length_map]; exact small8000 (by have := List.length_take_le' i kv; omega), by rw [upd_ne (fun e => RD e.symm)]; exact a1, ?_, fun b o n e => ?_⟩
      · rw [upd_same, List.take_add_one, hx]
        simp [kV]
      · rw [upd_ne (ne_of_none e nR)]
        exact a3 b o n e
    · rintro H3 ⟨a1, a2, a3⟩
      rw [len_kv, List.take_length] at a2
      refine ⟨a1, ?_⟩
      have s4 : Same H (upd H3 d (.dK (kvV kv))) := fun b o e => by
        by_cases n : b = d
        · rw [n, upd_same]
          rw [n, hd] at e
          exact e
        · rw [upd_ne n]
          exact a3 b o n e
      have hR4 : upd H3 d (.dK (kvV kv)) R = some (.lst ((kv.map fun x => (x.1 : Int)).map V.int)) := by
        rw [upd_ne RD, a2, List.map_map]
        rfl
      generalize upd H3 d (.dK (kvV kv)) = H4 at s4 hR4 ⊢
      walk_at "rs"
      refine ⟨R, kv.map fun x => (x.1 : Int), rfl, SqL.of hR4, fun zs q hperm hpw hq => ?_⟩
      obtain ⟨ys, rfl, yp, yw⟩ : ∃ ys : List Nat, zs = ys.map (fun n : Nat => (n : Int)) ∧ ys.Perm (kv.map (·.1)) ∧ ys.Pairwise (· ≤ ·) := by
        refine ⟨zs.map Int.toNat, ?_, ?_, ?_⟩
        · rw [List.map_map]
          conv => lhs; rw [← List.map_id zs]
          refine List.map_congr_left fun z hz => ?_
          obtain ⟨x, _, rfl⟩ := List.mem_map.mp (hperm.mem_iff.mp hz)
          rfl
        · have := hperm.map Int.toNat
          rw [List.map_map] at this
          exact this
        · rw [List.pairwise_map]
          exact hpw.imp fun h => Int.toNat_le_toNat h
      have ey : ys = kv.map (·.1) := perm_one yp yw (gs.1.imp fun h => Nat.le_of_lt h)
      subst ey
      have s5 := same_upd (o := .lst (((kv.map (·.1)).map fun n : Nat => (n : Int)).map V.int)) s4 (s4.free hq)
      have hq5 : upd H4 q (.lst (((kv.map (·.1)).map fun n : Nat => (n : Int)).map V.int)) q = some (.lst (((kv.map (·.1)).map fun n : Nat => (n : Int)).map V.int)) := upd_same
      generalize upd H4 q (.lst (((kv.map (·.1)).map fun n : Nat => (n : Int)).map V.int)) = H5 at s5 hq5 ⊢
      walk_at "rs"
      refine ⟨⟨_, SqL.of hq5⟩, fun D hD => ?_⟩
      have hd5 := s5 _ _ hd
      refine lc_list (K := K) (a := q) (xs := ((kv.map (·.1)).map fun n : Nat => (n : Int)).map V.int) (fun i H6 => Same H5 H6 ∧ ∃ ps : List Addr, H6 D = some (.lst (ps.map V.ref)) ∧ Paired (PrAt H6) ps (kv.take i)) ⟨same_new hD, [], upd_same, .nil⟩ (fun i H6 _ ⟨s6, _⟩ => SqL.of (s6 _ _ hq5)) ?_ ?_
      · rintro i y H6 hy ⟨s6, ps, h6, p6⟩
        obtain ⟨x, hx, rfl⟩ : ∃ x, kv[i]? = some x ∧ y = V.int (x.1 : Int) := by
          rw [List.getElem?_map, List.getElem?_map, List.getElem?_map] at hy
          cases h : kv[i]? with
          | none => rw [h] at hy; cases hy
          | some x =>
            rw [h] at hy
            exact ⟨x, rfl, (Option.some.inj hy).symm⟩
        have hmem : x ∈ kv := List.mem_of_getElem? hx
        have hg : DGet H6 d (V.int (x.1 : Int)) (some (V.int (x.2 : Int))) := by
          have := DGet.k (k := Sum.inl (x.1 : Int)) (s6 _ _ hd5)
          rw [val_mem (List.mem_map.mpr ⟨x, hmem, rfl⟩), getN_at ndk hmem] at this
          exact this
        have lps := paired_len p6
        refine ⟨rfl, ?_⟩
        walk_at "rs"
        refine ⟨d, _, rfl, hg, ?_⟩
        walk_at "rs"
        refine ⟨(by show 2 ≤ sizeLine; decide), fun t ht => ?_⟩
        have s7' := same_new (o := .tup [.int (x.1 : Int), .int (x.2 : Int)]) ht
        have ht7 : PrAt (upd H6 t (.tup [.int (x.1 : Int), .int (x.2 : Int)])) t x := upd_same
        generalize upd H6 t (.tup [.int (x.1 : Int), .int (x.2 : Int)]) = H7 at s7' ht7 ⊢
        have et : kv.take (i + 1) = kv.take i ++ [x] := by
          rw [List.take_add_one, hx]
          rfl
        have h7 := s7' _ _ h6
        refine ⟨_, h7, by rw [List.length_map, lps]; exact small8000 (by have := List.length_take_le' i kv; omega), same_upd (s6.trans s7') hD, ps ++ [t], by rw [upd_same, List.map_append]; rfl, ?_⟩
        rw [et]
        have off : ∀ b y, PrAt H7 b y → PrAt (upd H7 D (.lst (ps.map V.ref ++ [V.ref t]))) b y := fun b y e => by
          show upd _ _ _ _ = _
          rw [upd_ne (fun q => by have e : H7 b = _ := e; rw [q, h7] at e; cases e)]
          exact e
        exact paired_snoc (imp_paired p6 fun b y e => off b y (s7' _ _ e)) (off _ _ ht7)
      · rintro H6 ⟨s6, ps, h6, p6⟩
        rw [List.take_of_length_le (by simp)] at p6
        have s56 := s5.trans s6
        walk_at "rs"
        refine ⟨D, _, rfl, .inl ⟨SqL.of h6, fun t ht => ?_⟩⟩
        exact k t ps _ (same_upd s56 (s56.free ht)) upd_same (imp_paired p6 fun _ _ e => same_new ht _ _ e)

def TtAt (H : Hp) (t : Addr) (kv : List (Nat × Nat)) : Prop := ∃ ps : List Addr, H t = some (.tup (ps.map V.ref)) ∧ Paired (PrAt H) ps kv
theorem TtAt.same {H H' : Hp} {t : Addr} {kv : List (Nat × Nat)} (h : TtAt H t kv) (s : Same H H') : TtAt H' t kv := by
  obtain ⟨ps, h1, h2⟩ := h
  exact ⟨ps, s _ _ h1, imp_paired h2 fun _ _ => s _ _⟩
theorem TtAt.off {H : Hp} {t D : Addr} {kv : List (Nat × Nat)} {xs : List V} {o : HO} (h : TtAt H t kv) (hD : H D = some (.lst xs)) : TtAt (upd H D o) t kv := by
  obtain ⟨ps, h1, h2⟩ := h
  refine ⟨ps, by rw [upd_ne (fun e => by rw [e, hD] at h1; cases h1)]; exact h1, imp_paired h2 fun b y e => ?_⟩
  have e : H b = _ := e
  show upd _ _ _ _ = _
  rw [upd_ne (fun q => by rw [q, hD] at e; cases e)]
  exact e
theorem TtAt.tp {K : PySem.W.Frag} {H : Hp} {t : Addr} {kv : List (Nat × Nat)} (h : TtAt H t kv) : TpAt K H t kv := by
  obtain ⟨ps, h1, h2⟩ := h
  exact ⟨ps, SqT.of h1, h2⟩
def spShows (C : Addr) : Sp := fun vs H Q _ => ∃ (p st : Addr) (A : Ac) (n k : Nat), vs = [.ref p, .ref st] ∧ LgAt C H p A ∧ StA H st A ∧ GoodA n k A ∧ k ≤ 7200 ∧ ∀ H', Same H H' → Q (.bl true) H'
theorem ok_law_shows (T : Txt K mg a) : ∃ fd, FnOk P w K mg base CX0 2 a.d_law_shows fd ["ledger", "state"] (spShows a.C_Ledger) ∧ Binds K fd ["ledger", "state"] [] := by
  obtain ⟨fd, F, b⟩ := T.d_law_shows.F
  obtain ⟨fd_law_pairs, G_law_pairs, b_law_pairs⟩ := ok_law_pairs (P := P) (w := w) (base := base) T
  refine ⟨fd, F.ok sc_law_shows (fun vs H Q E h => ?_) (fun cdv A outer s H vs Q E hr h => ?_), b⟩
  · obtain ⟨_, _, _, _, _, rfl, _⟩ := h
    rfl
  · obtain ⟨p, st, A1, n, m, rfl, hp, hst, ga, hm, k⟩ := h
    obtain ⟨dx, b1, cd, s1, ts, h1, h2, h3, h4, h5⟩ := hp
    obtain ⟨b2, c2, s2, ds, g1, g2, g3, g4, g5⟩ := hst
    have o1 : ∀ z ∈ A1.cds, PyData.strOk z = true := fun z hz => (ga.co z hz).2.ok
    refine ⟨_, (pss_cons (ps_if (PW.pt (pw_or (pt_cmpR (op_neD hr.units) (pe_fld (pv 0) rfl) (pe_callTy call_tuple_of (by rfl) T.n_tuple (by decide +kernel) (pa_cons (pe_ix ix_tup (pv 1) pe_int (fun _ _ => rfl)) pa_nil)) (nomark _)) (pw_or1 (pt_cmpR (op_neD hr.units) (pe_fld (pv 0) rfl) (pe_callTy call_tuple_of (by rfl) T.n_tuple (by decide +kernel) (pa_cons (pe_ix ix_tup (pv 1) pe_int (fun _ _ => rfl)) pa_nil)) (nomark _)))))
      (pss_one (ps_ret pe_bl))
      pss_nil)
      (pss_one (ps_ret (pe_cmpR (op_eqD hr.units) (pe_fld (pv 0) rfl) (pe_callTy call_tuple_of (by rfl) T.n_tuple (by decide +kernel) (pa_cons (pe_lc (own := [("store", 2)]) (g := (gName 2)) (tt := tYes) rfl sc_law_shows.nd (pi_list (pe_ix ix_tup (pv 1) pe_int (fun _ _ => rfl))) (blkOk_by (own := [("store", 2)]) (N := sc_law_shows_N) (sc := defScope s_law_shows) (by decide +kernel)) (fun _ _ _ _ _ => (pg_name (i := 2) sc_law_shows.nd rfl (Or.inl rfl))) (fun _ _ _ _ _ => pts_nil) (fun _ _ _ _ _ => (pe_call G_law_pairs (hr.mono (by decide)) rfl T.d_law_pairs.g T.d_law_pairs.kp b_law_pairs .nil pass0 (pa_cons (pv 2) pa_nil)))) pa_nil)) (nomark _))))), ?_⟩
    walk_at "rs"
    refine ⟨p, _, dx, _, .ref b1, rfl, h1, T.cl_Ledger, T.a_Ledger_balances, rfl, ?_⟩
    walk_at "rs"
    refine ⟨st, _, _, _, rfl, rfl, SqT.of g1, rfl, ?_⟩
    refine ⟨b2, _, rfl, .inl ⟨SqL.of g2, fun t1 ht1 => ?_⟩⟩
    have u1 := same_new (o := .tup (A1.bal.map V.int)) ht1
    have e1 : upd H t1 (.tup (A1.bal.map V.int)) t1 = some (.tup (A1.bal.map V.int)) := upd_same
    generalize upd H t1 (.tup (A1.bal.map V.int)) = H1 at u1 e1 ⊢
    refine ⟨.tuple (A1.bal.map PyData.int), .tuple (A1.bal.map PyData.int), .tup (SqT.of (u1 _ _ h2)) (dp_intsA _), .tup (SqT.of e1) (dp_intsA _), shaped_intsA _, shaped_intsA _, ?_⟩
    rw [eqv_intsA, decide_eq_true rfl]
    refine ⟨_, rfl, ?_⟩
    refine ite2 (fun c => absurd c (by decide)) (fun _ => ?_)
    walk_at "rs"
    refine ⟨p, _, dx, _, .ref cd, rfl, u1 _ _ h1, T.cl_Ledger, T.a_Ledger_codes, rfl, ?_⟩
    walk_at "rs"
    refine ⟨st, _, _, _, rfl, rfl, SqT.of (u1 _ _ g1), rfl, ?_⟩
    refine ⟨c2, _, rfl, .inl ⟨SqL.of (u1 _ _ g3), fun t2 ht2 => ?_⟩⟩
    have u2' := same_new (o := .tup (A1.cds.map V.str)) ht2
    have e2 : upd H1 t2 (.tup (A1.cds.map V.str)) t2 = some (.tup (A1.cds.map V.str)) := upd_same
    generalize upd H1 t2 (.tup (A1.cds.map V.str)) = H2 at u2' e2 ⊢
    have u2 := u1.trans u2'
    refine ⟨.tuple (A1.cds.map PyData.str), .tuple (A1.cds.map PyData.str), .tup (SqT.of (u2 _ _ h3)) (dp_strsA _), .tup (SqT.of e2) (dp_strsA _), shaped_strsA o1, shaped_strsA o1, ?_⟩
    rw [eqv_strsA, decide_eq_true rfl]
    refine ⟨_, rfl, ?_⟩
    refine ite2 (fun c => absurd c (by decide)) (fun _ => ?_)
    walk_at "rs"
    refine ⟨p, _, dx, _, .ref s1, rfl, u2 _ _ h1, T.cl_Ledger, T.a_Ledger_stores, rfl, ?_⟩
    walk_at "rs"
    refine ⟨st, _, _, _, rfl, rfl, SqT.of (u2 _ _ g1), rfl, ?_⟩
    have g42 := u2 _ _ g4
    refine ⟨s2, rfl, ⟨_, SqL.of g42⟩, fun D hD => ?_⟩
    have lds := paired_len g5
    refine lc_list (K := K) (a := s2) (xs := ds.map V.ref) (fun i H3 => Same H2 H3 ∧ ∃ us : List Addr, H3 D = some (.lst (us.map V.ref)) ∧ Paired (TtAt H3) us (A1.sts.take i)) ⟨same_new hD, [], upd_same, .nil⟩ (fun i H3 _ ⟨s3, _⟩ => SqL.of (s3 _ _ g42)) ?_ ?_
    · rintro i y H3 hy ⟨s3, us, hD3, p3⟩
      have hi : i < ds.length := by
        have e := (List.getElem?_eq_some_iff.mp hy).1
        rwa [List.length_map] at e
      have hdk : DkAt H (ds.getD i 0) (A1.sts.getD i []) := paired_at (d := 0) (e := []) (i := i) g5 (by omega)
      have hy' : y = V.ref (ds.getD i 0) := by
        rw [List.getElem?_map, List.getElem?_eq_getElem hi] at hy
        rw [List.getD_eq_getElem?_getD, List.getElem?_eq_getElem hi]
        exact (Option.some.inj hy).symm
      subst hy'
      have gsi := (ga.st _ (getD_memS (xs := A1.sts) (d := []) (i := i) (by omega))).mono hm
      have et : A1.sts.take (i + 1) = A1.sts.take i ++ [A1.sts.getD i []] := by
        have hi' : i < A1.sts.length := by omega
        rw [List.take_add_one, List.getElem?_eq_getElem hi', List.getD_eq_getElem?_getD, List.getElem?_eq_getElem hi']
        rfl
      refine ⟨rfl, ?_⟩
      walk_at "rs"
      refine ⟨ds.getD i 0, A1.sts.getD i [], rfl, s3 _ _ (u2 _ _ hdk), gsi, fun t ps H4 s4 ht pp => ?_⟩
      have hD4 := s4 _ _ hD3
      have lus := paired_len p3
      refine ⟨_, hD4, by rw [List.length_map, lus]; exact small8000 (by have := List.length_take_le' i A1.sts; have := ga.ls; have := ga.few; omega), same_upd (s3.trans s4) hD, us ++ [t], by rw [upd_same, List.map_append]; rfl, ?_⟩
      rw [et]
      exact paired_snoc (imp_paired p3 fun _ _ z => (z.same s4).off hD4) (TtAt.off ⟨ps, ht, pp⟩ hD4)
    · rintro H3 ⟨s3, us, hD3, p3⟩
      rw [List.take_of_length_le (by rw [List.length_map]; omega)] at p3
      walk_at "rs"
      refine ⟨D, _, rfl, .inl ⟨SqL.of hD3, fun t ht => ?_⟩⟩
      have s4 := same_new (o := .tup (us.map V.ref)) ht
      have ht4 : upd H3 t (.tup (us.map V.ref)) t = some (.tup (us.map V.ref)) := upd_same
      generalize upd H3 t (.tup (us.map V.ref)) = H4 at s4 ht4 ⊢
      have u4 := u2.trans (s3.trans s4)
      refine ⟨stsA A1.sts, stsA A1.sts, dp_sts (SqT.of (u4 _ _ h4)) (imp_paired h5 fun _ _ z => (z.same u4).tp), dp_sts (SqT.of ht4) (imp_paired p3 fun _ _ z => (z.same s4).tp), shaped_sts _, shaped_sts _, ?_⟩
      rw [eqv_sts, decide_eq_true rfl]
      exact k _ u4

/-! ### two states compared -/
section
open PySem.SeqAt
/-! ### (bool, dict, int, int) != the same -/
theorem pairs_to {P P' : Program} {w w' : World} : ∀ {es : List DictEntry} {kvs : List (Key × Value)}, PySem.Pairs (mixKind P w) es kvs → PySem.Pairs (mixKind P' w') es kvs
  | _, _, .nil => .nil
  | _, _, .cons x y z => .cons x y (pairs_to z)
theorem pairs_key {P : Program} {w : World} : ∀ {es : List DictEntry} {kvs : List (Key × Value)}, PySem.Pairs (mixKind P w) es kvs → ∀ e ∈ es, ∃ kv ∈ kvs, (mixKind P w).is kv.1 e.key = true
  | _, _, .nil, e, h => nomatch h
  | _, _, .cons x y z, e, h => by
    rcases List.mem_cons.mp h with rfl | h
    · exact ⟨_, List.mem_cons_self .., x⟩
    · obtain ⟨kv, hk, hi⟩ := pairs_key z e h
      exact ⟨kv, List.mem_cons_of_mem _ hk, hi⟩
theorem dictOf_ints {P P' : Program} {w w' : World} {h : Heap} {b : Addr} {kvs : List (Key × Value)} (hk : ∀ x ∈ kvs, ∃ i, x.1 = Sum.inl i) (d : h.DictOf (mixKind P w) b kvs) : h.DictOf (mixKind P' w') b kvs := by
  obtain ⟨o, es, ep, h1, h2, h3, h4, h5, h6⟩ := d
  refine ⟨o, es, ep, h1, h2, h3, fun e he => ?_, pairs_to h5, h6⟩
  obtain ⟨k, hk1, hk2⟩ := h4 e he
  obtain ⟨kv, hkv, hi⟩ := pairs_key h5 e (Array.mem_toList_iff.mpr he)
  obtain ⟨i, ei⟩ := hk kv hkv
  have ek := (mixKind P w).inj _ _ _ hk1 hi
  rw [ei] at ek
  subst ek
  exact ⟨Sum.inl i, hk1, hk2⟩

variable {X : Cx}
theorem all_eq {α : Type} [DecidableEq α] (d : α) {xs ys : List α} (h : xs.length = ys.length) : (List.range xs.length).all (fun i => decide (xs.getD i d = ys.getD i d)) = decide (xs = ys) := by
  rw [Bool.eq_iff_iff, List.all_eq_true, decide_eq_true_iff]
  refine ⟨fun a => List.ext_getElem h fun i h1 h2 => ?_, fun e => by rw [e]; exact fun _ _ => decide_eq_true rfl⟩
  have := of_decide_eq_true (a i (List.mem_range.mpr h1))
  rw [List.getD_eq_getElem?_getD, List.getD_eq_getElem?_getD, List.getElem?_eq_getElem h1, List.getElem?_eq_getElem h2] at this
  exact this
theorem eqAt_lists {pins : List (Addr × Obj)} {σ : L2.St} {H : Hp} {s : Shared} (I : L2.Inv X pins σ H s) {A : Around} (hu : A.units < cLine) {l m : Addr} {xs ys : List V} (hl : H l = some (.lst xs)) (hm : H m = some (.lst ys)) (len : xs.length = ys.length) {e : Nat → Bool}
    (he : ∀ (j : Nat) (x y : V) (u v : Value), xs[j]? = some x → ys[j]? = some y → RelV x u → RelV y v → EqAt A.in1 s u v (e j)) (same : xs = ys → ∀ j, j < xs.length → e j = true) : EqAt A s (.ref l) (.ref m) ((List.range xs.length).all e) := by
  by_cases c : l = m
  · subst c
    rw [hl] at hm
    have ey : xs = ys := by cases hm; rfl
    have : (List.range xs.length).all e = true := List.all_eq_true.mpr fun j hj => same ey j (List.mem_range.mp hj)
    rw [this]
    exact EqAt.same _
  · obtain ⟨_, its, n, r, at1⟩ := I.hok l _ hl
    obtain ⟨_, its2, n2, r2, at2⟩ := I.hok m _ hm
    have l1 := r.length
    have l2 := r2.length
    have := RcAt.lists (A := A) (e := e) ⟨_, at1, rfl, n, rfl⟩ ⟨_, at2, rfl, n2, rfl⟩ (by simp; omega) hu (fun j h1 h2 => by
      have h1' : j < its.length := by simpa using h1
      have h2' : j < its2.length := by simpa using h2
      have k1 : j < xs.length := by omega
      have k2 : j < ys.length := by omega
      obtain ⟨u, hu, ru⟩ := r.get (List.getElem?_eq_getElem k1)
      obtain ⟨v, hv, rv⟩ := r2.get (List.getElem?_eq_getElem k2)
      rw [List.getElem?_eq_getElem h1'] at hu
      rw [List.getElem?_eq_getElem h2'] at hv
      cases hu
      cases hv
      exact he j _ _ _ _ (List.getElem?_eq_getElem k1) (List.getElem?_eq_getElem k2) ru rv)
    have sz : its.toArray.size = xs.length := by simp; omega
    rw [sz] at this
    exact EqAt.of_refs c this
/-- how a dict of ints is found in another -/
def hitsR (b : List (Nat × Nat)) : List (Nat × Nat) → Bool
  | [] => true
  | x :: r => match b.find? fun y => decide (y.1 = x.1) with
    | none => false
    | some y => decide ((x.2 : Int) = (y.2 : Int)) && hitsR b r
theorem hits_kv {A : Around} {s : Shared} {b : List (Nat × Nat)} {vb : List (Key × Value)} (rb : KV (kvV b) vb) : ∀ {kv : List (Nat × Nat)} {va : List (Key × Value)}, KV (kvV kv) va → PySem.W.KeqHits A s vb va (hitsR b kv)
  | [], va, ra => by
    cases ra
    exact .nil
  | x :: kv, va, ra => by
    cases ra with
    | @cons _ q _ qs h t =>
      obtain ⟨h1, h2⟩ := h
      obtain ⟨k, v⟩ := q
      have h1 : (Sum.inl (x.1 : Int) : Key) = k := h1
      subst h1
      obtain ⟨t1, rfl⟩ : ∃ t1, v = Value.int (x.2 : Int) t1 := h2
      have rr : RelO (valV (kvV b) (Sum.inl (x.1 : Int))) (valueAt vb (Sum.inl (x.1 : Int))) := rb.val _
      rw [val_kv] at rr
      unfold hitsR
      cases e : b.find? fun y => decide (y.1 = x.1) with
      | none =>
        rw [e] at rr
        cases hv : valueAt vb (Sum.inl (x.1 : Int)) with
        | none => exact .miss hv
        | some y => rw [hv] at rr; exact False.elim rr
      | some y =>
        rw [e] at rr
        obtain ⟨z, hz, rz⟩ := rr.some_of
        obtain ⟨t2, rfl⟩ := rz
        have := EqAt.int_int (A := A) (s := s) (x.2 : Int) t1 (y.2 : Int) t2
        rw [beq_dec] at this
        exact .hit hz this (hits_kv rb t)
theorem hits_true {b : List (Nat × Nat)} : ∀ {kv : List (Nat × Nat)}, hitsR b kv = true → ∀ x ∈ kv, x ∈ b
  | x :: kv, h, z, hz => by
    unfold hitsR at h
    cases e : b.find? fun y => decide (y.1 = x.1) with
    | none => rw [e] at h; exact absurd h Bool.false_ne_true
    | some y =>
      rw [e] at h
      have h : (decide ((x.2 : Int) = (y.2 : Int)) && hitsR b kv) = true := h
      rw [Bool.and_eq_true] at h
      rcases List.mem_cons.mp hz with rfl | hz
      · have e1 : y.1 = z.1 := of_decide_eq_true (List.find?_some (p := fun y : Nat × Nat => decide (y.1 = z.1)) e)
        have e2 : (z.2 : Int) = (y.2 : Int) := of_decide_eq_true h.1
        have : y = z := Prod.ext e1 (by omega)
        rw [← this]
        exact List.mem_of_find?_eq_some e
      · exact hits_true h.2 z hz
theorem hits_self {b : List (Nat × Nat)} (nd : (b.map (·.1)).Nodup) : ∀ {kv : List (Nat × Nat)}, (∀ x ∈ kv, x ∈ b) → hitsR b kv = true
  | [], _ => rfl
  | x :: kv, h => by
    have hx := h x List.mem_cons_self
    have ev := getN_at nd hx
    unfold getN at ev
    unfold hitsR
    cases e : b.find? fun y => decide (y.1 = x.1) with
    | none => exact absurd (decide_eq_true rfl) (List.find?_eq_none.mp e x hx)
    | some y =>
      rw [e] at ev
      have ev : y.2 = x.2 := ev
      show (decide ((x.2 : Int) = (y.2 : Int)) && hitsR b kv) = true
      rw [ev, decide_eq_true rfl, hits_self nd fun z hz => h z (List.mem_cons_of_mem _ hz)]
      rfl
theorem sub_len {α : Type} [DecidableEq α] : ∀ {l e : List α}, l.Nodup → (∀ x ∈ l, x ∈ e) → l.length ≤ e.length
  | [], _, _, _ => Nat.zero_le _
  | x :: l, e, nd, h => by
    have nd := List.nodup_cons.mp nd
    have hx := h x List.mem_cons_self
    have := sub_len (l := l) (e := e.erase x) nd.2 fun y hy => (List.mem_erase_of_ne (fun q => nd.1 (by rw [← q]; exact hy))).mpr (h y (List.mem_cons_of_mem _ hy))
    have le := List.length_erase_of_mem hx
    have pos := List.length_pos_of_mem hx
    rw [List.length_cons]
    omega
theorem sorted_sub : ∀ {l m : List (Nat × Nat)}, (l.map (·.1)).Pairwise (· < ·) → (m.map (·.1)).Pairwise (· < ·) → (∀ x ∈ l, x ∈ m) → m.length ≤ l.length → l = m
  | [], [], _, _, _, _ => rfl
  | [], y :: m, _, _, _, h => absurd h (Nat.not_succ_le_zero _)
  | x :: l, [], _, _, h, _ => absurd (h x List.mem_cons_self) List.not_mem_nil
  | x :: l, y :: m, h1, h2, h, hl => by
    have a1 := List.pairwise_cons.mp h1
    have a2 := List.pairwise_cons.mp h2
    have bigger : ∀ z ∈ l, x.1 < z.1 := fun z hz => a1.1 z.1 (List.mem_map.mpr ⟨z, hz, rfl⟩)
    have exy : x = y := by
      rcases List.mem_cons.mp (h x List.mem_cons_self) with e | e
      · exact e
      · have yx : y.1 < x.1 := a2.1 x.1 (List.mem_map.mpr ⟨x, e, rfl⟩)
        have sub : ∀ z ∈ x :: l, z ∈ m := fun z hz => by
          rcases List.mem_cons.mp (h z hz) with e2 | e2
          · exfalso
            rcases List.mem_cons.mp hz with e3 | e3
            · rw [e3] at e2; rw [e2] at yx; omega
            · have := bigger z e3; rw [e2] at this; omega
          · exact e2
        have nd : (x :: l).Nodup := by
          have : (x :: l).Pairwise fun a b => a.1 < b.1 := List.pairwise_map.mp h1
          exact this.imp fun h e => by rw [e] at h; exact Nat.lt_irrefl _ h
        have := sub_len nd sub
        rw [List.length_cons] at this hl
        rw [List.length_cons] at hl
        omega
    subst exy
    rw [sorted_sub a1.2 a2.2 (fun z hz => by
      rcases List.mem_cons.mp (h z (List.mem_cons_of_mem _ hz)) with e | e
      · have := bigger z hz; rw [e] at this; omega
      · exact e) (by rw [List.length_cons, List.length_cons] at hl; omega)]
theorem hits_eq {k l : Nat} {a b : List (Nat × Nat)} (g1 : GoodS k a) (g2 : GoodS l b) : (a.length == b.length && hitsR b a) = decide (a = b) := by
  rw [Bool.eq_iff_iff, Bool.and_eq_true, decide_eq_true_iff, beq_iff_eq]
  refine ⟨fun h => sorted_sub g1.1 g2.1 (hits_true h.2) (by omega), fun e => ?_⟩
  subst e
  exact ⟨rfl, hits_self g1.nd fun x hx => hx⟩
theorem kvV_inj : ∀ {a b : List (Nat × Nat)}, kvV a = kvV b → a = b
  | [], [], _ => rfl
  | [], _ :: _, h => nomatch h
  | _ :: _, [], h => nomatch h
  | x :: a, y :: b, h => by
    have h := List.cons.inj h
    have h1 := Prod.mk.inj h.1
    have e1 := Sum.inl.inj h1.1
    have e2 := V.int.inj h1.2
    rw [kvV_inj h.2, show x = y from Prod.ext (by omega) (by omega)]
theorem eqAt_dicts {pins : List (Addr × Obj)} {σ : L2.St} {H : Hp} {s : Shared} (I : L2.Inv X pins σ H s) {A : Around} (hu : A.units < cLine) {k l : Nat} {d e : Addr} {a b : List (Nat × Nat)} (hd : DkAt H d a) (he : DkAt H e b) (g1 : GoodS k a) (g2 : GoodS l b) :
    EqAt A s (.ref d) (.ref e) (decide (a = b)) := by
  by_cases c : d = e
  · subst c
    have hd : H d = _ := hd
    have he : H d = _ := he
    rw [hd] at he
    have ek : kvV a = kvV b := by
      have := Option.some.inj he
      injection this
    rw [decide_eq_true (kvV_inj ek)]
    exact EqAt.same _
  · refine EqAt.of_refs c fun prog w E Q hq => ?_
    obtain ⟨_, ya, va, ra, da⟩ := (show ObjOk X.prog X.w H s.heap d (.dK (kvV a)) from I.hok d _ hd)
    obtain ⟨_, yb, vb, rb, db⟩ := (show ObjOk X.prog X.w H s.heap e (.dK (kvV b)) from I.hok e _ he)
    have onlyI : ∀ {kv : List (Nat × Nat)} {vs : List (Key × Value)}, KV (kvV kv) vs → ∀ x ∈ vs, ∃ i, x.1 = Sum.inl i := fun {kv vs} r x hx => by
      have e := r.keys
      have : x.1 ∈ (kvV kv).map (·.1) := by
        rw [e]
        exact List.mem_map.mpr ⟨x, hx, rfl⟩
      obtain ⟨y, hy, ey⟩ := List.mem_map.mp this
      obtain ⟨z, _, rfl⟩ := List.mem_map.mp hy
      exact ⟨_, ey.symm⟩
    refine PySem.W.keq_eq (knd := mixKind prog w) (r := hitsR b a) ya yb (dictOf_ints (onlyI ra) da) (dictOf_ints (onlyI rb) db) hu (fun _ => hits_kv rb ra) ?_
    rw [← ra.length, ← rb.length, len_kv, len_kv, hits_eq g1 g2]
    exact hq
def rEqSt : R2 := fun x y H Q => ∃ (p q : Addr) (A B : Ac) (n k : Nat), x = .ref p ∧ y = .ref q ∧ StA H p A ∧ StA H q B ∧ GoodA n k A ∧ GoodA n k B ∧ Q (.bl (eqA A B)) H
theorem op_eqSt (hu : X.A.units + 64 < cLine) : OpR X (compareOp .Eq) rEqSt := by
  intro pins s σ H x y v u Q I rx ry h
  obtain ⟨p, q, A1, B1, n, k, rfl, rfl, ha, hb, ga, gb, fin⟩ := h
  obtain rfl : v = Value.ref p := rx
  obtain rfl : u = Value.ref q := ry
  obtain ⟨b1, c1, s1, ds, h1, h2, h3, h4, h5⟩ := ha
  obtain ⟨b2, c2, s2, es, g1, g2, g3, g4, g5⟩ := hb
  have three : ∀ {x y z : Addr} {l : List Value}, Vals [.ref x, .ref y, .ref z] l → l = [.ref x, .ref y, .ref z] := fun {x y z l} r => by
    cases r with
    | cons a r =>
      cases r with
      | cons a2 r =>
        cases r with
        | cons a3 r =>
          cases r
          cases a
          cases a2
          cases a3
          rfl
  obtain ⟨_, its, rv, o, go, co, no, dO⟩ := I.hok p _ h1
  obtain ⟨_, its2, rv2, o2, go2, co2, no2, dO2⟩ := I.hok q _ g1
  have ei := three rv
  have ei2 := three rv2
  subst ei ei2
  have la := ga.lb
  have lb := ga.lc
  have lc := ga.ls
  have ma := gb.lb
  have mb := gb.lc
  have mc := gb.ls
  have lds := paired_len h5
  have les := paired_len g5
  have u1 : X.A.in1.units < cLine := by show X.A.units + 1 < cLine; omega
  have u2 : X.A.in1.in1.units < cLine := by show X.A.units + 1 + 1 < cLine; omega
  have E1 : EqAt X.A.in1 s (.ref b1) (.ref b2) (decide (A1.bal = B1.bal)) := by
    have := eqAt_lists I u1 h2 g2 (by simp; omega) (e := fun i => decide (A1.bal.getD i 0 = B1.bal.getD i 0)) (fun j x y u v hx hy ru rv => by
      have hj : j < A1.bal.length := by
        have := (List.getElem?_eq_some_iff.mp hx).1
        simpa using this
      rw [at_ints hj] at hx
      rw [at_ints (by omega)] at hy
      cases hx
      cases hy
      obtain ⟨t, rfl⟩ := ru
      obtain ⟨t', rfl⟩ := rv
      have := EqAt.int_int (A := X.A.in1.in1) (s := s) (A1.bal.getD j 0) t (B1.bal.getD j 0) t'
      rw [beq_dec] at this
      exact this) (fun e j _ => by
        have e : A1.bal = B1.bal := List.map_inj_right (fun x y h => V.int.inj h) |>.mp e
        rw [e]
        exact decide_eq_true rfl)
    rw [List.length_map, all_eq 0 (by omega)] at this
    exact this
  have E2 : EqAt X.A.in1 s (.ref c1) (.ref c2) (decide (A1.cds = B1.cds)) := by
    have strAt : ∀ {zs : List Str} {j : Nat}, j < zs.length → (zs.map V.str)[j]? = some (.str (zs.getD j "")) := fun {zs j} h => by
      rw [List.getElem?_map, List.getElem?_eq_getElem h, List.getD_eq_getElem?_getD, List.getElem?_eq_getElem h]
      rfl
    have := eqAt_lists I u1 h3 g3 (by simp; omega) (e := fun i => decide (A1.cds.getD i "" = B1.cds.getD i "")) (fun j x y u v hx hy ru rv => by
      have hj : j < A1.cds.length := by
        have := (List.getElem?_eq_some_iff.mp hx).1
        simpa using this
      rw [strAt hj] at hx
      rw [strAt (by omega)] at hy
      cases hx
      cases hy
      obtain ⟨t, rfl⟩ := ru
      obtain ⟨t', rfl⟩ := rv
      have := EqAt.str_str (A := X.A.in1.in1) (s := s) (A1.cds.getD j "") t (B1.cds.getD j "") t'
      rw [show (A1.cds.getD j "" == B1.cds.getD j "") = decide (A1.cds.getD j "" = B1.cds.getD j "") from by
        by_cases h : A1.cds.getD j "" = B1.cds.getD j ""
        · rw [decide_eq_true h, h, beq_self_eq_true]
        · rw [decide_eq_false h]
          exact beq_eq_false_iff_ne.mpr h] at this
      exact this) (fun e j _ => by
        have e : A1.cds = B1.cds := List.map_inj_right (fun x y h => V.str.inj h) |>.mp e
        rw [e]
        exact decide_eq_true rfl)
    rw [List.length_map, all_eq ("" : Str) (by omega)] at this
    exact this
  have E3 : EqAt X.A.in1 s (.ref s1) (.ref s2) (decide (A1.sts = B1.sts)) := by
    have refAt : ∀ {zs : List Addr} {j : Nat}, j < zs.length → (zs.map V.ref)[j]? = some (.ref (zs.getD j 0)) := fun {zs j} h => by
      rw [List.getElem?_map, List.getElem?_eq_getElem h, List.getD_eq_getElem?_getD, List.getElem?_eq_getElem h]
      rfl
    have dk1 : ∀ j, j < ds.length → DkAt H (ds.getD j 0) (A1.sts.getD j []) := fun j hj => paired_at h5 (by omega)
    have dk2 : ∀ j, j < es.length → DkAt H (es.getD j 0) (B1.sts.getD j []) := fun j hj => paired_at g5 (by omega)
    have := eqAt_lists I u1 h4 g4 (by simp; omega) (e := fun i => decide (A1.sts.getD i [] = B1.sts.getD i [])) (fun j x y u v hx hy ru rv => by
      have hj : j < ds.length := by
        have := (List.getElem?_eq_some_iff.mp hx).1
        simpa using this
      rw [refAt hj] at hx
      rw [refAt (by omega)] at hy
      cases hx
      cases hy
      cases ru
      cases rv
      exact eqAt_dicts I u2 (dk1 j hj) (dk2 j (by omega)) (ga.st _ (getD_memS (xs := A1.sts) (d := []) (i := j) (by omega))) (gb.st _ (getD_memS (xs := B1.sts) (d := []) (i := j) (by omega)))) (fun e j hj => by
        have hj : j < ds.length := by simpa using hj
        have e : ds = es := List.map_inj_right (fun x y h => V.ref.inj h) |>.mp e
        subst e
        have a1 : H (ds.getD j 0) = _ := dk1 j hj
        have a2 : H (ds.getD j 0) = _ := dk2 j hj
        rw [a1] at a2
        have ek : kvV (A1.sts.getD j []) = kvV (B1.sts.getD j []) := by
          have := Option.some.inj a2
          injection this
        exact decide_eq_true (kvV_inj ek))
    rw [List.length_map, lds, all_eq [] (by omega)] at this
    exact this
  have R := RcAt.tuples (A := X.A) (s := s) (e := fun j => if j = 0 then decide (A1.bal = B1.bal) else if j = 1 then decide (A1.cds = B1.cds) else decide (A1.sts = B1.sts)) ⟨o, go, co, no, dO⟩ ⟨o2, go2, co2, no2, dO2⟩ (by omega) (fun j h1 h2 => by
    have h1 : j < 3 := h1
    rcases j with _ | _ | _ | j
    · exact E1
    · exact E2
    · exact E3
    · omega)
  refine R X.prog X.w X.xe _ (fin_bl I fin ?_)
  unfold eqA
  show _ = ((decide (A1.bal = B1.bal) && (decide (A1.cds = B1.cds) && (decide (A1.sts = B1.sts) && true))) && true)
  rw [Bool.and_true, Bool.and_true]
end

theorem eqA_refl (A : Ac) : eqA A A = true := by
  unfold eqA
  rw [decide_eq_true rfl, decide_eq_true rfl, decide_eq_true rfl]
  rfl
theorem LgAt.ins {C : Addr} {H : Hp} {p : Addr} {A : Ac} (h : LgAt C H p A) : ∃ dx fs, H p = some (.ins C dx fs) := by
  obtain ⟨dx, b, c, s, ts, h1, _⟩ := h
  exact ⟨dx, _, h1⟩
theorem first_good {bal : List Int} (h : bal.length ≤ 100) (nn : ∀ b ∈ bal, 0 ≤ b) (k : Nat) : GoodA bal.length k (firstA bal) :=
  ⟨rfl, List.length_replicate .., List.length_replicate .., h, nn, fun z hz => by
    rw [List.eq_of_mem_replicate hz]
    exact ⟨Nat.zero_le _, fun n hn => absurd hn List.not_mem_nil⟩, fun kv hkv => by
    rw [List.eq_of_mem_replicate hkv]
    exact ⟨.nil, fun x hx => absurd hx List.not_mem_nil, Nat.zero_le _⟩⟩
/-- what a command makes of accounts, and whether it is done -/
def Aft (A : Ac) (x : Cm) (B : Ac) (b : Bool) : Prop := (afterA A x = some B ∧ b = true) ∨ (afterA A x = none ∧ B = A ∧ b = false)
theorem ok_law {f : Addr} {fd : FuncData} (F : Fun K "law" "law" s_law f fd) (TE : TxtE w K mg a) (T : Txt K mg a) : FnOk P w K mg base CX0 9 f fd ["script"] (spLaw K) := by
  obtain ⟨fd_first_ledger, G_first_ledger, b_first_ledger⟩ := ok_first_ledger (P := P) (w := w) (base := base) T
  obtain ⟨fd_law_shows, G_law_shows, b_law_shows⟩ := ok_law_shows (P := P) (w := w) (base := base) T
  obtain ⟨fd_law_command, G_law_command, b_law_command⟩ := ok_law_command (P := P) (w := w) (base := base) T
  obtain ⟨fd_law_after, G_law_after, b_law_after⟩ := ok_law_after (P := P) (w := w) (base := base) T
  obtain ⟨fd_after_command, G_after_command, b_after_command⟩ := ok_after_command (P := P) (w := w) (base := base) TE T
  obtain ⟨fd_law_row, G_law_row, b_law_row⟩ := ok_law_row (P := P) (w := w) (base := base) T
  obtain ⟨fd_law_cell, G_law_cell, b_law_cell⟩ := ok_law_cell (P := P) (w := w) (base := base) T
  obtain ⟨fd_Ledger_eq, G_Ledger_eq, b_Ledger_eq⟩ := ok_Ledger_eq (P := P) (w := w) (base := base) TE T
  refine F.ok sc_law (fun vs H Q E h => ?_) (fun cdv A outer s H vs Q E hr h => ?_)
  · obtain ⟨_, _, rfl, _⟩ := h
    rfl
  · obtain ⟨l, ns, rfl, hS, hl, k⟩ := h
    have k : ∀ H', Q (.bl true) H' := k
    refine ⟨_, (pss_cons (ps_setLc (i := 1) (own := [("value", 8)]) (g := (gName 8)) (tt := tYes) rfl sc_law.nd rfl rfl (sw_true rfl rfl rfl (by decide +kernel)) (pi_list (pe_call G_law_row (hr.mono (by decide)) rfl T.d_law_row.g T.d_law_row.kp b_law_row .nil pass0 (pa_cons (pe_call G_law_cell (hr.mono (by decide)) rfl T.d_law_cell.g T.d_law_cell.kp b_law_cell .nil pass0 (pa_cons (pv 0) (pa_cons pe_int pa_nil))) (pa_cons (pe_op op_mod (pe_callTy call_int1 (by rfl) T.n_int (by decide +kernel) (pa_cons (pe_call G_law_cell (hr.mono (by decide)) rfl T.d_law_cell.g T.d_law_cell.kp b_law_cell .nil pass0 (pa_cons (pv 0) (pa_cons pe_int pa_nil))) pa_nil)) pe_int) (pa_cons pe_int pa_nil))))) (blkOk_by (own := [("value", 8)]) (N := sc_law_N) (sc := defScope s_law) (by decide +kernel)) (fun _ _ _ _ _ => (pg_name (i := 8) sc_law.nd rfl (Or.inl rfl))) (fun _ _ _ _ _ => pts_nil) (fun _ _ _ _ _ => (pe_op op_mul (pv 8) (pv 8))))
      (C8.pss_cut (ps_if (pt_cmpR op_eq (pe_op op_mod (pe_op op_fdiv (pe_callTy call_int1 (by rfl) T.n_int (by decide +kernel) (pa_cons (pe_call G_law_cell (hr.mono (by decide)) rfl T.d_law_cell.g T.d_law_cell.kp b_law_cell .nil pass0 (pa_cons (pv 0) (pa_cons pe_int pa_nil))) pa_nil)) pe_int) pe_int) pe_int (nomark _))
      (pss_one (ps_setLc (i := 1) (own := [("grant", 9)]) (g := (gName 9)) (tt := tYes) rfl sc_law.nd rfl rfl (sw_true rfl rfl rfl (by decide +kernel)) (pi_list (pv 1)) (blkOk_by (own := [("grant", 9)]) (N := sc_law_N) (sc := defScope s_law) (by decide +kernel)) (fun _ _ _ _ _ => (pg_name (i := 9) sc_law.nd rfl (Or.inl rfl))) (fun _ _ _ _ _ => pts_nil) (fun _ _ _ _ _ => (pe_op op_mul pe_int (pv 9)))))
      pss_nil)
      (pss_cons (ps_set (i := 2) sc_law.nd rfl (Or.inl rfl) (pe_tup (pa_cons (pe_callTy call_list_of (by rfl) T.n_list (by decide +kernel) (pa_cons (pv 1) pa_nil)) (pa_cons (pe_lc (own := [("grant", 9)]) (g := (gName 9)) (tt := tYes) rfl sc_law.nd (pi_list (pv 1)) (blkOk_by (own := [("grant", 9)]) (N := sc_law_N) (sc := defScope s_law) (by decide +kernel)) (fun _ _ _ _ _ => (pg_name (i := 9) sc_law.nd rfl (Or.inl rfl))) (fun _ _ _ _ _ => pts_nil) (fun _ _ _ _ _ => pe_str)) (pa_cons (pe_lc (own := [("grant", 9)]) (g := (gName 9)) (tt := tYes) rfl sc_law.nd (pi_list (pv 1)) (blkOk_by (own := [("grant", 9)]) (N := sc_law_N) (sc := defScope s_law) (by decide +kernel)) (fun _ _ _ _ _ => (pg_name (i := 9) sc_law.nd rfl (Or.inl rfl))) (fun _ _ _ _ _ => pts_nil) (fun _ _ _ _ _ => pe_dnewK)) pa_nil)))))
      (pss_cons (ps_set (i := 3) sc_law.nd rfl (Or.inl rfl) (pe_call G_first_ledger (hr.mono (by decide)) rfl T.d_first_ledger.g T.d_first_ledger.kp b_first_ledger .nil pass0 (pa_cons (pe_callTy call_list_of (by rfl) T.n_list (by decide +kernel) (pa_cons (pv 1) pa_nil)) pa_nil)))
      (pss_cons (ps_if (PW.pt (pw_or (pt_not (pt_cmpR (op_eqOwn G_Ledger_eq (hr.mono (by decide)) T.d_Ledger_eq.fi T.d_Ledger_eq.isf b_Ledger_eq) (pv 3) (pe_call G_first_ledger (hr.mono (by decide)) rfl T.d_first_ledger.g T.d_first_ledger.kp b_first_ledger .nil pass0 (pa_cons (pe_callTy call_tuple_of (by rfl) T.n_tuple (by decide +kernel) (pa_cons (pv 1) pa_nil)) pa_nil)) (nomark _))) (pw_or1 (pt_cmpR (op_eqOwn G_Ledger_eq (hr.mono (by decide)) T.d_Ledger_eq.fi T.d_Ledger_eq.isf b_Ledger_eq) (pv 3) (pe_call G_first_ledger (hr.mono (by decide)) rfl T.d_first_ledger.g T.d_first_ledger.kp b_first_ledger .nil pass0 (pa_cons (pe_op op_cat (pe_callTy call_list_of (by rfl) T.n_list (by decide +kernel) (pa_cons (pv 1) pa_nil)) (pe_lst (pa_cons pe_int pa_nil))) pa_nil)) (nomark _)))))
      (pss_one (ps_ret pe_bl))
      pss_nil)
      (pss_cons (ps_if (pt_not (pt_val (pe_call G_law_shows (hr.mono (by decide)) rfl T.d_law_shows.g T.d_law_shows.kp b_law_shows .nil pass0 (pa_cons (pv 3) (pa_cons (pv 2) pa_nil)))))
      (pss_one (ps_ret pe_bl))
      pss_nil)
      (pss_cons (ps_for PassesOwn.never rfl (pi_range1 rfl T.n_range (pa_cons (pe_op op_fdiv (pe_op op_add (pe_callB call_len_seq (by rfl) T.n_len PySem.boot_len (pa_cons (pv 0) pa_nil)) pe_int) pe_int) pa_nil)) (pg_name (i := 4) sc_law.nd rfl (Or.inl rfl))
      (pss_cons (ps_set (i := 5) sc_law.nd rfl (Or.inl rfl) (pe_call G_law_command (hr.mono (by decide)) rfl T.d_law_command.g T.d_law_command.kp b_law_command .nil pass0 (pa_cons (pe_callB call_abs (by rfl) T.n_abs (by decide +kernel) (pa_cons (pe_call G_law_cell (hr.mono (by decide)) rfl T.d_law_cell.g T.d_law_cell.kp b_law_cell .nil pass0 (pa_cons (pv 0) (pa_cons (pe_op op_mul pe_int (pv 4)) pa_nil))) pa_nil)) (pa_cons (pe_callB call_abs (by rfl) T.n_abs (by decide +kernel) (pa_cons (pe_call G_law_cell (hr.mono (by decide)) rfl T.d_law_cell.g T.d_law_cell.kp b_law_cell .nil pass0 (pa_cons (pv 0) (pa_cons (pe_op op_add (pe_op op_mul pe_int (pv 4)) pe_int) pa_nil))) pa_nil)) pa_nil))))
        (C8.pss_cut (ps_set (i := 6) sc_law.nd rfl (Or.inl rfl) (pe_call G_law_after (hr.mono (by decide)) rfl T.d_law_after.g T.d_law_after.kp b_law_after .nil pass0 (pa_cons (pv 2) (pa_cons (pv 5) pa_nil))))
        (C8.pss_cut (ps_set (i := 7) sc_law.nd rfl (Or.inl rfl) (pe_call G_after_command (hr.mono (by decide)) rfl T.d_after_command.g T.d_after_command.kp b_after_command .nil pass0 (pa_cons (pv 3) (pa_cons (pv 5) pa_nil))))
        (pss_cons (ps_if (PW.pt (pw_or (pt_not (pt_val (pe_callB call_isi (by rfl) T.n_isinstance (by decide +kernel) (pa_cons (pv 7) (pa_cons (pe_bltn (v := .ty "tuple") (u := .type "tuple") (by rfl) T.n_tuple (by decide +kernel) rfl) pa_nil))))) (pw_or (pt_not (pt_val (pe_callB call_isi (by rfl) T.n_isinstance (by decide +kernel) (pa_cons (pe_ix ix_tup (pv 7) pe_int (fun _ _ => rfl)) (pa_cons (pe_bltn (v := .ty "bool") (u := .type "bool") (by rfl) T.n_bool (by decide +kernel) rfl) pa_nil))))) (pw_or1 (pt_cmpR op_ne (pe_ix ix_tup (pv 7) pe_int (fun _ _ => rfl)) (pe_ix ix_tup (pv 6) pe_int (fun _ _ => rfl)) (nomark _))))))
        (pss_one (ps_ret pe_bl))
        pss_nil)
        (pss_cons (ps_if (PW.pt (pw_or (pt_not (pt_val (pe_call G_law_shows (hr.mono (by decide)) rfl T.d_law_shows.g T.d_law_shows.kp b_law_shows .nil pass0 (pa_cons (pe_ix ix_tup (pv 7) pe_int (fun _ _ => rfl)) (pa_cons (pe_ix ix_tup (pv 6) pe_int (fun _ _ => rfl)) pa_nil))))) (pw_or1 (pt_not (pt_val (pe_call G_law_shows (hr.mono (by decide)) rfl T.d_law_shows.g T.d_law_shows.kp b_law_shows .nil pass0 (pa_cons (pv 3) (pa_cons (pv 2) pa_nil))))))))
        (pss_one (ps_ret pe_bl))
        pss_nil)
        (pss_cons (ps_if (pt_cmpR op_ne (pe_cmpR (op_eqOwn G_Ledger_eq (hr.mono (by decide)) T.d_Ledger_eq.fi T.d_Ledger_eq.isf b_Ledger_eq) (pe_ix ix_tup (pv 7) pe_int (fun _ _ => rfl)) (pv 3) (nomark _)) (pe_cmpR (op_eqSt hr.units) (pe_ix ix_tup (pv 6) pe_int (fun _ _ => rfl)) (pv 2) (nomark _)) (nomark _))
        (pss_one (ps_ret pe_bl))
        pss_nil)
        (pss_cons (ps_set (i := 3) sc_law.nd rfl (Or.inl rfl) (pe_ix ix_tup (pv 7) pe_int (fun _ _ => rfl)))
        (pss_one (ps_set (i := 2) sc_law.nd rfl (Or.inl rfl) (pe_ix ix_tup (pv 6) pe_int (fun _ _ => rfl))))))))))))
      (pss_one (ps_ret pe_bl))))))))), ?_⟩
    walk_at "rs"
    refine ⟨l, ns, 0, rfl, hS, hl, by decide, ?_⟩
    have r0 := Int.emod_nonneg (ns.getD 0 0) (show (6 : Int) ≠ 0 by decide)
    have r1 := Int.emod_lt_of_pos (ns.getD 0 0) (show (0 : Int) < 6 by decide)
    walk_at "rs"
    refine ⟨l, ns, 0, rfl, hS, hl, by decide, ?_⟩
    walk_at "rs"
    refine ⟨_, _, _, rfl, r0, by omega, by decide, by decide, fun q row H1 s1 hq lrow brow nq => ?_⟩
    walk_at "rs"
    refine ⟨⟨_, SqL.of hq⟩, fun D hD => ?_⟩
    refine lc_list (K := K) (a := q) (xs := row.map V.int) (fun i H2 => Same H1 H2 ∧ H2 D = some (.lst (((row.take i).map fun v => v * v).map V.int))) ⟨same_new hD, upd_same⟩ (fun i H2 _ ⟨s2, _⟩ => SqL.of (s2 _ _ hq)) ?_ ?_
    · rintro i y H2 hy ⟨s2, hd⟩
      have hi : i < row.length := by
        have e := (List.getElem?_eq_some_iff.mp hy).1
        rwa [List.length_map] at e
      have et : row.take (i + 1) = row.take i ++ [row.getD i 0] := by
        rw [List.take_add_one, List.getElem?_eq_getElem hi, List.getD_eq_getElem?_getD, List.getElem?_eq_getElem hi]
        rfl
      rw [at_ints hi] at hy
      cases hy
      have hz := brow _ (getD_mem hi)
      refine ⟨rfl, ?_⟩
      walk_at "rs"
      refine ⟨(show CMul _ _ from .inl ⟨by omega, by omega⟩), ?_⟩
      refine ⟨_, hd, by rw [List.length_map, List.length_map]; exact small1000 (by have := List.length_take_le' i row; omega), same_upd s2 hD, ?_⟩
      rw [upd_same, et, List.map_append, List.map_append]
      rfl
    rintro H2 ⟨s2, hd⟩
    rw [List.length_map, List.take_length] at hd
    have s12 := s1.trans s2
    have nn2 : ∀ v ∈ row.map (fun v => v * v), (0 : Int) ≤ v := fun v hv => by
      obtain ⟨x, hx, rfl⟩ := List.mem_map.mp hv
      exact Int.mul_nonneg (brow x hx).1 (brow x hx).1
    have ll : (row.map fun v => v * v).length ≤ 5 := by rw [List.length_map, lrow]; omega
    generalize (row.map fun v => v * v) = gr at hd nn2 ll
    clear brow lrow s1 s2
    refine ⟨fun σ H3 => ∃ (g : Addr) (bal : List Int), σ = [some (.ref l), some (.ref g), none, none, none, none, none, none, none, none] ∧ Same H H3 ∧ H3 g = some (.lst (bal.map V.int)) ∧ bal.length ≤ 5 ∧ ∀ v ∈ bal, 0 ≤ v, ?_, ?_⟩
    · walk_at "rs"
      refine ⟨l, ns, 0, rfl, s12.seq hS, hl, by decide, ?_⟩
      walk_at "rs"
      refine ite2 (fun c1 => ?_) (fun c1 => ?_)
      · walk_at "rs"
        refine ⟨⟨_, SqL.of hd⟩, fun D2 hD2 => ?_⟩
        refine lc_list (K := K) (a := D) (xs := gr.map V.int) (fun i H3 => Same H2 H3 ∧ H3 D2 = some (.lst (((gr.take i).map fun v => 1500 * v).map V.int))) ⟨same_new hD2, upd_same⟩ (fun i H3 _ ⟨s3, _⟩ => SqL.of (s3 _ _ hd)) ?_ ?_
        · rintro i y H3 hy ⟨s3, hd3⟩
          have hi : i < gr.length := by
            have e := (List.getElem?_eq_some_iff.mp hy).1
            rwa [List.length_map] at e
          have et : gr.take (i + 1) = gr.take i ++ [gr.getD i 0] := by
            rw [List.take_add_one, List.getElem?_eq_getElem hi, List.getD_eq_getElem?_getD, List.getElem?_eq_getElem hi]
            rfl
          rw [at_ints hi] at hy
          cases hy
          refine ⟨rfl, ?_⟩
          walk_at "rs"
          refine ⟨_, hd3, by rw [List.length_map, List.length_map]; exact small1000 (by have := List.length_take_le' i gr; omega), same_upd s3 hD2, ?_⟩
          rw [upd_same, et, List.map_append, List.map_append]
          rfl
        rintro H3 ⟨s3, hd3⟩
        rw [List.length_map, List.take_length] at hd3
        exact ⟨D2, gr.map fun v => 1500 * v, rfl, s12.trans s3, hd3, by rw [List.length_map]; exact ll, fun v hv => by
          obtain ⟨x, hx, rfl⟩ := List.mem_map.mp hv
          have := nn2 x hx
          omega⟩
      · exact ⟨D, gr, rfl, s12, hd, ll, nn2⟩
    rintro σ H3 ⟨g, bal, rfl, s3, hg, lb, nb⟩
    walk_at "rs"
    refine ⟨g, _, rfl, .inl (SqL.of hg), fun b1 hb1 => ?_⟩
    have s4' := same_new (o := .lst (bal.map V.int)) hb1
    have gb1 : upd H3 b1 (.lst (bal.map V.int)) b1 = some (.lst (bal.map V.int)) := upd_same
    generalize upd H3 b1 (.lst (bal.map V.int)) = H4 at s4' gb1 ⊢
    have s4 := s3.trans s4'
    have hg := s4' _ _ hg
    walk_at "rs"
    refine ⟨⟨_, SqL.of hg⟩, fun c1 hc1 => ?_⟩
    refine lc_list (K := K) (a := g) (xs := bal.map V.int) (fun i H5 => Same H4 H5 ∧ H5 c1 = some (.lst ((List.replicate i ("" : Str)).map V.str))) ⟨same_new hc1, upd_same⟩ (fun i H5 _ ⟨s5, _⟩ => SqL.of (s5 _ _ hg)) ?_ ?_
    · rintro i y H5 hy ⟨s5, hd⟩
      have hi : i < bal.length := by
        have e := (List.getElem?_eq_some_iff.mp hy).1
        rwa [List.length_map] at e
      rw [at_ints hi] at hy
      cases hy
      refine ⟨rfl, ?_⟩
      walk_at "rs"
      refine ⟨_, hd, by rw [List.length_map, List.length_replicate]; exact small1000 (by omega), same_upd s5 hc1, ?_⟩
      rw [upd_same, List.replicate_succ', List.map_append]
      rfl
    rintro H5 ⟨s5', gc1⟩
    rw [List.length_map] at gc1
    have s5 := s4.trans s5'
    have hg := s5' _ _ hg
    have gb1 := s5' _ _ gb1
    walk_at "rs"
    refine ⟨⟨_, SqL.of hg⟩, fun d1 hd1 => ?_⟩
    refine lc_list (K := K) (a := g) (xs := bal.map V.int) (fun i H6 => Same H5 H6 ∧ ∃ ds : List Addr, H6 d1 = some (.lst (ds.map V.ref)) ∧ Paired (DkAt H6) ds (List.replicate i [])) ⟨same_new hd1, [], upd_same, .nil⟩ (fun i H6 _ ⟨s6, _⟩ => SqL.of (s6 _ _ hg)) ?_ ?_
    · rintro i y H6 hy ⟨s6, ds, hd, pd⟩
      have hi : i < bal.length := by
        have e := (List.getElem?_eq_some_iff.mp hy).1
        rwa [List.length_map] at e
      rw [at_ints hi] at hy
      cases hy
      refine ⟨rfl, ?_⟩
      walk_at "rs"
      intro t ht
      have s7' := same_new (o := .dK []) ht
      have gt : DkAt (upd H6 t (.dK [])) t [] := upd_same
      generalize upd H6 t (.dK []) = H7 at s7' gt ⊢
      have hd7 := s7' _ _ hd
      have ld := paired_len pd
      rw [List.length_replicate] at ld
      refine ⟨_, hd7, by rw [List.length_map, ld]; exact small1000 (by omega), same_upd (s6.trans s7') hd1, ds ++ [t], by rw [upd_same, List.map_append]; rfl, ?_⟩
      rw [List.replicate_succ']
      have off : ∀ b kv, DkAt H7 b kv → DkAt (upd H7 d1 (.lst (ds.map V.ref ++ [V.ref t]))) b kv := fun b kv e => by
        have e : H7 b = _ := e
        show upd _ _ _ _ = _
        rw [upd_ne (fun q => by rw [q, hd7] at e; cases e)]
        exact e
      exact paired_snoc (imp_paired pd fun b kv e => off b kv (s7' _ _ e)) (off _ _ gt)
    rintro H6 ⟨s6', ds, gd1, pd⟩
    rw [List.length_map] at pd
    have s6 := s5.trans s6'
    have hg := s6' _ _ hg
    have gb1 := s6' _ _ gb1
    have gc1 := s6' _ _ gc1
    walk_at "rs"
    refine ⟨(by show 3 ≤ sizeLine; decide), fun st hst => ?_⟩
    have s7' := same_new (o := .tup [.ref b1, .ref c1, .ref d1]) hst
    have hStA : StA (upd H6 st (.tup [.ref b1, .ref c1, .ref d1])) st (firstA bal) := ⟨b1, c1, d1, ds, upd_same, s7' _ _ gb1, s7' _ _ gc1, s7' _ _ gd1, imp_paired pd fun _ _ e => s7' _ _ e⟩
    generalize upd H6 st (.tup [.ref b1, .ref c1, .ref d1]) = H7 at s7' hStA ⊢
    have s7 := s6.trans s7'
    have hg := s7' _ _ hg
    clear gb1 gc1 gd1 pd s7' s6' s5' s4' hb1 hc1 hd1 hst
    walk_at "rs"
    refine ⟨g, _, rfl, .inl (SqL.of hg), fun x1 hx1 => ?_⟩
    have s8' := same_new (o := .lst (bal.map V.int)) hx1
    have gx1 : upd H7 x1 (.lst (bal.map V.int)) x1 = some (.lst (bal.map V.int)) := upd_same
    generalize upd H7 x1 (.lst (bal.map V.int)) = H8 at s8' gx1 ⊢
    walk_at "rs"
    refine ⟨x1, bal, rfl, .inl (SqL.of gx1), by omega, fun p H9 s9' np hp => ?_⟩
    have s79 := s8'.trans s9'
    have s9 := s7.trans s79
    have hg := s79 _ _ hg
    have hStA := hStA.same s79
    clear gx1 hx1 s8' s9' s79 np
    have ga := first_good (bal := bal) (by omega) nb 0
    have o1 : ∀ z ∈ (firstA bal).cds, PyData.strOk z = true := fun z hz => (ga.co z hz).2.ok
    walk_at "rs"
    refine ⟨g, _, rfl, .inl ⟨SqL.of hg, fun t ht => ?_⟩⟩
    have u1 := same_new (o := .tup (bal.map V.int)) ht
    have gt : upd H9 t (.tup (bal.map V.int)) t = some (.tup (bal.map V.int)) := upd_same
    generalize upd H9 t (.tup (bal.map V.int)) = H10 at u1 gt ⊢
    walk_at "rs"
    refine ⟨t, bal, rfl, .inr gt, by omega, fun p2 H11 u2' _ hp2 => ?_⟩
    have u2 := u1.trans u2'
    have hpa := hp.same u2
    obtain ⟨dx, fs, hi1⟩ := hpa.ins
    obtain ⟨dy, gs, hi2⟩ := hp2.ins
    refine ⟨p, p2, dx, dy, fs, gs, rfl, rfl, hi1, hi2, p, p2, firstA bal, firstA bal, rfl, hpa, hp2, o1, o1, ⟨_, rfl⟩, ?_⟩
    rw [eqA_refl]
    refine ⟨_, rfl, ?_⟩
    refine ite2 (fun c => absurd c (by decide)) (fun _ => ?_)
    walk_at "rs"
    have hg11 := u2 _ _ hg
    refine ⟨g, _, rfl, .inl (SqL.of hg11), fun x2 hx2 => ?_⟩
    have u3' := same_new (o := .lst (bal.map V.int)) hx2
    have gx2 : upd H11 x2 (.lst (bal.map V.int)) x2 = some (.lst (bal.map V.int)) := upd_same
    generalize upd H11 x2 (.lst (bal.map V.int)) = H12 at u3' gx2 ⊢
    walk_at "rs"
    refine ⟨(by show 1 ≤ sizeLine; decide), fun x3 hx3 => ?_⟩
    have u4' := same_new (o := .lst [V.int 1]) hx3
    have gx3 : upd H12 x3 (.lst [V.int 1]) x3 = some (.lst ([1].map V.int)) := upd_same
    have gx2 := u4' _ _ gx2
    generalize upd H12 x3 (.lst [V.int 1]) = H13 at u4' gx2 gx3 ⊢
    have u4 := u2.trans (u3'.trans u4')
    refine ⟨x2, x3, _, _, rfl, rfl, gx2, gx3, by rw [sizeLine_eq, List.length_map]; show bal.length + 1 ≤ _; omega, fun x4 hx4 => ?_⟩
    have gx4 : upd H13 x4 (.lst (bal.map V.int ++ [1].map V.int)) x4 = some (.lst ((bal ++ [1]).map V.int)) := by rw [upd_same, List.map_append]
    have u5' := same_new (o := .lst (bal.map V.int ++ [1].map V.int)) hx4
    generalize upd H13 x4 (.lst (bal.map V.int ++ [1].map V.int)) = H14 at u5' gx4 ⊢
    walk_at "rs"
    refine ⟨x4, bal ++ [1], rfl, .inl (SqL.of gx4), by rw [List.length_append]; show bal.length + 1 ≤ 100; omega, fun p3 H15 u6' _ hp3 => ?_⟩
    have u6 := u4.trans (u5'.trans u6')
    have hpb := hp.same u6
    obtain ⟨dx3, fs3, hj1⟩ := hpb.ins
    obtain ⟨dy3, gs3, hj2⟩ := hp3.ins
    have gb := first_good (bal := bal ++ [1]) (by rw [List.length_append]; show bal.length + 1 ≤ 100; omega) (fun v hv => by
      rcases List.mem_append.mp hv with h | h
      · exact nb v h
      · rw [List.mem_singleton.mp h]
        decide) 0
    refine ⟨p, p3, dx3, dy3, fs3, gs3, rfl, rfl, hj1, hj2, p, p3, firstA bal, firstA (bal ++ [1]), rfl, hpb, hp3, o1, fun z hz => (gb.co z hz).2.ok, ⟨_, rfl⟩, ?_⟩
    rw [show eqA (firstA bal) (firstA (bal ++ [1])) = false from by
      unfold eqA
      rw [show decide ((firstA bal).bal = (firstA (bal ++ [1])).bal) = false from decide_eq_false fun e => by
        have := congrArg List.length (show bal = bal ++ [1] from e)
        rw [List.length_append] at this
        exact absurd this (by show ¬ bal.length = bal.length + 1; omega)]
      rfl]
    refine ⟨_, rfl, ?_⟩
    refine ite2 (fun c => absurd c (by decide)) (fun _ => ?_)
    walk_at "rs"
    have hSt6 := hStA.same u6
    refine ⟨p, st, firstA bal, bal.length, 0, rfl, hpb, hSt6, ga, by decide, fun H16 u7' => ?_⟩
    have u7 := u6.trans u7'
    have s16 := s9.trans u7
    have hp16 := hp.same u7
    have hSt16 := hStA.same u7
    clear hpa hpb hp3 hSt6 hi1 hi2 hj1 hj2 gb u6 u7 u7' u6' u5' u4 u4' u3' gx2 gx3 gx4 hx2 hx3 hx4 gt ht u1 u2 u2' hg11 hp hStA o1 hp2
    refine ⟨_, rfl, ?_⟩
    refine ite2 (fun c => absurd c (by decide)) (fun _ => ?_)
    walk_at "rs"
    refine ⟨l, _, rfl, .inl (s16.seq hS), ?_⟩
    rw [List.length_map]
    walk_at "rs"
    have q0 : 0 ≤ ((ns.length : Int) + 1) / 2 ∧ ((ns.length : Int) + 1) / 2 ≤ 32 := by omega
    refine ⟨(by show -(2 ^ 62 : Int) ≤ _; omega), (by show _ < (2 ^ 62 : Int); omega), ?_⟩
    refine for_range (lo := 0) (n := (((ns.length : Int) + 1) / 2).toNat) (fun i σ H2 => ∃ (p st : Addr) (A1 : Ac) (v4 v5 v6 v7 : Option V), σ = [some (.ref l), some (.ref g), some (.ref st), some (.ref p), v4, v5, v6, v7, none, none] ∧ Same H H2 ∧ LgAt a.C_Ledger H2 p A1 ∧ StA H2 st A1 ∧ GoodA bal.length (200 * i) A1)
      ⟨p, st, firstA bal, _, _, _, _, rfl, s16, hp16, hSt16, ga⟩ ?_ ?_
    · rintro i σ H2 hi ⟨p, st, A1, v4, v5, v6, v7, rfl, sH, hp, hst, ga⟩
      have hi : i < 32 := by omega
      walk_at "rs"
      refine ⟨l, ns, _, rfl, sH.seq hS, hl, by omega, ?_⟩
      walk_at "rs"
      refine ⟨l, ns, _, rfl, sH.seq hS, hl, by omega, ?_⟩
      walk_at "rs"
      refine ⟨_, _, rfl, fun c x H3 s3' _ hc gx => ?_⟩
      have s3 := sH.trans s3'
      have hp := hp.same s3'
      have hst := hst.same s3'
      clear s3' sH
      walk_at "rs"
      refine ⟨fun σ H4 => ∃ (c q1 r1 : Addr) (x : Cm) (b : Bool) (B : Ac) (v4 v7 : Option V), σ = [some (.ref l), some (.ref g), some (.ref st), some (.ref p), v4, some (.ref c), some (.ref q1), v7, none, none] ∧ Same H H4 ∧ LgAt a.C_Ledger H4 p A1 ∧ StA H4 st A1 ∧ CmAt H4 c x ∧ x.good ∧
        H4 q1 = some (.tup [.ref r1, .bl b]) ∧ StA H4 r1 B ∧ Aft A1 x B b, ?_, ?_⟩
      · walk_at "rs"
        refine ⟨st, c, A1, x, bal.length, 200 * i, rfl, hst, hc, gx.fine, ga, by omega, fun e q H4 s4 hq => ?_, fun q r H4 B e s4 hr2 hq => ?_⟩
        · exact ⟨c, q, st, x, false, A1, _, _, rfl, s3.trans s4, hp.same s4, hst.same s4, s4 _ _ hc, gx, hq, hst.same s4, .inr ⟨e, rfl, rfl⟩⟩
        · exact ⟨c, q, r, x, true, B, _, _, rfl, s3.trans s4, hp.same s4, hst.same s4, s4 _ _ hc, gx, hq, hr2, .inl ⟨e, rfl⟩⟩
      rintro σ H4 ⟨c, q1, r1, x, b, B, v4, v7, rfl, s4, hp, hst, hc, gx, hq1, hr1, aft⟩
      refine ⟨fun σ H5 => ∃ (c q1 r1 q2 r2 : Addr) (v4 : Option V), σ = [some (.ref l), some (.ref g), some (.ref st), some (.ref p), v4, some (.ref c), some (.ref q1), some (.ref q2), none, none] ∧ Same H H5 ∧ LgAt a.C_Ledger H5 p A1 ∧ StA H5 st A1 ∧
        H5 q1 = some (.tup [.ref r1, .bl b]) ∧ StA H5 r1 B ∧ H5 q2 = some (.tup [.ref r2, .bl b]) ∧ LgAt a.C_Ledger H5 r2 B, ?_, ?_⟩
      · walk_at "rs"
        refine ⟨p, c, A1, x, bal.length, 200 * i, rfl, hp, hc, gx.fine, ga, by omega, fun e q2 H5 s5 hq2 => ?_, fun e r2 H5 B2 e2 s5 hr2 hq2 => ?_⟩
        · rcases aft with ⟨e3, rfl⟩ | ⟨e3, rfl, rfl⟩
          · rw [e] at e3; cases e3
          exact ⟨c, q1, r1, q2, p, v4, rfl, s4.trans s5, hp.same s5, hst.same s5, s5 _ _ hq1, hr1.same s5, hq2, hp.same s5⟩
        · rcases aft with ⟨e3, rfl⟩ | ⟨e3, rfl, rfl⟩
          · rw [e2] at e3
            cases e3
            exact ⟨c, q1, r1, e, r2, v4, rfl, s4.trans s5, hp.same s5, hst.same s5, s5 _ _ hq1, hr1.same s5, hq2, hr2⟩
          · rw [e2] at e3; cases e3
      have gB : GoodA bal.length (200 * (i + 1)) B := by
        rcases aft with ⟨e3, rfl⟩ | ⟨e3, rfl, rfl⟩
        · exact (afterA_good ga (by omega) gx.fine e3).mono (by omega)
        · exact ga.mono (by omega)
      have gA := ga.mono (show 200 * i ≤ 200 * (i + 1) by omega)
      clear hq1 hr1 hc hp hst s4 aft
      rintro σ H5 ⟨c, q1, r1, q2, r2, v4, rfl, s5, hp, hst, hq1, hr1, hq2, hr2⟩
      have o1 : ∀ z ∈ A1.cds, PyData.strOk z = true := fun z hz => (gA.co z hz).2.ok
      have o2 : ∀ z ∈ B.cds, PyData.strOk z = true := fun z hz => (gB.co z hz).2.ok
      walk_at "rs"
      refine ⟨.ref q2, .ty "tuple", .type "tuple", .type "tuple", true, rfl, .ty _, .base (.tup hq2), kit_ty (by decide +kernel), ?_⟩
      refine ⟨_, rfl, ?_⟩
      refine ite2 (fun c => absurd c (by decide)) (fun _ => ?_)
      walk_at "rs"
      refine ⟨q2, _, _, _, rfl, rfl, SqT.of hq2, rfl, ?_⟩
      refine ⟨.bl b, .ty "bool", .type "bool", .type "bool", true, rfl, .ty _, .base (.bl b), kit_ty (by decide +kernel), ?_⟩
      refine ⟨_, rfl, ?_⟩
      refine ite2 (fun c => absurd c (by decide)) (fun _ => ?_)
      walk_at "rs"
      refine ⟨q2, _, _, _, rfl, rfl, SqT.of hq2, rfl, ?_⟩
      walk_at "rs"
      refine ⟨q1, _, _, _, rfl, rfl, SqT.of hq1, rfl, ?_⟩
      walk_at "rs"
      refine ite2 (fun c => absurd c (by simp)) (fun _ => ?_)
      walk_at "rs"
      refine ⟨q2, _, _, _, rfl, rfl, SqT.of hq2, rfl, ?_⟩
      walk_at "rs"
      refine ⟨q1, _, _, _, rfl, rfl, SqT.of hq1, rfl, ?_⟩
      refine ⟨r2, r1, B, bal.length, 200 * (i + 1), rfl, hr2, hr1, gB, by omega, fun H6 s6' => ?_⟩
      refine ⟨_, rfl, ?_⟩
      refine ite2 (fun c => absurd c (by decide)) (fun _ => ?_)
      walk_at "rs"
      refine ⟨p, st, A1, bal.length, 200 * (i + 1), rfl, hp.same s6', hst.same s6', gA, by omega, fun H7 s7' => ?_⟩
      refine ⟨_, rfl, ?_⟩
      refine ite2 (fun c => absurd c (by decide)) (fun _ => ?_)
      have s57 := s6'.trans s7'
      have s7 := s5.trans s57
      have hp := hp.same s57
      have hst := hst.same s57
      have hr1 := hr1.same s57
      have hr2 := hr2.same s57
      have hq1 := s57 _ _ hq1
      have hq2 := s57 _ _ hq2
      clear s6' s7' s57
      walk_at "rs"
      refine ⟨q2, _, _, _, rfl, rfl, SqT.of hq2, rfl, ?_⟩
      walk_at "rs"
      obtain ⟨dx, fs, hi1⟩ := hr2.ins
      obtain ⟨dy, gs, hi2⟩ := hp.ins
      refine ⟨r2, p, dx, dy, fs, gs, rfl, rfl, hi1, hi2, r2, p, B, A1, rfl, hr2, hp, o2, o1, ⟨_, rfl⟩, ?_⟩
      walk_at "rs"
      refine ⟨q1, _, _, _, rfl, rfl, SqT.of hq1, rfl, ?_⟩
      walk_at "rs"
      refine ⟨r1, st, B, A1, bal.length, 200 * (i + 1), rfl, rfl, hr1, hst, gB, gA, ?_⟩
      walk_at "rs"
      refine ite2 (fun c => absurd c (by simp)) (fun _ => ?_)
      walk_at "rs"
      refine ⟨q2, _, _, _, rfl, rfl, SqT.of hq2, rfl, ?_⟩
      walk_at "rs"
      refine ⟨q1, _, _, _, rfl, rfl, SqT.of hq1, rfl, ?_⟩
      exact ⟨r2, r1, B, _, _, _, _, rfl, s7, hr2, hr1, gB⟩
    · rintro σ H2 ⟨p, st, A1, v4, v5, v6, v7, rfl, sH, hp, hst, ga⟩
      walk_at "rs"
      exact k H2

end

theorem all_mk {l : PySem.W.OpenLaw} {w : World} {K : PySem.W.Frag} {h : Heap} {mg : Str → Option Value} {fa : Addr} (X : K.In h) (G : h.Ns mainGlobals mg) (hfa : mg "law" = some (.ref fa))
    {t_DIGITS : Tok} {t_MODULUS : Tok} {t_MOST_VALUES : Tok} {t_MOST_STEPS : Tok} {C_Run : Addr} {C_Machine : Addr} {C_Ledger : Addr} {f_Run_init : Addr} {od_Run_init an_Run_init : Option Addr} {sl_Run_init : Array (Option Value)} {oc_Run_init kV_Run_init dc_Run_init pm_Run_init cd_Run_init ct_Run_init : Value} {f_run : Addr} {od_run an_run : Option Addr} {sl_run : Array (Option Value)} {oc_run kV_run dc_run pm_run cd_run ct_run : Value} {f_plus : Addr} {od_plus an_plus : Option Addr} {sl_plus : Array (Option Value)} {oc_plus kV_plus dc_plus pm_plus cd_plus ct_plus : Value} {f_minus : Addr} {od_minus an_minus : Option Addr} {sl_minus : Array (Option Value)} {oc_minus kV_minus dc_minus pm_minus cd_minus ct_minus : Value} {f_times : Addr} {od_times an_times : Option Addr} {sl_times : Array (Option Value)} {oc_times kV_times dc_times pm_times cd_times ct_times : Value} {f_append_digit : Addr} {od_append_digit an_append_digit : Option Addr} {sl_append_digit : Array (Option Value)} {oc_append_digit kV_append_digit dc_append_digit pm_append_digit cd_append_digit ct_append_digit : Value} {f_is_less : Addr} {od_is_less an_is_less : Option Addr} {sl_is_less : Array (Option Value)} {oc_is_less kV_is_less dc_is_less pm_is_less cd_is_less ct_is_less : Value} {f_is_equal : Addr} {od_is_equal an_is_equal : Option Addr} {sl_is_equal : Array (Option Value)} {oc_is_equal kV_is_equal dc_is_equal pm_is_equal cd_is_equal ct_is_equal : Value} {f_Machine_init : Addr} {od_Machine_init an_Machine_init : Option Addr} {sl_Machine_init : Array (Option Value)} {oc_Machine_init kV_Machine_init dc_Machine_init pm_Machine_init cd_Machine_init ct_Machine_init : Value} {f_Machine_push : Addr} {od_Machine_push an_Machine_push : Option Addr} {sl_Machine_push : Array (Option Value)} {oc_Machine_push kV_Machine_push dc_Machine_push pm_Machine_push cd_Machine_push ct_Machine_push : Value} {f_Machine_take : Addr} {od_Machine_take an_Machine_take : Option Addr} {sl_Machine_take : Array (Option Value)} {oc_Machine_take kV_Machine_take dc_Machine_take pm_Machine_take cd_Machine_take ct_Machine_take : Value} {f_Machine_push_number : Addr} {od_Machine_push_number an_Machine_push_number : Option Addr} {sl_Machine_push_number : Array (Option Value)} {oc_Machine_push_number kV_Machine_push_number dc_Machine_push_number pm_Machine_push_number cd_Machine_push_number ct_Machine_push_number : Value} {f_Machine_combine : Addr} {od_Machine_combine an_Machine_combine : Option Addr} {sl_Machine_combine : Array (Option Value)} {oc_Machine_combine kV_Machine_combine dc_Machine_combine pm_Machine_combine cd_Machine_combine ct_Machine_combine : Value} {f_Machine_move : Addr} {od_Machine_move an_Machine_move : Option Addr} {sl_Machine_move : Array (Option Value)} {oc_Machine_move kV_Machine_move dc_Machine_move pm_Machine_move cd_Machine_move ct_Machine_move : Value} {f_Machine_jump : Addr} {od_Machine_jump an_Machine_jump : Option Addr} {sl_Machine_jump : Array (Option Value)} {oc_Machine_jump kV_Machine_jump dc_Machine_jump pm_Machine_jump cd_Machine_jump ct_Machine_jump : Value} {f_Machine_settle : Addr} {od_Machine_settle an_Machine_settle : Option Addr} {sl_Machine_settle : Array (Option Value)} {oc_Machine_settle kV_Machine_settle dc_Machine_settle pm_Machine_settle cd_Machine_settle ct_Machine_settle : Value} {f_Machine_perform : Addr} {od_Machine_perform an_Machine_perform : Option Addr} {sl_Machine_perform : Array (Option Value)} {oc_Machine_perform kV_Machine_perform dc_Machine_perform pm_Machine_perform cd_Machine_perform ct_Machine_perform : Value} {f_Machine_finish : Addr} {od_Machine_finish an_Machine_finish : Option Addr} {sl_Machine_finish : Array (Option Value)} {oc_Machine_finish kV_Machine_finish dc_Machine_finish pm_Machine_finish cd_Machine_finish ct_Machine_finish : Value} {f_Ledger_init : Addr} {od_Ledger_init an_Ledger_init : Option Addr} {sl_Ledger_init : Array (Option Value)} {oc_Ledger_init kV_Ledger_init dc_Ledger_init pm_Ledger_init cd_Ledger_init ct_Ledger_init : Value} {f_Ledger_eq : Addr} {od_Ledger_eq an_Ledger_eq : Option Addr} {sl_Ledger_eq : Array (Option Value)} {oc_Ledger_eq kV_Ledger_eq dc_Ledger_eq pm_Ledger_eq cd_Ledger_eq ct_Ledger_eq : Value} {f_first_ledger : Addr} {od_first_ledger an_first_ledger : Option Addr} {sl_first_ledger : Array (Option Value)} {oc_first_ledger kV_first_ledger dc_first_ledger pm_first_ledger cd_first_ledger ct_first_ledger : Value} {f_after_command : Addr} {od_after_command an_after_command : Option Addr} {sl_after_command : Array (Option Value)} {oc_after_command kV_after_command dc_after_command pm_after_command cd_after_command ct_after_command : Value} {f_done : Addr} {od_done an_done : Option Addr} {sl_done : Array (Option Value)} {oc_done kV_done dc_done pm_done cd_done ct_done : Value} {f_payment : Addr} {od_payment an_payment : Option Addr} {sl_payment : Array (Option Value)} {oc_payment kV_payment dc_payment pm_payment cd_payment ct_payment : Value} {f_new_program : Addr} {od_new_program an_new_program : Option Addr} {sl_new_program : Array (Option Value)} {oc_new_program kV_new_program dc_new_program pm_new_program cd_new_program ct_new_program : Value} {f_call : Addr} {od_call an_call : Option Addr} {sl_call : Array (Option Value)} {oc_call kV_call dc_call pm_call cd_call ct_call : Value} {f_exist : Addr} {od_exist an_exist : Option Addr} {sl_exist : Array (Option Value)} {oc_exist kV_exist dc_exist pm_exist cd_exist ct_exist : Value} {f_moved : Addr} {od_moved an_moved : Option Addr} {sl_moved : Array (Option Value)} {oc_moved kV_moved dc_moved pm_moved cd_moved ct_moved : Value} {f_replaced : Addr} {od_replaced an_replaced : Option Addr} {sl_replaced : Array (Option Value)} {oc_replaced kV_replaced dc_replaced pm_replaced cd_replaced ct_replaced : Value} {f_law_cell : Addr} {od_law_cell an_law_cell : Option Addr} {sl_law_cell : Array (Option Value)} {oc_law_cell kV_law_cell dc_law_cell pm_law_cell cd_law_cell ct_law_cell : Value} {f_law_row : Addr} {od_law_row an_law_row : Option Addr} {sl_law_row : Array (Option Value)} {oc_law_row kV_law_row dc_law_row pm_law_row cd_law_row ct_law_row : Value} {f_law_number : Addr} {od_law_number an_law_number : Option Addr} {sl_law_number : Array (Option Value)} {oc_law_number kV_law_number dc_law_number pm_law_number cd_law_number ct_law_number : Value} {f_law_code : Addr} {od_law_code an_law_code : Option Addr} {sl_law_code : Array (Option Value)} {oc_law_code kV_law_code dc_law_code pm_law_code cd_law_code ct_law_code : Value} {f_law_place : Addr} {od_law_place an_law_place : Option Addr} {sl_law_place : Array (Option Value)} {oc_law_place kV_law_place dc_law_place pm_law_place cd_law_place ct_law_place : Value} {f_law_command : Addr} {od_law_command an_law_command : Option Addr} {sl_law_command : Array (Option Value)} {oc_law_command kV_law_command dc_law_command pm_law_command cd_law_command ct_law_command : Value} {f_law_reckon : Addr} {od_law_reckon an_law_reckon : Option Addr} {sl_law_reckon : Array (Option Value)} {oc_law_reckon kV_law_reckon dc_law_reckon pm_law_reckon cd_law_reckon ct_law_reckon : Value} {f_law_need : Addr} {od_law_need an_law_need : Option Addr} {sl_law_need : Array (Option Value)} {oc_law_need kV_law_need dc_law_need pm_law_need cd_law_need ct_law_need : Value} {f_law_act : Addr} {od_law_act an_law_act : Option Addr} {sl_law_act : Array (Option Value)} {oc_law_act kV_law_act dc_law_act pm_law_act cd_law_act ct_law_act : Value} {f_law_sign : Addr} {od_law_sign an_law_sign : Option Addr} {sl_law_sign : Array (Option Value)} {oc_law_sign kV_law_sign dc_law_sign pm_law_sign cd_law_sign ct_law_sign : Value} {f_law_run : Addr} {od_law_run an_law_run : Option Addr} {sl_law_run : Array (Option Value)} {oc_law_run kV_law_run dc_law_run pm_law_run cd_law_run ct_law_run : Value} {f_law_after : Addr} {od_law_after an_law_after : Option Addr} {sl_law_after : Array (Option Value)} {oc_law_after kV_law_after dc_law_after pm_law_after cd_law_after ct_law_after : Value} {f_law_pairs : Addr} {od_law_pairs an_law_pairs : Option Addr} {sl_law_pairs : Array (Option Value)} {oc_law_pairs kV_law_pairs dc_law_pairs pm_law_pairs cd_law_pairs ct_law_pairs : Value} {f_law_shows : Addr} {od_law_shows an_law_shows : Option Addr} {sl_law_shows : Array (Option Value)} {oc_law_shows kV_law_shows dc_law_shows pm_law_shows cd_law_shows ct_law_shows : Value} {f_law : Addr} {od_law an_law : Option Addr} {sl_law : Array (Option Value)} {oc_law kV_law dc_law pm_law cd_law ct_law : Value} {P_OF_TWO : Addr} {n_OF_TWO : Nat} {h_OF_TWO_a h_OF_TWO_s h_OF_TWO_m h_OF_TWO_t h_OF_TWO_c h_OF_TWO_e : Int} {t_OF_TWO_a t_OF_TWO_s t_OF_TWO_m t_OF_TWO_t t_OF_TWO_c t_OF_TWO_e : Tok} {C_Failed : Addr}
    (c_DIGITS : PySem.W.nsIn K mainGlobals "DIGITS" = some (some (.str "0123456789" t_DIGITS)))
    (c_MODULUS : PySem.W.nsIn K mainGlobals "MODULUS" = some (some (.int 1000000 t_MODULUS)))
    (c_MOST_VALUES : PySem.W.nsIn K mainGlobals "MOST_VALUES" = some (some (.int 16 t_MOST_VALUES)))
    (c_MOST_STEPS : PySem.W.nsIn K mainGlobals "MOST_STEPS" = some (some (.int 200 t_MOST_STEPS)))
    (n_len : PySem.W.nsIn K mainGlobals "len" = some none)
    (n_range : PySem.W.nsIn K mainGlobals "range" = some none)
    (n_isinstance : PySem.W.nsIn K mainGlobals "isinstance" = some none)
    (n_int : PySem.W.nsIn K mainGlobals "int" = some none)
    (n_bool : PySem.W.nsIn K mainGlobals "bool" = some none)
    (n_list : PySem.W.nsIn K mainGlobals "list" = some none)
    (n_tuple : PySem.W.nsIn K mainGlobals "tuple" = some none)
    (n_str : PySem.W.nsIn K mainGlobals "str" = some none)
    (n_dict : PySem.W.nsIn K mainGlobals "dict" = some none)
    (n_sorted : PySem.W.nsIn K mainGlobals "sorted" = some none)
    (n_max : PySem.W.nsIn K mainGlobals "max" = some none)
    (n_abs : PySem.W.nsIn K mainGlobals "abs" = some none)
    (n_all : PySem.W.nsIn K mainGlobals "all" = some none)
    (g_Run : PySem.W.nsIn K mainGlobals "Run" = some (some (.ref C_Run)))
    (g_Machine : PySem.W.nsIn K mainGlobals "Machine" = some (some (.ref C_Machine)))
    (g_Ledger : PySem.W.nsIn K mainGlobals "Ledger" = some (some (.ref C_Ledger)))
    (a_Run_init : PySem.W.findIn K (.ref C_Run) "__init__" = some (some (.ref f_Run_init)))
    (i_Run_init : PySem.W.isFn K (.ref f_Run_init) = true)
    (l_Run_init : K.lookup f_Run_init = some ⟨oc_Run_init, od_Run_init, .func (PySem.W.fnOf "__init__" "Run.__init__" (defArgs s_Run_init) (defBody s_Run_init) (defScope s_Run_init) .none kV_Run_init dc_Run_init pm_Run_init an_Run_init cd_Run_init ct_Run_init), sl_Run_init⟩)
    (q_Run_init : PySem.W.codeIn K cd_Run_init "Run.__init__" = true)
    (k_Run_init : PySem.W.keepIn K (.ref f_Run_init) = true)
    (a_run : PySem.W.nsIn K mainGlobals "run" = some (some (.ref f_run)))
    (l_run : K.lookup f_run = some ⟨oc_run, od_run, .func (PySem.W.fnOf "run" "run" (defArgs s_run) (defBody s_run) (defScope s_run) .none kV_run dc_run pm_run an_run cd_run ct_run), sl_run⟩)
    (q_run : PySem.W.codeIn K cd_run "run" = true)
    (k_run : PySem.W.keepIn K (.ref f_run) = true)
    (a_plus : PySem.W.nsIn K mainGlobals "_plus" = some (some (.ref f_plus)))
    (l_plus : K.lookup f_plus = some ⟨oc_plus, od_plus, .func (PySem.W.fnOf "_plus" "_plus" (defArgs s_plus) (defBody s_plus) (defScope s_plus) .none kV_plus dc_plus pm_plus an_plus cd_plus ct_plus), sl_plus⟩)
    (q_plus : PySem.W.codeIn K cd_plus "_plus" = true)
    (k_plus : PySem.W.keepIn K (.ref f_plus) = true)
    (a_minus : PySem.W.nsIn K mainGlobals "_minus" = some (some (.ref f_minus)))
    (l_minus : K.lookup f_minus = some ⟨oc_minus, od_minus, .func (PySem.W.fnOf "_minus" "_minus" (defArgs s_minus) (defBody s_minus) (defScope s_minus) .none kV_minus dc_minus pm_minus an_minus cd_minus ct_minus), sl_minus⟩)
    (q_minus : PySem.W.codeIn K cd_minus "_minus" = true)
    (k_minus : PySem.W.keepIn K (.ref f_minus) = true)
    (a_times : PySem.W.nsIn K mainGlobals "_times" = some (some (.ref f_times)))
    (l_times : K.lookup f_times = some ⟨oc_times, od_times, .func (PySem.W.fnOf "_times" "_times" (defArgs s_times) (defBody s_times) (defScope s_times) .none kV_times dc_times pm_times an_times cd_times ct_times), sl_times⟩)
    (q_times : PySem.W.codeIn K cd_times "_times" = true)
    (k_times : PySem.W.keepIn K (.ref f_times) = true)
    (a_append_digit : PySem.W.nsIn K mainGlobals "_append_digit" = some (some (.ref f_append_digit)))
    (l_append_digit : K.lookup f_append_digit = some ⟨oc_append_digit, od_append_digit, .func (PySem.W.fnOf "_append_digit" "_append_digit" (defArgs s_append_digit) (defBody s_append_digit) (defScope s_append_digit) .none kV_append_digit dc_append_digit pm_append_digit an_append_digit cd_append_digit ct_append_digit), sl_append_digit⟩)
    (q_append_digit : PySem.W.codeIn K cd_append_digit "_append_digit" = true)
    (k_append_digit : PySem.W.keepIn K (.ref f_append_digit) = true)
    (a_is_less : PySem.W.nsIn K mainGlobals "_is_less" = some (some (.ref f_is_less)))
    (l_is_less : K.lookup f_is_less = some ⟨oc_is_less, od_is_less, .func (PySem.W.fnOf "_is_less" "_is_less" (defArgs s_is_less) (defBody s_is_less) (defScope s_is_less) .none kV_is_less dc_is_less pm_is_less an_is_less cd_is_less ct_is_less), sl_is_less⟩)
    (q_is_less : PySem.W.codeIn K cd_is_less "_is_less" = true)
    (k_is_less : PySem.W.keepIn K (.ref f_is_less) = true)
    (a_is_equal : PySem.W.nsIn K mainGlobals "_is_equal" = some (some (.ref f_is_equal)))
    (l_is_equal : K.lookup f_is_equal = some ⟨oc_is_equal, od_is_equal, .func (PySem.W.fnOf "_is_equal" "_is_equal" (defArgs s_is_equal) (defBody s_is_equal) (defScope s_is_equal) .none kV_is_equal dc_is_equal pm_is_equal an_is_equal cd_is_equal ct_is_equal), sl_is_equal⟩)
    (q_is_equal : PySem.W.codeIn K cd_is_equal "_is_equal" = true)
    (k_is_equal : PySem.W.keepIn K (.ref f_is_equal) = true)
    (a_Machine_init : PySem.W.findIn K (.ref C_Machine) "__init__" = some (some (.ref f_Machine_init)))
    (i_Machine_init : PySem.W.isFn K (.ref f_Machine_init) = true)
    (l_Machine_init : K.lookup f_Machine_init = some ⟨oc_Machine_init, od_Machine_init, .func (PySem.W.fnOf "__init__" "Machine.__init__" (defArgs s_Machine_init) (defBody s_Machine_init) (defScope s_Machine_init) .none kV_Machine_init dc_Machine_init pm_Machine_init an_Machine_init cd_Machine_init ct_Machine_init), sl_Machine_init⟩)
    (q_Machine_init : PySem.W.codeIn K cd_Machine_init "Machine.__init__" = true)
    (k_Machine_init : PySem.W.keepIn K (.ref f_Machine_init) = true)
    (a_Machine_push : PySem.W.findIn K (.ref C_Machine) "push" = some (some (.ref f_Machine_push)))
    (i_Machine_push : PySem.W.isFn K (.ref f_Machine_push) = true)
    (l_Machine_push : K.lookup f_Machine_push = some ⟨oc_Machine_push, od_Machine_push, .func (PySem.W.fnOf "push" "Machine.push" (defArgs s_Machine_push) (defBody s_Machine_push) (defScope s_Machine_push) .none kV_Machine_push dc_Machine_push pm_Machine_push an_Machine_push cd_Machine_push ct_Machine_push), sl_Machine_push⟩)
    (q_Machine_push : PySem.W.codeIn K cd_Machine_push "Machine.push" = true)
    (k_Machine_push : PySem.W.keepIn K (.ref f_Machine_push) = true)
    (a_Machine_take : PySem.W.findIn K (.ref C_Machine) "take" = some (some (.ref f_Machine_take)))
    (i_Machine_take : PySem.W.isFn K (.ref f_Machine_take) = true)
    (l_Machine_take : K.lookup f_Machine_take = some ⟨oc_Machine_take, od_Machine_take, .func (PySem.W.fnOf "take" "Machine.take" (defArgs s_Machine_take) (defBody s_Machine_take) (defScope s_Machine_take) .none kV_Machine_take dc_Machine_take pm_Machine_take an_Machine_take cd_Machine_take ct_Machine_take), sl_Machine_take⟩)
    (q_Machine_take : PySem.W.codeIn K cd_Machine_take "Machine.take" = true)
    (k_Machine_take : PySem.W.keepIn K (.ref f_Machine_take) = true)
    (a_Machine_push_number : PySem.W.findIn K (.ref C_Machine) "push_number" = some (some (.ref f_Machine_push_number)))
    (i_Machine_push_number : PySem.W.isFn K (.ref f_Machine_push_number) = true)
    (l_Machine_push_number : K.lookup f_Machine_push_number = some ⟨oc_Machine_push_number, od_Machine_push_number, .func (PySem.W.fnOf "push_number" "Machine.push_number" (defArgs s_Machine_push_number) (defBody s_Machine_push_number) (defScope s_Machine_push_number) .none kV_Machine_push_number dc_Machine_push_number pm_Machine_push_number an_Machine_push_number cd_Machine_push_number ct_Machine_push_number), sl_Machine_push_number⟩)
    (q_Machine_push_number : PySem.W.codeIn K cd_Machine_push_number "Machine.push_number" = true)
    (k_Machine_push_number : PySem.W.keepIn K (.ref f_Machine_push_number) = true)
    (a_Machine_combine : PySem.W.findIn K (.ref C_Machine) "combine" = some (some (.ref f_Machine_combine)))
    (i_Machine_combine : PySem.W.isFn K (.ref f_Machine_combine) = true)
    (l_Machine_combine : K.lookup f_Machine_combine = some ⟨oc_Machine_combine, od_Machine_combine, .func (PySem.W.fnOf "combine" "Machine.combine" (defArgs s_Machine_combine) (defBody s_Machine_combine) (defScope s_Machine_combine) .none kV_Machine_combine dc_Machine_combine pm_Machine_combine an_Machine_combine cd_Machine_combine ct_Machine_combine), sl_Machine_combine⟩)
    (q_Machine_combine : PySem.W.codeIn K cd_Machine_combine "Machine.combine" = true)
    (k_Machine_combine : PySem.W.keepIn K (.ref f_Machine_combine) = true)
    (a_Machine_move : PySem.W.findIn K (.ref C_Machine) "move" = some (some (.ref f_Machine_move)))
    (i_Machine_move : PySem.W.isFn K (.ref f_Machine_move) = true)
    (l_Machine_move : K.lookup f_Machine_move = some ⟨oc_Machine_move, od_Machine_move, .func (PySem.W.fnOf "move" "Machine.move" (defArgs s_Machine_move) (defBody s_Machine_move) (defScope s_Machine_move) .none kV_Machine_move dc_Machine_move pm_Machine_move an_Machine_move cd_Machine_move ct_Machine_move), sl_Machine_move⟩)
    (q_Machine_move : PySem.W.codeIn K cd_Machine_move "Machine.move" = true)
    (k_Machine_move : PySem.W.keepIn K (.ref f_Machine_move) = true)
    (a_Machine_jump : PySem.W.findIn K (.ref C_Machine) "jump" = some (some (.ref f_Machine_jump)))
    (i_Machine_jump : PySem.W.isFn K (.ref f_Machine_jump) = true)
    (l_Machine_jump : K.lookup f_Machine_jump = some ⟨oc_Machine_jump, od_Machine_jump, .func (PySem.W.fnOf "jump" "Machine.jump" (defArgs s_Machine_jump) (defBody s_Machine_jump) (defScope s_Machine_jump) .none kV_Machine_jump dc_Machine_jump pm_Machine_jump an_Machine_jump cd_Machine_jump ct_Machine_jump), sl_Machine_jump⟩)
    (q_Machine_jump : PySem.W.codeIn K cd_Machine_jump "Machine.jump" = true)
    (k_Machine_jump : PySem.W.keepIn K (.ref f_Machine_jump) = true)
    (a_Machine_settle : PySem.W.findIn K (.ref C_Machine) "settle" = some (some (.ref f_Machine_settle)))
    (i_Machine_settle : PySem.W.isFn K (.ref f_Machine_settle) = true)
    (l_Machine_settle : K.lookup f_Machine_settle = some ⟨oc_Machine_settle, od_Machine_settle, .func (PySem.W.fnOf "settle" "Machine.settle" (defArgs s_Machine_settle) (defBody s_Machine_settle) (defScope s_Machine_settle) .none kV_Machine_settle dc_Machine_settle pm_Machine_settle an_Machine_settle cd_Machine_settle ct_Machine_settle), sl_Machine_settle⟩)
    (q_Machine_settle : PySem.W.codeIn K cd_Machine_settle "Machine.settle" = true)
    (k_Machine_settle : PySem.W.keepIn K (.ref f_Machine_settle) = true)
    (a_Machine_perform : PySem.W.findIn K (.ref C_Machine) "perform" = some (some (.ref f_Machine_perform)))
    (i_Machine_perform : PySem.W.isFn K (.ref f_Machine_perform) = true)
    (l_Machine_perform : K.lookup f_Machine_perform = some ⟨oc_Machine_perform, od_Machine_perform, .func (PySem.W.fnOf "perform" "Machine.perform" (defArgs s_Machine_perform) (defBody s_Machine_perform) (defScope s_Machine_perform) .none kV_Machine_perform dc_Machine_perform pm_Machine_perform an_Machine_perform cd_Machine_perform ct_Machine_perform), sl_Machine_perform⟩)
    (q_Machine_perform : PySem.W.codeIn K cd_Machine_perform "Machine.perform" = true)
    (k_Machine_perform : PySem.W.keepIn K (.ref f_Machine_perform) = true)
    (a_Machine_finish : PySem.W.findIn K (.ref C_Machine) "finish" = some (some (.ref f_Machine_finish)))
    (i_Machine_finish : PySem.W.isFn K (.ref f_Machine_finish) = true)
    (l_Machine_finish : K.lookup f_Machine_finish = some ⟨oc_Machine_finish, od_Machine_finish, .func (PySem.W.fnOf "finish" "Machine.finish" (defArgs s_Machine_finish) (defBody s_Machine_finish) (defScope s_Machine_finish) .none kV_Machine_finish dc_Machine_finish pm_Machine_finish an_Machine_finish cd_Machine_finish ct_Machine_finish), sl_Machine_finish⟩)
    (q_Machine_finish : PySem.W.codeIn K cd_Machine_finish "Machine.finish" = true)
    (k_Machine_finish : PySem.W.keepIn K (.ref f_Machine_finish) = true)
    (a_Ledger_init : PySem.W.findIn K (.ref C_Ledger) "__init__" = some (some (.ref f_Ledger_init)))
    (i_Ledger_init : PySem.W.isFn K (.ref f_Ledger_init) = true)
    (l_Ledger_init : K.lookup f_Ledger_init = some ⟨oc_Ledger_init, od_Ledger_init, .func (PySem.W.fnOf "__init__" "Ledger.__init__" (defArgs s_Ledger_init) (defBody s_Ledger_init) (defScope s_Ledger_init) .none kV_Ledger_init dc_Ledger_init pm_Ledger_init an_Ledger_init cd_Ledger_init ct_Ledger_init), sl_Ledger_init⟩)
    (q_Ledger_init : PySem.W.codeIn K cd_Ledger_init "Ledger.__init__" = true)
    (k_Ledger_init : PySem.W.keepIn K (.ref f_Ledger_init) = true)
    (a_Ledger_eq : PySem.W.findIn K (.ref C_Ledger) "__eq__" = some (some (.ref f_Ledger_eq)))
    (i_Ledger_eq : PySem.W.isFn K (.ref f_Ledger_eq) = true)
    (l_Ledger_eq : K.lookup f_Ledger_eq = some ⟨oc_Ledger_eq, od_Ledger_eq, .func (PySem.W.fnOf "__eq__" "Ledger.__eq__" (defArgs s_Ledger_eq) (defBody s_Ledger_eq) (defScope s_Ledger_eq) .none kV_Ledger_eq dc_Ledger_eq pm_Ledger_eq an_Ledger_eq cd_Ledger_eq ct_Ledger_eq), sl_Ledger_eq⟩)
    (q_Ledger_eq : PySem.W.codeIn K cd_Ledger_eq "Ledger.__eq__" = true)
    (k_Ledger_eq : PySem.W.keepIn K (.ref f_Ledger_eq) = true)
    (a_first_ledger : PySem.W.nsIn K mainGlobals "first_ledger" = some (some (.ref f_first_ledger)))
    (l_first_ledger : K.lookup f_first_ledger = some ⟨oc_first_ledger, od_first_ledger, .func (PySem.W.fnOf "first_ledger" "first_ledger" (defArgs s_first_ledger) (defBody s_first_ledger) (defScope s_first_ledger) .none kV_first_ledger dc_first_ledger pm_first_ledger an_first_ledger cd_first_ledger ct_first_ledger), sl_first_ledger⟩)
    (q_first_ledger : PySem.W.codeIn K cd_first_ledger "first_ledger" = true)
    (k_first_ledger : PySem.W.keepIn K (.ref f_first_ledger) = true)
    (a_after_command : PySem.W.nsIn K mainGlobals "after_command" = some (some (.ref f_after_command)))
    (l_after_command : K.lookup f_after_command = some ⟨oc_after_command, od_after_command, .func (PySem.W.fnOf "after_command" "after_command" (defArgs s_after_command) (defBody s_after_command) (defScope s_after_command) .none kV_after_command dc_after_command pm_after_command an_after_command cd_after_command ct_after_command), sl_after_command⟩)
    (q_after_command : PySem.W.codeIn K cd_after_command "after_command" = true)
    (k_after_command : PySem.W.keepIn K (.ref f_after_command) = true)
    (a_done : PySem.W.nsIn K mainGlobals "_done" = some (some (.ref f_done)))
    (l_done : K.lookup f_done = some ⟨oc_done, od_done, .func (PySem.W.fnOf "_done" "_done" (defArgs s_done) (defBody s_done) (defScope s_done) .none kV_done dc_done pm_done an_done cd_done ct_done), sl_done⟩)
    (q_done : PySem.W.codeIn K cd_done "_done" = true)
    (k_done : PySem.W.keepIn K (.ref f_done) = true)
    (a_payment : PySem.W.nsIn K mainGlobals "_payment" = some (some (.ref f_payment)))
    (l_payment : K.lookup f_payment = some ⟨oc_payment, od_payment, .func (PySem.W.fnOf "_payment" "_payment" (defArgs s_payment) (defBody s_payment) (defScope s_payment) .none kV_payment dc_payment pm_payment an_payment cd_payment ct_payment), sl_payment⟩)
    (q_payment : PySem.W.codeIn K cd_payment "_payment" = true)
    (k_payment : PySem.W.keepIn K (.ref f_payment) = true)
    (a_new_program : PySem.W.nsIn K mainGlobals "_new_program" = some (some (.ref f_new_program)))
    (l_new_program : K.lookup f_new_program = some ⟨oc_new_program, od_new_program, .func (PySem.W.fnOf "_new_program" "_new_program" (defArgs s_new_program) (defBody s_new_program) (defScope s_new_program) .none kV_new_program dc_new_program pm_new_program an_new_program cd_new_program ct_new_program), sl_new_program⟩)
    (q_new_program : PySem.W.codeIn K cd_new_program "_new_program" = true)
    (k_new_program : PySem.W.keepIn K (.ref f_new_program) = true)
    (a_call : PySem.W.nsIn K mainGlobals "_call" = some (some (.ref f_call)))
    (l_call : K.lookup f_call = some ⟨oc_call, od_call, .func (PySem.W.fnOf "_call" "_call" (defArgs s_call) (defBody s_call) (defScope s_call) .none kV_call dc_call pm_call an_call cd_call ct_call), sl_call⟩)
    (q_call : PySem.W.codeIn K cd_call "_call" = true)
    (k_call : PySem.W.keepIn K (.ref f_call) = true)
    (a_exist : PySem.W.nsIn K mainGlobals "_exist" = some (some (.ref f_exist)))
    (l_exist : K.lookup f_exist = some ⟨oc_exist, od_exist, .func (PySem.W.fnOf "_exist" "_exist" (defArgs s_exist) (defBody s_exist) (defScope s_exist) .none kV_exist dc_exist pm_exist an_exist cd_exist ct_exist), sl_exist⟩)
    (q_exist : PySem.W.codeIn K cd_exist "_exist" = true)
    (k_exist : PySem.W.keepIn K (.ref f_exist) = true)
    (a_moved : PySem.W.nsIn K mainGlobals "_moved" = some (some (.ref f_moved)))
    (l_moved : K.lookup f_moved = some ⟨oc_moved, od_moved, .func (PySem.W.fnOf "_moved" "_moved" (defArgs s_moved) (defBody s_moved) (defScope s_moved) .none kV_moved dc_moved pm_moved an_moved cd_moved ct_moved), sl_moved⟩)
    (q_moved : PySem.W.codeIn K cd_moved "_moved" = true)
    (k_moved : PySem.W.keepIn K (.ref f_moved) = true)
    (a_replaced : PySem.W.nsIn K mainGlobals "_replaced" = some (some (.ref f_replaced)))
    (l_replaced : K.lookup f_replaced = some ⟨oc_replaced, od_replaced, .func (PySem.W.fnOf "_replaced" "_replaced" (defArgs s_replaced) (defBody s_replaced) (defScope s_replaced) .none kV_replaced dc_replaced pm_replaced an_replaced cd_replaced ct_replaced), sl_replaced⟩)
    (q_replaced : PySem.W.codeIn K cd_replaced "_replaced" = true)
    (k_replaced : PySem.W.keepIn K (.ref f_replaced) = true)
    (a_law_cell : PySem.W.nsIn K mainGlobals "_law_cell" = some (some (.ref f_law_cell)))
    (l_law_cell : K.lookup f_law_cell = some ⟨oc_law_cell, od_law_cell, .func (PySem.W.fnOf "_law_cell" "_law_cell" (defArgs s_law_cell) (defBody s_law_cell) (defScope s_law_cell) .none kV_law_cell dc_law_cell pm_law_cell an_law_cell cd_law_cell ct_law_cell), sl_law_cell⟩)
    (q_law_cell : PySem.W.codeIn K cd_law_cell "_law_cell" = true)
    (k_law_cell : PySem.W.keepIn K (.ref f_law_cell) = true)
    (a_law_row : PySem.W.nsIn K mainGlobals "_law_row" = some (some (.ref f_law_row)))
    (l_law_row : K.lookup f_law_row = some ⟨oc_law_row, od_law_row, .func (PySem.W.fnOf "_law_row" "_law_row" (defArgs s_law_row) (defBody s_law_row) (defScope s_law_row) .none kV_law_row dc_law_row pm_law_row an_law_row cd_law_row ct_law_row), sl_law_row⟩)
    (q_law_row : PySem.W.codeIn K cd_law_row "_law_row" = true)
    (k_law_row : PySem.W.keepIn K (.ref f_law_row) = true)
    (a_law_number : PySem.W.nsIn K mainGlobals "_law_number" = some (some (.ref f_law_number)))
    (l_law_number : K.lookup f_law_number = some ⟨oc_law_number, od_law_number, .func (PySem.W.fnOf "_law_number" "_law_number" (defArgs s_law_number) (defBody s_law_number) (defScope s_law_number) .none kV_law_number dc_law_number pm_law_number an_law_number cd_law_number ct_law_number), sl_law_number⟩)
    (q_law_number : PySem.W.codeIn K cd_law_number "_law_number" = true)
    (k_law_number : PySem.W.keepIn K (.ref f_law_number) = true)
    (a_law_code : PySem.W.nsIn K mainGlobals "_law_code" = some (some (.ref f_law_code)))
    (l_law_code : K.lookup f_law_code = some ⟨oc_law_code, od_law_code, .func (PySem.W.fnOf "_law_code" "_law_code" (defArgs s_law_code) (defBody s_law_code) (defScope s_law_code) .none kV_law_code dc_law_code pm_law_code an_law_code cd_law_code ct_law_code), sl_law_code⟩)
    (q_law_code : PySem.W.codeIn K cd_law_code "_law_code" = true)
    (k_law_code : PySem.W.keepIn K (.ref f_law_code) = true)
    (a_law_place : PySem.W.nsIn K mainGlobals "_law_place" = some (some (.ref f_law_place)))
    (l_law_place : K.lookup f_law_place = some ⟨oc_law_place, od_law_place, .func (PySem.W.fnOf "_law_place" "_law_place" (defArgs s_law_place) (defBody s_law_place) (defScope s_law_place) .none kV_law_place dc_law_place pm_law_place an_law_place cd_law_place ct_law_place), sl_law_place⟩)
    (q_law_place : PySem.W.codeIn K cd_law_place "_law_place" = true)
    (k_law_place : PySem.W.keepIn K (.ref f_law_place) = true)
    (a_law_command : PySem.W.nsIn K mainGlobals "_law_command" = some (some (.ref f_law_command)))
    (l_law_command : K.lookup f_law_command = some ⟨oc_law_command, od_law_command, .func (PySem.W.fnOf "_law_command" "_law_command" (defArgs s_law_command) (defBody s_law_command) (defScope s_law_command) .none kV_law_command dc_law_command pm_law_command an_law_command cd_law_command ct_law_command), sl_law_command⟩)
    (q_law_command : PySem.W.codeIn K cd_law_command "_law_command" = true)
    (k_law_command : PySem.W.keepIn K (.ref f_law_command) = true)
    (a_law_reckon : PySem.W.nsIn K mainGlobals "_law_reckon" = some (some (.ref f_law_reckon)))
    (l_law_reckon : K.lookup f_law_reckon = some ⟨oc_law_reckon, od_law_reckon, .func (PySem.W.fnOf "_law_reckon" "_law_reckon" (defArgs s_law_reckon) (defBody s_law_reckon) (defScope s_law_reckon) .none kV_law_reckon dc_law_reckon pm_law_reckon an_law_reckon cd_law_reckon ct_law_reckon), sl_law_reckon⟩)
    (q_law_reckon : PySem.W.codeIn K cd_law_reckon "_law_reckon" = true)
    (k_law_reckon : PySem.W.keepIn K (.ref f_law_reckon) = true)
    (a_law_need : PySem.W.nsIn K mainGlobals "_law_need" = some (some (.ref f_law_need)))
    (l_law_need : K.lookup f_law_need = some ⟨oc_law_need, od_law_need, .func (PySem.W.fnOf "_law_need" "_law_need" (defArgs s_law_need) (defBody s_law_need) (defScope s_law_need) .none kV_law_need dc_law_need pm_law_need an_law_need cd_law_need ct_law_need), sl_law_need⟩)
    (q_law_need : PySem.W.codeIn K cd_law_need "_law_need" = true)
    (k_law_need : PySem.W.keepIn K (.ref f_law_need) = true)
    (a_law_act : PySem.W.nsIn K mainGlobals "_law_act" = some (some (.ref f_law_act)))
    (l_law_act : K.lookup f_law_act = some ⟨oc_law_act, od_law_act, .func (PySem.W.fnOf "_law_act" "_law_act" (defArgs s_law_act) (defBody s_law_act) (defScope s_law_act) .none kV_law_act dc_law_act pm_law_act an_law_act cd_law_act ct_law_act), sl_law_act⟩)
    (q_law_act : PySem.W.codeIn K cd_law_act "_law_act" = true)
    (k_law_act : PySem.W.keepIn K (.ref f_law_act) = true)
    (a_law_sign : PySem.W.nsIn K mainGlobals "_law_sign" = some (some (.ref f_law_sign)))
    (l_law_sign : K.lookup f_law_sign = some ⟨oc_law_sign, od_law_sign, .func (PySem.W.fnOf "_law_sign" "_law_sign" (defArgs s_law_sign) (defBody s_law_sign) (defScope s_law_sign) .none kV_law_sign dc_law_sign pm_law_sign an_law_sign cd_law_sign ct_law_sign), sl_law_sign⟩)
    (q_law_sign : PySem.W.codeIn K cd_law_sign "_law_sign" = true)
    (k_law_sign : PySem.W.keepIn K (.ref f_law_sign) = true)
    (a_law_run : PySem.W.nsIn K mainGlobals "_law_run" = some (some (.ref f_law_run)))
    (l_law_run : K.lookup f_law_run = some ⟨oc_law_run, od_law_run, .func (PySem.W.fnOf "_law_run" "_law_run" (defArgs s_law_run) (defBody s_law_run) (defScope s_law_run) .none kV_law_run dc_law_run pm_law_run an_law_run cd_law_run ct_law_run), sl_law_run⟩)
    (q_law_run : PySem.W.codeIn K cd_law_run "_law_run" = true)
    (k_law_run : PySem.W.keepIn K (.ref f_law_run) = true)
    (a_law_after : PySem.W.nsIn K mainGlobals "_law_after" = some (some (.ref f_law_after)))
    (l_law_after : K.lookup f_law_after = some ⟨oc_law_after, od_law_after, .func (PySem.W.fnOf "_law_after" "_law_after" (defArgs s_law_after) (defBody s_law_after) (defScope s_law_after) .none kV_law_after dc_law_after pm_law_after an_law_after cd_law_after ct_law_after), sl_law_after⟩)
    (q_law_after : PySem.W.codeIn K cd_law_after "_law_after" = true)
    (k_law_after : PySem.W.keepIn K (.ref f_law_after) = true)
    (a_law_pairs : PySem.W.nsIn K mainGlobals "_law_pairs" = some (some (.ref f_law_pairs)))
    (l_law_pairs : K.lookup f_law_pairs = some ⟨oc_law_pairs, od_law_pairs, .func (PySem.W.fnOf "_law_pairs" "_law_pairs" (defArgs s_law_pairs) (defBody s_law_pairs) (defScope s_law_pairs) .none kV_law_pairs dc_law_pairs pm_law_pairs an_law_pairs cd_law_pairs ct_law_pairs), sl_law_pairs⟩)
    (q_law_pairs : PySem.W.codeIn K cd_law_pairs "_law_pairs" = true)
    (k_law_pairs : PySem.W.keepIn K (.ref f_law_pairs) = true)
    (a_law_shows : PySem.W.nsIn K mainGlobals "_law_shows" = some (some (.ref f_law_shows)))
    (l_law_shows : K.lookup f_law_shows = some ⟨oc_law_shows, od_law_shows, .func (PySem.W.fnOf "_law_shows" "_law_shows" (defArgs s_law_shows) (defBody s_law_shows) (defScope s_law_shows) .none kV_law_shows dc_law_shows pm_law_shows an_law_shows cd_law_shows ct_law_shows), sl_law_shows⟩)
    (q_law_shows : PySem.W.codeIn K cd_law_shows "_law_shows" = true)
    (k_law_shows : PySem.W.keepIn K (.ref f_law_shows) = true)
    (a_law : PySem.W.nsIn K mainGlobals "law" = some (some (.ref f_law)))
    (l_law : K.lookup f_law = some ⟨oc_law, od_law, .func (PySem.W.fnOf "law" "law" (defArgs s_law) (defBody s_law) (defScope s_law) .none kV_law dc_law pm_law an_law cd_law ct_law), sl_law⟩)
    (q_law : PySem.W.codeIn K cd_law "law" = true)
    (k_law : PySem.W.keepIn K (.ref f_law) = true)
    (pg_Run : PySem.W.plainGet K C_Run Str.empty = true)
    (hd_Run : PySem.W.hasDictIn K C_Run = true)
    (po_Run : PySem.W.plainOver K C_Run = true)
    (sa_Run : PySem.W.findIn K (.ref C_Run) "__setattr__" = some (some (.builtin "object.__setattr__")))
    (mk_Run : PySem.W.makesIn K C_Run = true)
    (kc_Run : PySem.W.keepIn K (.ref C_Run) = true)
    (no_Run_well : PySem.W.findIn K (.ref C_Run) "well" = some none)
    (no_Run_store : PySem.W.findIn K (.ref C_Run) "store" = some none)
    (no_Run_paid : PySem.W.findIn K (.ref C_Run) "paid" = some none)
    (no_Run_steps : PySem.W.findIn K (.ref C_Run) "steps" = some none)
    (pg_Machine : PySem.W.plainGet K C_Machine Str.empty = true)
    (hd_Machine : PySem.W.hasDictIn K C_Machine = true)
    (po_Machine : PySem.W.plainOver K C_Machine = true)
    (sa_Machine : PySem.W.findIn K (.ref C_Machine) "__setattr__" = some (some (.builtin "object.__setattr__")))
    (mk_Machine : PySem.W.makesIn K C_Machine = true)
    (kc_Machine : PySem.W.keepIn K (.ref C_Machine) = true)
    (no_Machine_code : PySem.W.findIn K (.ref C_Machine) "code" = some none)
    (no_Machine_given : PySem.W.findIn K (.ref C_Machine) "given" = some none)
    (no_Machine_amount : PySem.W.findIn K (.ref C_Machine) "amount" = some none)
    (no_Machine_store : PySem.W.findIn K (.ref C_Machine) "store" = some none)
    (no_Machine_stack : PySem.W.findIn K (.ref C_Machine) "stack" = some none)
    (no_Machine_place : PySem.W.findIn K (.ref C_Machine) "place" = some none)
    (no_Machine_paid : PySem.W.findIn K (.ref C_Machine) "paid" = some none)
    (no_Machine_steps : PySem.W.findIn K (.ref C_Machine) "steps" = some none)
    (pg_Ledger : PySem.W.plainGet K C_Ledger Str.empty = true)
    (hd_Ledger : PySem.W.hasDictIn K C_Ledger = true)
    (po_Ledger : PySem.W.plainOver K C_Ledger = true)
    (sa_Ledger : PySem.W.findIn K (.ref C_Ledger) "__setattr__" = some (some (.builtin "object.__setattr__")))
    (mk_Ledger : PySem.W.makesIn K C_Ledger = true)
    (kc_Ledger : PySem.W.keepIn K (.ref C_Ledger) = true)
    (no_Ledger_balances : PySem.W.findIn K (.ref C_Ledger) "balances" = some none)
    (no_Ledger_codes : PySem.W.findIn K (.ref C_Ledger) "codes" = some none)
    (no_Ledger_stores : PySem.W.findIn K (.ref C_Ledger) "stores" = some none)
    (g_OF_TWO : PySem.W.nsIn K mainGlobals "OF_TWO" = some (some (.ref P_OF_TWO)))
    (l_OF_TWO : K.lookup P_OF_TWO = some ⟨.type "dict", none, .dict #[⟨h_OF_TWO_a, .str "a" t_OF_TWO_a, .ref f_plus⟩, ⟨h_OF_TWO_s, .str "s" t_OF_TWO_s, .ref f_minus⟩, ⟨h_OF_TWO_m, .str "m" t_OF_TWO_m, .ref f_times⟩, ⟨h_OF_TWO_t, .str "t" t_OF_TWO_t, .ref f_append_digit⟩, ⟨h_OF_TWO_c, .str "c" t_OF_TWO_c, .ref f_is_less⟩, ⟨h_OF_TWO_e, .str "e" t_OF_TWO_e, .ref f_is_equal⟩] n_OF_TWO, #[]⟩)
    (kl_OF_TWO : PySem.W.KeysLit w.params [⟨h_OF_TWO_a, .str "a" t_OF_TWO_a, .ref f_plus⟩, ⟨h_OF_TWO_s, .str "s" t_OF_TWO_s, .ref f_minus⟩, ⟨h_OF_TWO_m, .str "m" t_OF_TWO_m, .ref f_times⟩, ⟨h_OF_TWO_t, .str "t" t_OF_TWO_t, .ref f_append_digit⟩, ⟨h_OF_TWO_c, .str "c" t_OF_TWO_c, .ref f_is_less⟩, ⟨h_OF_TWO_e, .str "e" t_OF_TWO_e, .ref f_is_equal⟩])
    (lo_OF_TWO : (P_OF_TWO == sysModules) = false)
    (g_Failed : PySem.W.nsIn K mainGlobals "Failed" = some (some (.ref C_Failed)))
    (x_Failed : PySem.W.excIn K C_Failed [.type "ValueError", .type "Exception", .type "BaseException", .type "object"] "ValueError.__new__" = true)
    (kc_Failed : PySem.W.keepIn K (.ref C_Failed) = true)
    (b_Failed : PySem.W.subIn K (.ref C_Failed) (.type "BaseException") = some true)
    (t_Failed : PySem.W.typeIn K (.ref C_Failed) = some (.type "type"))
    (xga_Failed : PySem.W.findIn K (.ref C_Failed) "__getattribute__" = some (some (.builtin "BaseException.__getattribute__")))
    (xgt_Failed : PySem.W.findIn K (.ref C_Failed) "__getattr__" = some none)
    (xhd_Failed : PySem.W.hasDictIn K C_Failed = true)
    (xcc_Failed : PySem.W.findIn K (.ref C_Failed) "__class__" = some (some (.builtin "object.__class__")))
    (xsp_Failed : PySem.W.specialIn K (.builtin "object.__class__") "__get__" = some (some (.builtin "getset_descriptor.__get__")))
    (xtk_Failed : PySem.W.takesIn K (.builtin "object.__class__") = some true)
    (xmo_Failed : PySem.W.mroIn K C_Failed (.type "object") = some true)
    (te1_Failed : PySem.W.subIn K (.ref C_Failed) (.type "BaseException") = some true)
    (te2_Failed : PySem.W.hasDictIn K C_Failed = true)
    (te3_Failed : PySem.W.typeIn K (.ref C_Failed) = some (.type "type"))
    (te4_Failed_Failed : PySem.W.subIn K (.ref C_Failed) (.ref C_Failed) = some true)
    (kt_Ledger_Ledger : PySem.W.kitOne K (.ref C_Ledger) (.ref C_Ledger) = some true)
    (icc_Ledger : PySem.W.findIn K (.ref C_Ledger) "__class__" = some (some (.builtin "object.__class__")))
    (isp_Ledger : PySem.W.specialIn K (.builtin "object.__class__") "__get__" = some (some (.builtin "getset_descriptor.__get__")))
    (itk_Ledger : PySem.W.takesIn K (.builtin "object.__class__") = some true)
    (imo_Ledger : PySem.W.mroIn K C_Ledger (.type "object") = some true) :
    ∃ fd : FuncData, (∀ (s : Shared) (v : Value), BindsTo s fd ⟨[v], []⟩ [("script", v)]) ∧ ∀ base : Heap, K.In base → base.Ns mainGlobals mg → FnOk l.prog w K mg base CX0 9 fa fd ["script"] (spLaw K) := by
  have e := hfa.symm.trans (PySem.W.mg_of X G a_law)
  cases e
  have T : Txt K mg ⟨C_Run, C_Machine, C_Ledger, f_Run_init, f_run, f_plus, f_minus, f_times, f_append_digit, f_is_less, f_is_equal, f_Machine_init, f_Machine_push, f_Machine_take, f_Machine_push_number, f_Machine_combine, f_Machine_move, f_Machine_jump, f_Machine_settle, f_Machine_perform, f_Machine_finish, f_Ledger_init, f_Ledger_eq, f_first_ledger, f_after_command, f_done, f_payment, f_new_program, f_call, f_exist, f_moved, f_replaced, f_law_cell, f_law_row, f_law_number, f_law_code, f_law_place, f_law_command, f_law_reckon, f_law_need, f_law_act, f_law_sign, f_law_run, f_law_after, f_law_pairs, f_law_shows, C_Failed, P_OF_TWO⟩ := {
    n_len := mg_no X G n_len
    n_range := mg_no X G n_range
    n_isinstance := mg_no X G n_isinstance
    n_int := mg_no X G n_int
    n_bool := mg_no X G n_bool
    n_list := mg_no X G n_list
    n_tuple := mg_no X G n_tuple
    n_str := mg_no X G n_str
    n_dict := mg_no X G n_dict
    n_sorted := mg_no X G n_sorted
    n_max := mg_no X G n_max
    n_abs := mg_no X G n_abs
    n_all := mg_no X G n_all
    c_DIGITS := ⟨_, PySem.W.mg_of X G c_DIGITS⟩
    c_MODULUS := ⟨_, PySem.W.mg_of X G c_MODULUS⟩
    c_MOST_VALUES := ⟨_, PySem.W.mg_of X G c_MOST_VALUES⟩
    c_MOST_STEPS := ⟨_, PySem.W.mg_of X G c_MOST_STEPS⟩
    g_Run := PySem.W.mg_of X G g_Run
    cl_Run := ⟨pg_Run, hd_Run, po_Run, sa_Run⟩
    kc_Run := kc_Run
    mk_Run := mk_Run
    a_Run_well := no_Run_well
    a_Run_store := no_Run_store
    a_Run_paid := no_Run_paid
    a_Run_steps := no_Run_steps
    g_Machine := PySem.W.mg_of X G g_Machine
    cl_Machine := ⟨pg_Machine, hd_Machine, po_Machine, sa_Machine⟩
    kc_Machine := kc_Machine
    mk_Machine := mk_Machine
    a_Machine_code := no_Machine_code
    a_Machine_given := no_Machine_given
    a_Machine_amount := no_Machine_amount
    a_Machine_store := no_Machine_store
    a_Machine_stack := no_Machine_stack
    a_Machine_place := no_Machine_place
    a_Machine_paid := no_Machine_paid
    a_Machine_steps := no_Machine_steps
    g_Ledger := PySem.W.mg_of X G g_Ledger
    cl_Ledger := ⟨pg_Ledger, hd_Ledger, po_Ledger, sa_Ledger⟩
    kc_Ledger := kc_Ledger
    mk_Ledger := mk_Ledger
    a_Ledger_balances := no_Ledger_balances
    a_Ledger_codes := no_Ledger_codes
    a_Ledger_stores := no_Ledger_stores
    d_Run_init := ⟨def_mk l_Run_init q_Run_init k_Run_init (fun _ _ _ _ _ _ us hl => match us, hl with | [_, _, _, _, _], _ => rfl), a_Run_init, i_Run_init, k_Run_init⟩
    d_run := ⟨def_mk l_run q_run k_run (fun _ _ _ _ _ _ us hl => match us, hl with | [_, _, _, _], _ => rfl), PySem.W.mg_of X G a_run, k_run⟩
    d_plus := ⟨def_mk l_plus q_plus k_plus (fun _ _ _ _ _ _ us hl => match us, hl with | [_, _], _ => rfl), PySem.W.mg_of X G a_plus, k_plus⟩
    d_minus := ⟨def_mk l_minus q_minus k_minus (fun _ _ _ _ _ _ us hl => match us, hl with | [_, _], _ => rfl), PySem.W.mg_of X G a_minus, k_minus⟩
    d_times := ⟨def_mk l_times q_times k_times (fun _ _ _ _ _ _ us hl => match us, hl with | [_, _], _ => rfl), PySem.W.mg_of X G a_times, k_times⟩
    d_append_digit := ⟨def_mk l_append_digit q_append_digit k_append_digit (fun _ _ _ _ _ _ us hl => match us, hl with | [_, _], _ => rfl), PySem.W.mg_of X G a_append_digit, k_append_digit⟩
    d_is_less := ⟨def_mk l_is_less q_is_less k_is_less (fun _ _ _ _ _ _ us hl => match us, hl with | [_, _], _ => rfl), PySem.W.mg_of X G a_is_less, k_is_less⟩
    d_is_equal := ⟨def_mk l_is_equal q_is_equal k_is_equal (fun _ _ _ _ _ _ us hl => match us, hl with | [_, _], _ => rfl), PySem.W.mg_of X G a_is_equal, k_is_equal⟩
    d_Machine_init := ⟨def_mk l_Machine_init q_Machine_init k_Machine_init (fun _ _ _ _ _ _ us hl => match us, hl with | [_, _, _, _, _], _ => rfl), a_Machine_init, i_Machine_init, k_Machine_init⟩
    d_Machine_push := ⟨def_mk l_Machine_push q_Machine_push k_Machine_push (fun _ _ _ _ _ _ us hl => match us, hl with | [_, _], _ => rfl), a_Machine_push, i_Machine_push, k_Machine_push⟩
    d_Machine_take := ⟨def_mk l_Machine_take q_Machine_take k_Machine_take (fun _ _ _ _ _ _ us hl => match us, hl with | [_], _ => rfl), a_Machine_take, i_Machine_take, k_Machine_take⟩
    d_Machine_push_number := ⟨def_mk l_Machine_push_number q_Machine_push_number k_Machine_push_number (fun _ _ _ _ _ _ us hl => match us, hl with | [_, _], _ => rfl), a_Machine_push_number, i_Machine_push_number, k_Machine_push_number⟩
    d_Machine_combine := ⟨def_mk l_Machine_combine q_Machine_combine k_Machine_combine (fun _ _ _ _ _ _ us hl => match us, hl with | [_, _], _ => rfl), a_Machine_combine, i_Machine_combine, k_Machine_combine⟩
    d_Machine_move := ⟨def_mk l_Machine_move q_Machine_move k_Machine_move (fun _ _ _ _ _ _ us hl => match us, hl with | [_, _], _ => rfl), a_Machine_move, i_Machine_move, k_Machine_move⟩
    d_Machine_jump := ⟨def_mk l_Machine_jump q_Machine_jump k_Machine_jump (fun _ _ _ _ _ _ us hl => match us, hl with | [_, _], _ => rfl), a_Machine_jump, i_Machine_jump, k_Machine_jump⟩
    d_Machine_settle := ⟨def_mk l_Machine_settle q_Machine_settle k_Machine_settle (fun _ _ _ _ _ _ us hl => match us, hl with | [_, _], _ => rfl), a_Machine_settle, i_Machine_settle, k_Machine_settle⟩
    d_Machine_perform := ⟨def_mk l_Machine_perform q_Machine_perform k_Machine_perform (fun _ _ _ _ _ _ us hl => match us, hl with | [_, _], _ => rfl), a_Machine_perform, i_Machine_perform, k_Machine_perform⟩
    d_Machine_finish := ⟨def_mk l_Machine_finish q_Machine_finish k_Machine_finish (fun _ _ _ _ _ _ us hl => match us, hl with | [_], _ => rfl), a_Machine_finish, i_Machine_finish, k_Machine_finish⟩
    d_Ledger_init := ⟨def_mk l_Ledger_init q_Ledger_init k_Ledger_init (fun _ _ _ _ _ _ us hl => match us, hl with | [_, _, _, _], _ => rfl), a_Ledger_init, i_Ledger_init, k_Ledger_init⟩
    d_Ledger_eq := ⟨def_mk l_Ledger_eq q_Ledger_eq k_Ledger_eq (fun _ _ _ _ _ _ us hl => match us, hl with | [_, _], _ => rfl), a_Ledger_eq, i_Ledger_eq, k_Ledger_eq⟩
    d_first_ledger := ⟨def_mk l_first_ledger q_first_ledger k_first_ledger (fun _ _ _ _ _ _ us hl => match us, hl with | [_], _ => rfl), PySem.W.mg_of X G a_first_ledger, k_first_ledger⟩
    d_after_command := ⟨def_mk l_after_command q_after_command k_after_command (fun _ _ _ _ _ _ us hl => match us, hl with | [_, _], _ => rfl), PySem.W.mg_of X G a_after_command, k_after_command⟩
    d_done := ⟨def_mk l_done q_done k_done (fun _ _ _ _ _ _ us hl => match us, hl with | [_, _], _ => rfl), PySem.W.mg_of X G a_done, k_done⟩
    d_payment := ⟨def_mk l_payment q_payment k_payment (fun _ _ _ _ _ _ us hl => match us, hl with | [_, _, _, _], _ => rfl), PySem.W.mg_of X G a_payment, k_payment⟩
    d_new_program := ⟨def_mk l_new_program q_new_program k_new_program (fun _ _ _ _ _ _ us hl => match us, hl with | [_, _, _], _ => rfl), PySem.W.mg_of X G a_new_program, k_new_program⟩
    d_call := ⟨def_mk l_call q_call k_call (fun _ _ _ _ _ _ us hl => match us, hl with | [_, _, _, _], _ => rfl), PySem.W.mg_of X G a_call, k_call⟩
    d_exist := ⟨def_mk l_exist q_exist k_exist (fun _ _ _ _ _ _ us hl => match us, hl with | [_, _], _ => rfl), PySem.W.mg_of X G a_exist, k_exist⟩
    d_moved := ⟨def_mk l_moved q_moved k_moved (fun _ _ _ _ _ _ us hl => match us, hl with | [_, _, _, _], _ => rfl), PySem.W.mg_of X G a_moved, k_moved⟩
    d_replaced := ⟨def_mk l_replaced q_replaced k_replaced (fun _ _ _ _ _ _ us hl => match us, hl with | [_, _, _], _ => rfl), PySem.W.mg_of X G a_replaced, k_replaced⟩
    d_law_cell := ⟨def_mk l_law_cell q_law_cell k_law_cell (fun _ _ _ _ _ _ us hl => match us, hl with | [_, _], _ => rfl), PySem.W.mg_of X G a_law_cell, k_law_cell⟩
    d_law_row := ⟨def_mk l_law_row q_law_row k_law_row (fun _ _ _ _ _ _ us hl => match us, hl with | [_, _, _], _ => rfl), PySem.W.mg_of X G a_law_row, k_law_row⟩
    d_law_number := ⟨def_mk l_law_number q_law_number k_law_number (fun _ _ _ _ _ _ us hl => match us, hl with | [_], _ => rfl), PySem.W.mg_of X G a_law_number, k_law_number⟩
    d_law_code := ⟨def_mk l_law_code q_law_code k_law_code (fun _ _ _ _ _ _ us hl => match us, hl with | [_], _ => rfl), PySem.W.mg_of X G a_law_code, k_law_code⟩
    d_law_place := ⟨def_mk l_law_place q_law_place k_law_place (fun _ _ _ _ _ _ us hl => match us, hl with | [_], _ => rfl), PySem.W.mg_of X G a_law_place, k_law_place⟩
    d_law_command := ⟨def_mk l_law_command q_law_command k_law_command (fun _ _ _ _ _ _ us hl => match us, hl with | [_, _], _ => rfl), PySem.W.mg_of X G a_law_command, k_law_command⟩
    d_law_reckon := ⟨def_mk l_law_reckon q_law_reckon k_law_reckon (fun _ _ _ _ _ _ us hl => match us, hl with | [_, _, _], _ => rfl), PySem.W.mg_of X G a_law_reckon, k_law_reckon⟩
    d_law_need := ⟨def_mk l_law_need q_law_need k_law_need (fun _ _ _ _ _ _ us hl => match us, hl with | [_], _ => rfl), PySem.W.mg_of X G a_law_need, k_law_need⟩
    d_law_act := ⟨def_mk l_law_act q_law_act k_law_act (fun _ _ _ _ _ _ us hl => match us, hl with | [_, _, _, _, _], _ => rfl), PySem.W.mg_of X G a_law_act, k_law_act⟩
    d_law_sign := ⟨def_mk l_law_sign q_law_sign k_law_sign (fun _ _ _ _ _ _ us hl => match us, hl with | [_, _, _, _, _, _], _ => rfl), PySem.W.mg_of X G a_law_sign, k_law_sign⟩
    d_law_run := ⟨def_mk l_law_run q_law_run k_law_run (fun _ _ _ _ _ _ us hl => match us, hl with | [_, _, _, _], _ => rfl), PySem.W.mg_of X G a_law_run, k_law_run⟩
    d_law_after := ⟨def_mk l_law_after q_law_after k_law_after (fun _ _ _ _ _ _ us hl => match us, hl with | [_, _], _ => rfl), PySem.W.mg_of X G a_law_after, k_law_after⟩
    d_law_pairs := ⟨def_mk l_law_pairs q_law_pairs k_law_pairs (fun _ _ _ _ _ _ us hl => match us, hl with | [_], _ => rfl), PySem.W.mg_of X G a_law_pairs, k_law_pairs⟩
    d_law_shows := ⟨def_mk l_law_shows q_law_shows k_law_shows (fun _ _ _ _ _ _ us hl => match us, hl with | [_, _], _ => rfl), PySem.W.mg_of X G a_law_shows, k_law_shows⟩ }
  have TE : TxtE w K mg ⟨C_Run, C_Machine, C_Ledger, f_Run_init, f_run, f_plus, f_minus, f_times, f_append_digit, f_is_less, f_is_equal, f_Machine_init, f_Machine_push, f_Machine_take, f_Machine_push_number, f_Machine_combine, f_Machine_move, f_Machine_jump, f_Machine_settle, f_Machine_perform, f_Machine_finish, f_Ledger_init, f_Ledger_eq, f_first_ledger, f_after_command, f_done, f_payment, f_new_program, f_call, f_exist, f_moved, f_replaced, f_law_cell, f_law_row, f_law_number, f_law_code, f_law_place, f_law_command, f_law_reckon, f_law_need, f_law_act, f_law_sign, f_law_run, f_law_after, f_law_pairs, f_law_shows, C_Failed, P_OF_TWO⟩ := {
    g_OF_TWO := PySem.W.mg_of X G g_OF_TWO
    tab_OF_TWO := ktab_mk l_OF_TWO kl_OF_TWO lo_OF_TWO ⟨⟨_, rfl, rfl⟩, ⟨_, rfl, rfl⟩, ⟨_, rfl, rfl⟩, ⟨_, rfl, rfl⟩, ⟨_, rfl, rfl⟩, ⟨_, rfl, rfl⟩, trivial⟩
    g_Failed := PySem.W.mg_of X G g_Failed
    x_Failed := x_Failed
    kc_Failed := kc_Failed
    b_Failed := b_Failed
    t_Failed := t_Failed
    xc_Failed := ⟨(PySem.W.any_some xhd_Failed).elim fun cd h => by rw [h.1]; rfl, xga_Failed, xgt_Failed, b_Failed, xhd_Failed, xcc_Failed, xsp_Failed, xtk_Failed, xmo_Failed⟩
    exm_Failed_Failed := PySem.W.exm_ref te1_Failed te2_Failed te3_Failed te4_Failed_Failed
    kt_Ledger_Ledger := kt_Ledger_Ledger
    ic_Ledger := ⟨icc_Ledger, isp_Ledger, itk_Ledger, imo_Ledger⟩ }
  have F5 := fun_mk (st := s_law) l_law q_law k_law
  exact ⟨PySem.W.fnOf "law" "law" (defArgs s_law) (defBody s_law) (defScope s_law) .none kV_law dc_law pm_law an_law cd_law ct_law, fun s v => .of_eq rfl, fun base _ _ => ok_law F5 TE T⟩
theorem walk {l : PySem.W.OpenLaw} {q : Program} {loose : List Str} {XP : (Str → Option Value) → Heap → Prop} {YP : World → Heap → Prop} {d : DefRec} {K : Params → PySem.W.Frag} (hn : l.most = some 63) (hdf : d.params.defaults = [])
    (hY : ∀ (w : World) (h : Heap), YP w h → (K w.params).In h)
    (F : ∀ (w : World) (mg : Str → Option Value) (fa : Addr) (h : Heap), (K w.params).In h → h.Ns mainGlobals mg → mg d.name = some (.ref fa) →
      ∃ fd : FuncData, (∀ (s : Shared) (u : Value), BindsTo s fd ⟨[u], []⟩ [("script", u)]) ∧ ∀ base : Heap, (K w.params).In base → base.Ns mainGlobals mg → FnOk l.prog w (K w.params) mg base CX0 9 fa fd ["script"] (spLaw (K w.params))) :
    PySem.W.WalkO q loose XP YP l.row.toRowW d [] (fun f vs => PySem.call f vs) :=
  L2.walk_of (n := 63) (k := 9) (x := "script") (CX := fun _ => CX0) (sp := fun w => spLaw (K w.params)) hn (by decide) hdf ⟨rfl, by decide, by decide⟩ hY F (fun _ _ a ns hl _ hS => ⟨a, ns, rfl, hS, hl, fun _ => rfl⟩) fun _ _ _ _ _ z => z
end Toy
namespace PySem.W.Fast
theorem tw1253728158249126062 : True := trivial
theorem tw10053477937437536716 : True := trivial
theorem tw50940163045153559 : True := trivial
theorem tw10538605945300769698 : True := trivial
theorem tw14258009944613184602 : True := trivial
theorem tw16835331765196028585 : True := trivial
theorem tw9781903000976357246 : True := trivial
theorem tw232003540672597669 : True := trivial
theorem tw2909545503644852520 : True := trivial
theorem tw16188023319677996587 : True := trivial
theorem tw13032396789150316595 : True := trivial
theorem tw4618973466951707387 : True := trivial
theorem tw14437848038142327410 : True := trivial
theorem tw14231848865100827391 : True := trivial
theorem tw5799609389700683018 : True := trivial
theorem tw4114185229827696644 : True := trivial
theorem tw4439613750848192483 : True := trivial
theorem tw17283504194686144942 : True := trivial
theorem tw4724849234238423922 : True := trivial
theorem tw12348191065504547619 : True := trivial
theorem tw12224298657193212934 : True := trivial
theorem tw12077611663005489023 : True := trivial
theorem tw11067401540833939298 : True := trivial
theorem tw6846050696969207280 : True := trivial
theorem tw8239804116821774917 : True := trivial
theorem tw17093458200133518628 : True := trivial
theorem tw13742469285948088332 : True := trivial
theorem tw8525635296731636220 : True := trivial
theorem tw3393316411701945558 : True := trivial
theorem tw12157525641350044730 : True := trivial
theorem tw5219095711078224559 : True := trivial
theorem tw8256537864353372234 : True := trivial
theorem tw7994559871233184620 : True := trivial
theorem tw15070078275388515829 : True := trivial
theorem tw11259194380049233763 : True := trivial
theorem tw15882840047241459437 : True := trivial
theorem tw5481958725965084275 : True := trivial
theorem tw4927341346181264260 : True := trivial
theorem tw5711249682408462820 : True := trivial
theorem tw14825509815709843975 : True := trivial
theorem tw694775181269870626 : True := trivial
theorem tw7178194508055704284 : True := trivial
theorem tw11966347308650607530 : True := trivial
theorem tw12420827248528138801 : True := trivial
theorem tw12277219106531130972 : True := trivial
theorem tw15609960223670697309 : True := trivial
theorem tw12843844860057877249 : True := trivial
theorem tw8720670660675580718 : True := trivial
theorem tw626380774762261528 : True := trivial
theorem tw15097466846463892534 : True := trivial
theorem tw7299755676769857938 : True := trivial
theorem tw5858457420565475148 : True := trivial
theorem tw4372802945389598321 : True := trivial
theorem tw17606464552028764721 : True := trivial
theorem tw13166050928715506904 : True := trivial
theorem tw10244685391355919913 : True := trivial
theorem tw17073571852365364960 : True := trivial
theorem tw11508506113561571256 : True := trivial
theorem tw12082184559269548935 : True := trivial
theorem tw12322811572118839186 : True := trivial
theorem tw11811788595605114295 : True := trivial
theorem tw12156119324639460843 : True := trivial
theorem tw6493873075853217921 : True := trivial
theorem tw5467809829768357358 : True := trivial
theorem tw3072273090237670788 : True := trivial
theorem tw5444091136656735879 : True := trivial
theorem tw1005940551326157678 : True := trivial
theorem tw13307854190160381295 : True := trivial
theorem tw9978790090799495130 : True := trivial
theorem tw3642645139410552685 : True := trivial
theorem tw12764162354043551978 : True := trivial
theorem tw3371641120155190942 : True := trivial
theorem tw9477543005354593492 : True := trivial
theorem tw8502691902404623309 : True := trivial
theorem tw9609124896772589839 : True := trivial
theorem tw3908222478256457094 : True := trivial
theorem tw7855651991140304842 : True := trivial
theorem tw7987682383275388673 : True := trivial
theorem tw3432667154940957620 : True := trivial
theorem tw6103146869188625178 : True := trivial
theorem tw13549311923346947692 : True := trivial
theorem tw10937089005709777723 : True := trivial
theorem tw9190508952365351609 : True := trivial
theorem tw8542071777995396946 : True := trivial
theorem tw2480964525759296260 : True := trivial
theorem tw9169282078475323330 : True := trivial
theorem tw15416878810067133156 : True := trivial
theorem tw15571872257393849977 : True := trivial
theorem tw11131838570874594222 : True := trivial
theorem tw16283594342258452919 : True := trivial
theorem tw13935337985308012896 : True := trivial
theorem tw1036262452660547024 : True := trivial
theorem tw6256115779039452664 : True := trivial
theorem tw15330879356368858801 : True := trivial
theorem tw15551214525424443655 : True := trivial
theorem tw14044287010893939119 : True := trivial
theorem tw2925648322568449708 : True := trivial
theorem tw16480589727989120960 : True := trivial
theorem tw4232447638227228746 : True := trivial
theorem tw5443466875032431592 : True := trivial
theorem tw717277136559955030 : True := trivial
theorem tw3591661487268597423 : True := trivial
theorem tw12749026777823207187 : True := trivial
theorem tw14725872391082917306 : True := trivial
theorem tw6944067945786978673 : True := trivial
theorem tw15904834537395809936 : True := trivial
theorem tw385185694137158004 : True := trivial
theorem tw1068370424674637297 : True := trivial
theorem tw9615198201479177868 : True := trivial
theorem tw17961134439832786621 : True := trivial
theorem tw9613859122958635158 : True := trivial
theorem tw4768068299280102151 : True := trivial
theorem tw9248619859987571534 : True := trivial
theorem tw14687463326111517791 : True := trivial
theorem tw8618977898675639211 : True := trivial
theorem tw13094232387145051151 : True := trivial
theorem tw15846302403056352063 : True := trivial
theorem tw11188824792799743846 : True := trivial
theorem tw10603644778869387384 : True := trivial
theorem tw549608532495343533 : True := trivial
theorem tw3829776035135950698 : True := trivial
theorem tw14859662996911824778 : True := trivial
theorem tw13344660533453737172 : True := trivial
theorem tw10188926275066449100 : True := trivial
theorem tw5060285251264710245 : True := trivial
theorem tw11073073971185298907 : True := trivial
theorem tw13534749224449512818 : True := trivial
theorem tw17900869337526891213 : True := trivial
theorem tw3713475037888169969 : True := trivial
theorem tw9936991687833906568 : True := trivial
theorem tw15855379985238531974 : True := trivial
theorem tw4658518130942246905 : True := trivial
theorem tw420505408357831507 : True := trivial
theorem tw640059431531525160 : True := trivial
theorem tw11406200321025986133 : True := trivial
theorem tw10944689685192790966 : True := trivial
theorem tw15232628632669140227 : True := trivial
theorem tw10151822803867356608 : True := trivial
theorem tw6678729178108777130 : True := trivial
theorem tw1647915223158930398 : True := trivial
theorem tw9900073730200182807 : True := trivial
theorem tw10364453002171371055 : True := trivial
theorem tw6656602469267580743 : True := trivial
theorem tw9849093523123180297 : True := trivial
theorem tw6018928186715849445 : True := trivial
theorem tw14532985278875272368 : True := trivial
theorem tw7620382142677530302 : True := trivial
theorem tw1387659824776049172 : True := trivial
theorem tw11429165146277369564 : True := trivial
theorem tw1148890341920758185 : True := trivial
theorem tw14764578254524562462 : True := trivial
theorem tw1432987314862210945 : True := trivial
theorem tw4700968336537138193 : True := trivial
theorem tw13059383758040256391 : True := trivial
theorem tw7325143057068861656 : True := trivial
theorem tw6246503535605513472 : True := trivial
theorem tw3963805479131012217 : True := trivial
theorem tw516040964317117082 : True := trivial
theorem tw4215534754026259949 : True := trivial
theorem tw12103081615667535315 : True := trivial
theorem tw4569855890000591136 : True := trivial
theorem tw6423919624573702428 : True := trivial
theorem tw6647315097322453787 : True := trivial
theorem tw16066098742647454933 : True := trivial
theorem tw11775857353306029281 : True := trivial
theorem tw1447821467492951898 : True := trivial
theorem tw12021993174189577657 : True := trivial
theorem tw16431353376838627786 : True := trivial
theorem tw2649418378408370348 : True := trivial
theorem tw5352233461524043253 : True := trivial
theorem tw4557208107749322458 : True := trivial
theorem tw6338470125196840459 : True := trivial
theorem tw2829769460771466048 : True := trivial
theorem tw15690098410238920440 : True := trivial
theorem tw16703761819224485044 : True := trivial
theorem tw13784659533348768697 : True := trivial
theorem tw7790330253000836694 : True := trivial
theorem tw3244132178335060658 : True := trivial
theorem tw4570024227861720748 : True := trivial
theorem tw9016265624671677736 : True := trivial
theorem tw9137361045312070596 : True := trivial
theorem tw676378898741141428 : True := trivial
theorem tw15717808354154646544 : True := trivial
theorem tw7839307199991097335 : True := trivial
theorem tw3303340992964239779 : True := trivial
theorem tw10619976679837826882 : True := trivial
theorem tw1588774287043828865 : True := trivial
theorem tw10221638587361866672 : True := trivial
theorem tw17809430468652091036 : True := trivial
theorem tw16755572912510890421 : True := trivial
theorem tw3162929381055319874 : True := trivial
theorem tw1901764328162980249 : True := trivial
theorem tw15137924088611930664 : True := trivial
theorem tw8053710513166628374 : True := trivial
theorem tw4822893405324955885 : True := trivial
theorem tw17610663462120004972 : True := trivial
theorem tw10552960604735586288 : True := trivial
theorem tw4799625399264321313 : True := trivial
theorem tw17648205405475932123 : True := trivial
theorem tw11879177503751428308 : True := trivial
theorem tw8259729114595764678 : True := trivial
theorem tw1801881551959375502 : True := trivial
theorem tw9535608593884572966 : True := trivial
theorem tw10582368437372612038 : True := trivial
theorem tw4547879548721299589 : True := trivial
theorem tw5329489216690306183 : True := trivial
theorem tw689969617651444489 : True := trivial
theorem tw11510296520536328414 : True := trivial
theorem tw14266794122010155764 : True := trivial
theorem tw14989006274006463247 : True := trivial
theorem tw5554282187259818285 : True := trivial
theorem tw291752216811727381 : True := trivial
theorem tw17541361214804823988 : True := trivial
theorem tw373579405756782047 : True := trivial
theorem tw8343982144141258599 : True := trivial
theorem tw13735551122297164983 : True := trivial
theorem tw8842391771200393792 : True := trivial
theorem tw12557804671532749869 : True := trivial
theorem tw9754211988473058837 : True := trivial
theorem tw6160562101584747527 : True := trivial
theorem tw10459986699934597531 : True := trivial
theorem tw4206458213254030017 : True := trivial
theorem tw4988475170649307910 : True := trivial
theorem tw8024994480812734353 : True := trivial
theorem tw789512345475852074 : True := trivial
theorem tw18306231841993659050 : True := trivial
theorem tw5690354028000058790 : True := trivial
theorem tw18131468962417017489 : True := trivial
theorem tw187662344552971519 : True := trivial
theorem tw2682816811345490059 : True := trivial
theorem tw1479758960844093093 : True := trivial
theorem tw13825934476712702329 : True := trivial
theorem tw5573216914667027726 : True := trivial
theorem tw12092517382746117252 : True := trivial
theorem tw1214540131767031396 : True := trivial
theorem tw1893566873304355986 : True := trivial
theorem tw6740441711657029340 : True := trivial
theorem tw208032877045251832 : True := trivial
theorem tw10788470451509664659 : True := trivial
theorem tw15517168189213857020 : True := trivial
theorem tw3583101970755528069 : True := trivial
theorem tw4411021667814423245 : True := trivial
theorem tw14413659354602298681 : True := trivial
theorem tw8908723202298782332 : True := trivial
theorem tw6702084060530494309 : True := trivial
theorem tw10659351023266945957 : True := trivial
theorem tw1732004311193079945 : True := trivial
theorem tw6731587433325321053 : True := trivial
theorem tw14331546155748258875 : True := trivial
theorem tw3574432827331017077 : True := trivial
theorem tw14337607041072752311 : True := trivial
theorem tw4379588299303048424 : True := trivial
theorem tw14940322314914497418 : True := trivial
theorem tw10637887074788499870 : True := trivial
theorem tw12558154206525658693 : True := trivial
theorem tw4112368962520862865 : True := trivial
theorem tw2965237506289893657 : True := trivial
theorem tw10370908432364241688 : True := trivial
theorem tw1061581136792949307 : True := trivial
theorem tw1689047497640908549 : True := trivial
theorem tw1180686515570815853 : True := trivial
theorem tw15778861578184986148 : True := trivial
theorem tw12171588460972808751 : True := trivial
theorem tw7311340739957599743 : True := trivial
theorem tw728090502238767764 : True := trivial
theorem tw14661813765724506621 : True := trivial
theorem tw17163247996564156095 : True := trivial
theorem tw11914836609456830164 : True := trivial
theorem tw13861919862808952883 : True := trivial
theorem tw15201008750346253495 : True := trivial
theorem tw17568825104694693392 : True := trivial
theorem tw3060059930752864318 : True := trivial
theorem tw2435339288118230668 : True := trivial
theorem tw8762111298150941412 : True := trivial
theorem tw10052578981406222369 : True := trivial
theorem tw12141350185154087139 : True := trivial
theorem tw8180918414940976657 : True := trivial
theorem tw12900803173004485642 : True := trivial
theorem tw2905561536710118234 : True := trivial
theorem tw522147062006098988 : True := trivial
theorem tw3646322076001655194 : True := trivial
theorem tw8503438635747330051 : True := trivial
theorem tw4110343722264831775 : True := trivial
theorem tw1967161563626176473 : True := trivial
theorem tw13092068053921435666 : True := trivial
theorem tw11128933887491049210 : True := trivial
theorem tw13978815714256697995 : True := trivial
theorem tw11381922514585142100 : True := trivial
theorem tw12937205074331840552 : True := trivial
theorem tw3360769450600731230 : True := trivial
theorem tw5017982018427086410 : True := trivial
theorem tw15122894287342717781 : True := trivial
theorem tw11430002316736732189 : True := trivial
theorem tw7120220465940707528 : True := trivial
theorem tw861276885855375309 : True := trivial
theorem tw5734499850432871439 : True := trivial
theorem tw16115001478872843066 : True := trivial
theorem tw4130019435792131974 : True := trivial
theorem tw16266115071498066215 : True := trivial
theorem tw14575010778085997071 : True := trivial
theorem tw6994002860455535506 : True := trivial
theorem tw6921304493905778451 : True := trivial
theorem tw14373174274566096804 : True := trivial
theorem tw16218471259073963822 : True := trivial
theorem tw10663159448435815463 : True := trivial
theorem tw15520861420242412065 : True := trivial
theorem tw13751795083795473770 : True := trivial
theorem tw15747600041517837726 : True := trivial
theorem tw11931098356920166889 : True := trivial
theorem tw8275517909572513071 : True := trivial
theorem tw8109373627627071308 : True := trivial
theorem tw5683436240457402732 : True := trivial
theorem tw4520150700653736442 : True := trivial
theorem tw17926757162802706065 : True := trivial
theorem tw14988894481726866644 : True := trivial
theorem tw13958618098890231888 : True := trivial
theorem tw11583978019017209034 : True := trivial
theorem tw17358774344378738580 : True := trivial
theorem tw5437370076405613503 : True := trivial
theorem tw9736350849636446653 : True := trivial
theorem tw5381747059911451613 : True := trivial
theorem tw13015599717689524930 : True := trivial
theorem tw16004370092768998495 : True := trivial
theorem tw14184133810564601115 : True := trivial
theorem tw15488925041708532490 : True := trivial
theorem tw9932121419368918172 : True := trivial
theorem tw11316938181106646396 : True := trivial
theorem tw8131431325328776462 : True := trivial
theorem tw14968232281763374732 : True := trivial
theorem tw15354147517414395865 : True := trivial
theorem tw3438180964602234782 : True := trivial
theorem tw12043130971257436115 : True := trivial
theorem tw3631546107983487807 : True := trivial
theorem tw15655174487802631179 : True := trivial
theorem tw13543288451082713169 : True := trivial
theorem tw8551961864303303146 : True := trivial
theorem tw8387800030966949765 : True := trivial
theorem tw16462352296542490493 : True := trivial
theorem tw36188096242825136 : True := trivial
theorem tw3791124653986165310 : True := trivial
theorem tw12818826594244250198 : True := trivial
theorem tw18091993504320698945 : True := trivial
theorem tw719633805560624387 : True := trivial
theorem tw16457649383858829922 : True := trivial
theorem tw15196218338650290121 : True := trivial
theorem tw113530173200859209 : True := trivial
theorem tw17140930014381371118 : True := trivial
theorem tw8921872008704382137 : True := trivial
theorem tw8588707656808108595 : True := trivial
theorem tw16772459586743888794 : True := trivial
theorem tw10981415861241734389 : True := trivial
theorem tw5147003759765224030 : True := trivial
theorem tw818772143940823158 : True := trivial
theorem tw5449840817766772566 : True := trivial
theorem tw6652234735221447906 : True := trivial
theorem tw16856526100012318237 : True := trivial
theorem tw9970070430463090299 : True := trivial
theorem tw7386429702953666119 : True := trivial
theorem tw9559985496565526938 : True := trivial
theorem tw2314072561219950838 : True := trivial
theorem tw4458990064264403074 : True := trivial
theorem tw17860727507576887202 : True := trivial
theorem tw12345400021296819435 : True := trivial
theorem tw813570509946618919 : True := trivial
theorem tw17493145859321229659 : True := trivial
theorem tw5193146015441677321 : True := trivial
theorem tw5799505418371597695 : True := trivial
theorem tw711517688679617618 : True := trivial
theorem tw2814419091971060053 : True := trivial
theorem tw16628657085659242656 : True := trivial
theorem tw13461204547911827925 : True := trivial
theorem tw225718904479963660 : True := trivial
theorem tw3699822960980155195 : True := trivial
theorem tw8446853338028229999 : True := trivial
theorem tw8842001246903396353 : True := trivial
theorem tw14085463418864806250 : True := trivial
theorem tw14357542157772274719 : True := trivial
theorem tw15456633274695517938 : True := trivial
theorem tw3772412059618373705 : True := trivial
theorem tw1697632854142434434 : True := trivial
theorem tw16276870638003681331 : True := trivial
theorem tw592421754067836706 : True := trivial
theorem tw9282526074445158361 : True := trivial
theorem tw3896175622990146840 : True := trivial
theorem tw11948824107159487719 : True := trivial
theorem tw17382739362909564794 : True := trivial
theorem tw11329924803225227117 : True := trivial
theorem tw17796139738131992939 : True := trivial
theorem tw8982682430232290663 : True := trivial
theorem tw9794444157204234715 : True := trivial
theorem tw1546944173646875323 : True := trivial
theorem tw14011692773690598130 : True := trivial
theorem tw15844149353452151376 : True := trivial
theorem tw3610845648238704365 : True := trivial
theorem tw8887866434618722642 : True := trivial
theorem tw9699710009525460569 : True := trivial
theorem tw13610747538023829928 : True := trivial
theorem tw16103329491770307893 : True := trivial
theorem tw17900923180406230955 : True := trivial
theorem tw2258768397715816339 : True := trivial
theorem tw14451233050047708085 : True := trivial
theorem tw12196758344338732347 : True := trivial
theorem tw17603676435455810026 : True := trivial
theorem tw15433976179777635194 : True := trivial
theorem tw3320662083620321559 : True := trivial
theorem tw12350301595359652904 : True := trivial
theorem tw6154618234595101105 : True := trivial
theorem tw13066591320311384482 : True := trivial
theorem tw16547806148511645087 : True := trivial
theorem tw12484849821041936013 : True := trivial
theorem tw14599033165846494154 : True := trivial
theorem tw11595782970798167848 : True := trivial
theorem tw5400209231013814124 : True := trivial
theorem tw11166510939502440836 : True := trivial
theorem tw1327149270710408977 : True := trivial
theorem tw80840317740871937 : True := trivial
theorem tw1143168969224673486 : True := trivial
theorem tw14719106600318021832 : True := trivial
theorem tw9256509689191077978 : True := trivial
theorem tw13199590830801137440 : True := trivial
theorem tw17955775407813085968 : True := trivial
theorem tw3924583884848422441 : True := trivial
theorem tw10496849587001682876 : True := trivial
theorem tw3524419988314681939 : True := trivial
theorem tw9991697727915933197 : True := trivial
theorem tw1871038981209635716 : True := trivial
theorem tw10802088584945983942 : True := trivial
theorem tw13606464409684254151 : True := trivial
theorem tw12380533284271653405 : True := trivial
theorem tw17207631439746941434 : True := trivial
theorem tw2406341653586208268 : True := trivial
theorem tw5841610924873887175 : True := trivial
theorem tw15757744379645062032 : True := trivial
theorem tw11626845375740290843 : True := trivial
theorem tw2322758552487894703 : True := trivial
theorem tw15590728942343966769 : True := trivial
theorem tw16569842265572391820 : True := trivial
theorem tw4629325695292510763 : True := trivial
theorem tw1732414312663399378 : True := trivial
theorem tw14061869472293592898 : True := trivial
theorem tw14060577123693885640 : True := trivial
theorem tw10017268615674635506 : True := trivial
theorem tw9309351599198695672 : True := trivial
theorem tw12090720537748871880 : True := trivial
theorem tw8562389436133534087 : True := trivial
theorem tw8164132756131199578 : True := trivial
theorem tw11479883713982731618 : True := trivial
theorem tw7574895447819972244 : True := trivial
theorem tw4449793357603814253 : True := trivial
theorem tw14068208855312685249 : True := trivial
theorem tw17167899171384613568 : True := trivial
theorem tw8445681500873782241 : True := trivial
theorem tw7008127292754369089 : True := trivial
theorem tw4571469663631572891 : True := trivial
theorem tw4863758436994460673 : True := trivial
theorem tw4035934421619866447 : True := trivial
theorem tw17827935900631497375 : True := trivial
theorem tw14647029861160173678 : True := trivial
theorem tw6851129689422750188 : True := trivial
theorem tw859500455104814579 : True := trivial
theorem tw4082442699799322589 : True := trivial
theorem tw801340238306900120 : True := trivial
theorem tw2807445564915107250 : True := trivial
theorem tw17088709034958477780 : True := trivial
theorem tw8373092115457157731 : True := trivial
theorem tw12124783293667835008 : True := trivial
theorem tw4368358557276834726 : True := trivial
theorem tw753706659001134471 : True := trivial
theorem tw13015398973567803031 : True := trivial
theorem tw7565426003640232699 : True := trivial
theorem tw1652330760094003194 : True := trivial
theorem tw9437791271288438627 : True := trivial
theorem tw5418626297829809646 : True := trivial
theorem tw8828520049344073646 : True := trivial
theorem tw9529260667189338332 : True := trivial
theorem tw13825872257177847791 : True := trivial
theorem tw1147231464931835281 : True := trivial
theorem tw10982343308268007713 : True := trivial
theorem tw7514376982610088006 : True := trivial
theorem tw7797715024628002648 : True := trivial
theorem tw658762415651198814 : True := trivial
theorem tw1588498559949224241 : True := trivial
theorem tw284910932096951612 : True := trivial
theorem tw10877300923233574141 : True := trivial
theorem tw16603748942373066430 : True := trivial
theorem tw3379603657332989898 : True := trivial
theorem tw18299757305009945336 : True := trivial
theorem tw13507180826771428119 : True := trivial
theorem tw13798670468525477494 : True := trivial
theorem tw16363072282231962344 : True := trivial
theorem tw13199813883076521979 : True := trivial
theorem tw5161890105554949506 : True := trivial
theorem tw2773611318046033566 : True := trivial
theorem tw14001483556054549802 : True := trivial
theorem tw12255730786905559683 : True := trivial
theorem tw8538580123823039419 : True := trivial
theorem tw1947148504849447448 : True := trivial
theorem tw7338097874823936093 : True := trivial
theorem tw13585775379137555571 : True := trivial
theorem tw9673656185278436994 : True := trivial
theorem tw6464016167969078684 : True := trivial
theorem tw17823009132207612250 : True := trivial
theorem tw11416869297120464774 : True := trivial
theorem tw1404833329162324615 : True := trivial
theorem tw2498321960045822638 : True := trivial
theorem tw6027992317397102959 : True := trivial
theorem tw14070002016103195345 : True := trivial
theorem tw4532522297753926640 : True := trivial
theorem tw4740695338733795339 : True := trivial
theorem tw6883941368637880978 : True := trivial
theorem tw9732649120227370497 : True := trivial
theorem tw13349653387078828312 : True := trivial
theorem tw4470644446371534335 : True := trivial
theorem tw731543748347150024 : True := trivial
theorem tw10576898984880402855 : True := trivial
theorem tw9820762831518929679 : True := trivial
theorem tw17624156366463540431 : True := trivial
theorem tw34832417359333693 : True := trivial
theorem tw6617513055966194867 : True := trivial
theorem tw159182706333624040 : True := trivial
theorem tw10718349020170094843 : True := trivial
theorem tw490428904998551080 : True := trivial
theorem tw10722608997641760291 : True := trivial
theorem tw811246153269395013 : True := trivial
theorem tw6351481605800174360 : True := trivial
theorem tw10574300521299603386 : True := trivial
theorem tw3168995866102848080 : True := trivial
theorem tw17932938780497800914 : True := trivial
theorem tw13207136936208052705 : True := trivial
theorem tw6795865541730480010 : True := trivial
theorem tw17704128452283180780 : True := trivial
theorem tw2680045238687728235 : True := trivial
theorem tw550602263187812037 : True := trivial
theorem tw8957405925395854010 : True := trivial
theorem tw9480701047124314501 : True := trivial
theorem tw13944311416747921456 : True := trivial
theorem tw13793749360156610451 : True := trivial
theorem tw13400916075619181033 : True := trivial
theorem tw10989178987768410504 : True := trivial
theorem tw18324760361031231519 : True := trivial
theorem tw12656997281892462441 : True := trivial
theorem tw1711024917990043386 : True := trivial
theorem tw13576036088418124154 : True := trivial
theorem tw9962094811579930372 : True := trivial
theorem tw12848673115459901503 : True := trivial
theorem tw12307381939095115683 : True := trivial
theorem tw2212255051684557635 : True := trivial
theorem tw15560953494388794994 : True := trivial
theorem tw3731864356870940507 : True := trivial
theorem tw10040937430840526739 : True := trivial
theorem tw12864402999532430370 : True := trivial
theorem tw11580008491862879030 : True := trivial
theorem tw8636874542948303221 : True := trivial
theorem tw4543148082284084817 : True := trivial
theorem tw7474495011278561440 : True := trivial
theorem tw7370709037973457322 : True := trivial
theorem tw5687999212267016017 : True := trivial
theorem tw17524713049325505574 : True := trivial
theorem tw10966130564109488789 : True := trivial
theorem tw17367603669396944253 : True := trivial
theorem tw830434692238574411 : True := trivial
theorem tw13906844835968597396 : True := trivial
theorem tw1274877150144231826 : True := trivial
theorem tw16644458303012142189 : True := trivial
theorem tw3646337313937950257 : True := trivial
theorem tw818461931185662200 : True := trivial
theorem tw7747980495762563358 : True := trivial
theorem tw456312935266162219 : True := trivial
theorem tw2690444967694171789 : True := trivial
theorem tw14502705860425280601 : True := trivial
theorem tw11913662436043001320 : True := trivial
theorem tw15160625925096771920 : True := trivial
theorem tw4343570510734292233 : True := trivial
theorem tw7512096577258059959 : True := trivial
theorem tw10407197693406002736 : True := trivial
theorem tw16365786605810620974 : True := trivial
theorem tw15057019695659167157 : True := trivial
theorem tw524833278284553476 : True := trivial
theorem tw12345959153010090645 : True := trivial
theorem tw10004369694949278456 : True := trivial
theorem tw5107978193788754153 : True := trivial
theorem tw10828396994071514065 : True := trivial
theorem tw4414010982350355220 : True := trivial
theorem tw12899749768327411645 : True := trivial
theorem tw16345893110784988394 : True := trivial
theorem tw5404853363422182649 : True := trivial
theorem tw2408580526459028493 : True := trivial
theorem tw5780673586725647476 : True := trivial
theorem tw5510187670399370354 : True := trivial
theorem tw16011003718638945730 : True := trivial
theorem tw13911021514672733740 : True := trivial
theorem tw12830375759444229961 : True := trivial
theorem tw16875012684662629725 : True := trivial
theorem tw11773805310729314230 : True := trivial
theorem tw15905715168141822882 : True := trivial
theorem tw16060944423348474800 : True := trivial
theorem tw2916711105459973163 : True := trivial
theorem tw2276813542524920583 : True := trivial
theorem tw849415387947987935 : True := trivial
theorem tw12497433425334900533 : True := trivial
theorem tw9978366106760674260 : True := trivial
theorem tw10077005048905120796 : True := trivial
theorem tw898541674480600402 : True := trivial
theorem tw1500078241971493724 : True := trivial
theorem tw6063263136077419160 : True := trivial
theorem tw3757402265608984134 : True := trivial
theorem tw10216402486365473495 : True := trivial
theorem tw664633286722711200 : True := trivial
theorem tw2578446911196353258 : True := trivial
theorem tw12638180056696097057 : True := trivial
theorem tw13154002445012345026 : True := trivial
theorem tw16936797877048525367 : True := trivial
theorem tw11861541617735616309 : True := trivial
theorem tw3114830793512484451 : True := trivial
theorem tw2850552122909364479 : True := trivial
theorem tw9308262750223938110 : True := trivial
theorem tw16009334959449649511 : True := trivial
theorem tw14262416529757941177 : True := trivial
theorem tw16559555162409458596 : True := trivial
theorem tw13419166602126429829 : True := trivial
theorem tw12358243457277627673 : True := trivial
theorem tw15965327207518472614 : True := trivial
theorem tw981715818751223240 : True := trivial
theorem tw7197947945018179579 : True := trivial
theorem tw7023980765934466811 : True := trivial
theorem tw7758776348631038005 : True := trivial
theorem tw14588656264764673180 : True := trivial
theorem tw1139911592295596133 : True := trivial
theorem tw17062305000867673721 : True := trivial
theorem tw3008938661251185792 : True := trivial
theorem tw8657312360503553418 : True := trivial
theorem tw13448218822928155133 : True := trivial
theorem tw18220793812217344485 : True := trivial
theorem tw4617848292479456247 : True := trivial
theorem tw14006435166818684407 : True := trivial
theorem tw16988024786739828661 : True := trivial
theorem tw16356637572345289927 : True := trivial
theorem tw1556172897597669750 : True := trivial
theorem tw13660072763389936593 : True := trivial
theorem tw13034479017520384722 : True := trivial
theorem tw15428852637816581230 : True := trivial
theorem tw11108935667002733554 : True := trivial
theorem tw17885506539422089985 : True := trivial
theorem tw15961549392772587550 : True := trivial
theorem tw7257032527602299165 : True := trivial
theorem tw4917770283319696326 : True := trivial
theorem tw11503530480835552360 : True := trivial
theorem tw5782505648747834737 : True := trivial
theorem tw11636229509559335739 : True := trivial
theorem tw443315691711721432 : True := trivial
theorem tw17251755781822658405 : True := trivial
theorem tw9660128854776322337 : True := trivial
theorem tw10794361406463981589 : True := trivial
theorem tw8485524170001786542 : True := trivial
theorem tw17617906863454236980 : True := trivial
theorem tw1993749160364996833 : True := trivial
theorem tw4506672338924611376 : True := trivial
theorem tw1708087406327694778 : True := trivial
theorem tw14827601606451319020 : True := trivial
theorem tw4771974292225069909 : True := trivial
theorem tw3303057004697727757 : True := trivial
theorem tw10443552367380140323 : True := trivial
theorem tw2022218405212113400 : True := trivial
theorem tw11681532882995008273 : True := trivial
theorem tw16520105816630748662 : True := trivial
theorem tw12584748456318975157 : True := trivial
theorem tw671582583643542934 : True := trivial
theorem tw1466914186932220745 : True := trivial
theorem tw5882887312544657408 : True := trivial
theorem tw17796784961152493990 : True := trivial
theorem tw13808040459811366443 : True := trivial
theorem tw4654447679908418222 : True := trivial
theorem tw14934219587725764763 : True := trivial
theorem tw16529918352037409679 : True := trivial
theorem tw4481601842292047107 : True := trivial
theorem tw4329374342706644730 : True := trivial
theorem tw12672891459559242941 : True := trivial
theorem tw11275239692518916335 : True := trivial
theorem tw17817782238578427334 : True := trivial
theorem tw2677652340749514739 : True := trivial
theorem tw8745470536251669005 : True := trivial
theorem tw7560557378385571542 : True := trivial
theorem tw10607549313138867516 : True := trivial
theorem tw741101182422649787 : True := trivial
theorem tw12243738893711642782 : True := trivial
theorem tw15263891354095464000 : True := trivial
theorem tw12472089441243704521 : True := trivial
theorem tw8123419049033519837 : True := trivial
theorem tw10675806107987550372 : True := trivial
theorem tw11601198330752478125 : True := trivial
theorem tw17199773168024539823 : True := trivial
theorem tw9410249157393916226 : True := trivial
theorem tw1445860211290982649 : True := trivial
theorem tw5625509444187130740 : True := trivial
theorem tw324848888860251618 : True := trivial
theorem tw1954378799395251385 : True := trivial
theorem tw14283640855507374291 : True := trivial
theorem tw2860200524901770307 : True := trivial
theorem tw11699917591735475141 : True := trivial
theorem tw5678412826434069334 : True := trivial
theorem tw9727432333339901562 : True := trivial
theorem tw4337097522564900311 : True := trivial
theorem tw12571551508085815590 : True := trivial
theorem tw17113201556798693894 : True := trivial
theorem tw11036608313150219154 : True := trivial
theorem tw8775206585988138232 : True := trivial
theorem tw13308621131414778898 : True := trivial
theorem tw17636031009184043064 : True := trivial
theorem tw9128608773450206242 : True := trivial
theorem tw18284507965597460679 : True := trivial
theorem tw7402122027706677442 : True := trivial
theorem tw3119366631441528369 : True := trivial
theorem tw10497883540520579498 : True := trivial
theorem tw6615988732144333187 : True := trivial
theorem tw9616776494253205540 : True := trivial
theorem tw15944262486929513341 : True := trivial
theorem tw12826084076852167658 : True := trivial
theorem tw3886392096813877794 : True := trivial
theorem tw2961190982451640047 : True := trivial
theorem tw532141049615873500 : True := trivial
theorem tw3471195175479400277 : True := trivial
theorem tw194606603222827565 : True := trivial
theorem tw6379803050547740466 : True := trivial
theorem tw7849615683925871547 : True := trivial
theorem tw3597331845643228701 : True := trivial
theorem tw5076318327385600628 : True := trivial
theorem tw12401864921061441142 : True := trivial
theorem tw18109227445096030530 : True := trivial
theorem tw17537060920772922216 : True := trivial
theorem tw11345283305327466779 : True := trivial
theorem tw15715556189284656044 : True := trivial
theorem tw14015768125041902870 : True := trivial
theorem tw531457647010370873 : True := trivial
theorem tw14733790582035561668 : True := trivial
theorem tw16730812130101488230 : True := trivial
theorem tw6511237199152558355 : True := trivial
theorem tw10621715536625667837 : True := trivial
theorem tw8261384426892513291 : True := trivial
theorem tw7066962276031836758 : True := trivial
theorem tw13636343216772554597 : True := trivial
theorem tw3139711330029647441 : True := trivial
theorem tw13758075834863419481 : True := trivial
theorem tw8328305101970446533 : True := trivial
theorem tw14139136167298127672 : True := trivial
theorem tw4775305045681963132 : True := trivial
theorem tw15906708681169155624 : True := trivial
theorem tw16046068053798875272 : True := trivial
theorem tw7815574495808742455 : True := trivial
theorem tw11154243329841179238 : True := trivial
theorem tw16761856369310207041 : True := trivial
theorem tw3396270161213570349 : True := trivial
theorem tw1521447561451224449 : True := trivial
theorem tw3073460667100453371 : True := trivial
theorem tw14629882658966137769 : True := trivial
theorem tw581313593963834824 : True := trivial
theorem tw3560289411304061120 : True := trivial
theorem tw2059309459381618743 : True := trivial
theorem tw8299048314452438066 : True := trivial
theorem tw2668887382977344420 : True := trivial
theorem tw14766402540400414449 : True := trivial
theorem tw11293192812862386056 : True := trivial
theorem tw3450877008408795727 : True := trivial
theorem tw14052003746867823442 : True := trivial
theorem tw2205982928705403054 : True := trivial
theorem tw9213163910004765788 : True := trivial
theorem tw18341731019211203668 : True := trivial
theorem tw14898541600151499128 : True := trivial
theorem tw5340246415838454054 : True := trivial
theorem tw4352349381499786106 : True := trivial
theorem tw10957622583940576536 : True := trivial
theorem tw3866911576875335539 : True := trivial
theorem tw4418603823758710883 : True := trivial
theorem tw3017043594260088313 : True := trivial
theorem tw18297770835348348535 : True := trivial
theorem tw1759271821858859070 : True := trivial
theorem tw12374311690671868677 : True := trivial
theorem tw15010488675353519908 : True := trivial
theorem tw6733613162111515585 : True := trivial
theorem tw13849327967396285638 : True := trivial
theorem tw1414269583473562438 : True := trivial
theorem tw8133348407133270138 : True := trivial
theorem tw747097997315718683 : True := trivial
theorem tw13247582599122589994 : True := trivial
theorem tw2194600186370540097 : True := trivial
theorem tw11507516574646876261 : True := trivial
theorem tw16801690036711122615 : True := trivial
theorem tw18353823781533784462 : True := trivial
theorem tw616227532837325262 : True := trivial
theorem tw17338189505682032548 : True := trivial
theorem tw15531737087998494807 : True := trivial
theorem tw8654949042915608221 : True := trivial
theorem tw15501556699672160497 : True := trivial
theorem tw1348209640473562483 : True := trivial
theorem tw895122767965424670 : True := trivial
theorem tw5839012052736938366 : True := trivial
theorem tw17902990053192652484 : True := trivial
theorem tw9693630879484567391 : True := trivial
theorem tw13430426312920299358 : True := trivial
theorem tw17908596754738375800 : True := trivial
theorem tw11687903843835030634 : True := trivial
theorem tw6508538684475840227 : True := trivial
theorem tw8052116389898120652 : True := trivial
theorem tw6217111586449810402 : True := trivial
theorem tw9789820829742511012 : True := trivial
theorem tw3274176182600049402 : True := trivial
theorem tw8261584023082411725 : True := trivial
theorem tw14518993530965448127 : True := trivial
theorem tw8580618941692065037 : True := trivial
theorem tw18285066920634724670 : True := trivial
theorem tw11321589923880070240 : True := trivial
theorem tw8263150708698166429 : True := trivial
theorem tw7888225934163165759 : True := trivial
theorem tw10176662125324499178 : True := trivial
theorem tw8552723430412271890 : True := trivial
theorem tw5741056836723564331 : True := trivial
theorem tw11792131871855912797 : True := trivial
theorem tw4798349406508865882 : True := trivial
theorem tw16451091190916991850 : True := trivial
theorem tw6172104799798891509 : True := trivial
theorem tw5099778730467969751 : True := trivial
theorem tw15292332758089724389 : True := trivial
theorem tw9728157371081844989 : True := trivial
theorem tw10097768139015908319 : True := trivial
theorem tw6665619442611963670 : True := trivial
theorem tw651118512806933850 : True := trivial
theorem tw8570571890482509405 : True := trivial
theorem tw987762340699851942 : True := trivial
theorem tw13092099715078531646 : True := trivial
theorem tw10582805286184757577 : True := trivial
theorem tw12742582266848114567 : True := trivial
theorem tw5692629358599337175 : True := trivial
theorem tw9836516872577050311 : True := trivial
theorem tw5586446865308504613 : True := trivial
theorem tw3606403888735666194 : True := trivial
theorem tw4125437129737900135 : True := trivial
theorem tw5959272440895185529 : True := trivial
theorem tw8952919916278260997 : True := trivial
theorem tw472972184737648606 : True := trivial
theorem tw4672922868786687831 : True := trivial
theorem tw4736280595158830145 : True := trivial
theorem tw18120253305739397852 : True := trivial
theorem tw13374779446368009918 : True := trivial
theorem tw13006993444700446495 : True := trivial
theorem tw1232886020458680646 : True := trivial
theorem tw14484371522646386389 : True := trivial
theorem tw10896285868257887254 : True := trivial
theorem tw12620085232213680709 : True := trivial
theorem tw7694947086928187234 : True := trivial
theorem tw15493203588442930815 : True := trivial
theorem tw9459866031025884604 : True := trivial
theorem tw17139901426534128622 : True := trivial
theorem tw17855077998457546726 : True := trivial
theorem tw899707356620695643 : True := trivial
theorem tw8050134801513181495 : True := trivial
theorem tw2758430033650777849 : True := trivial
theorem tw2680111859909254269 : True := trivial
theorem tw7350712734694725677 : True := trivial
theorem tw14888968698149954156 : True := trivial
theorem tw3214987825087766002 : True := trivial
theorem tw16830114300894134367 : True := trivial
theorem tw14770805670691838053 : True := trivial
theorem tw17444035339594030805 : True := trivial
theorem tw13876064789221659290 : True := trivial
theorem tw4574791559160769639 : True := trivial
theorem tw13892547477604963901 : True := trivial
theorem tw1965161131718918537 : True := trivial
theorem tw18056007285780904829 : True := trivial
theorem tw18388083142676010323 : True := trivial
theorem tw1567302601169513060 : True := trivial
theorem tw14431810453639490123 : True := trivial
theorem tw270106395432866433 : True := trivial
theorem tw13583210466125445928 : True := trivial
theorem tw16421116453816291619 : True := trivial
theorem tw183872707473864165 : True := trivial
theorem tw12804780671090113967 : True := trivial
theorem tw2694986792250203829 : True := trivial
theorem tw8277352370391768595 : True := trivial
theorem tw17772093935636390972 : True := trivial
theorem tw11818057465043049331 : True := trivial
theorem tw11671874860308125212 : True := trivial
theorem tw135474639299981617 : True := trivial
theorem tw7599899096299799244 : True := trivial
theorem tw1769719690282559523 : True := trivial
theorem tw8894452328722538296 : True := trivial
theorem tw6530263820186510130 : True := trivial
theorem tw4282466550586912700 : True := trivial
theorem tw16863972569764263428 : True := trivial
theorem tw250517386351783484 : True := trivial
theorem tw5532200266486573287 : True := trivial
theorem tw1603286207808108917 : True := trivial
theorem tw7157650449902481823 : True := trivial
theorem tw16191339886299351910 : True := trivial
theorem tw15877358017008998653 : True := trivial
theorem tw11241050180198665096 : True := trivial
theorem tw1124219519986488608 : True := trivial
theorem tw6264930796799723814 : True := trivial
theorem tw11656000518951719321 : True := trivial
theorem tw1465786175259272762 : True := trivial
theorem tw13265477056486207537 : True := trivial
theorem tw268262637099232370 : True := trivial
theorem tw17958589332002838912 : True := trivial
theorem tw18166928229380905557 : True := trivial
theorem tw2565936265630871333 : True := trivial
theorem tw688176042658172366 : True := trivial
theorem tw16160427361421963355 : True := trivial
theorem tw17742043601778097517 : True := trivial
theorem tw17939039492031981849 : True := trivial
theorem tw13540013184695623722 : True := trivial
theorem tw13755531364830568225 : True := trivial
theorem tw7496819998589937624 : True := trivial
theorem tw14651504917013334895 : True := trivial
theorem tw2300040399753985828 : True := trivial
theorem tw12225111062879767139 : True := trivial
theorem tw1883035036034231300 : True := trivial
theorem tw2096728967511880204 : True := trivial
theorem tw2212198513045332732 : True := trivial
theorem tw16522003333110792015 : True := trivial
theorem tw11814000204125397493 : True := trivial
theorem tw12863451149751208339 : True := trivial
theorem tw754454783863815296 : True := trivial
theorem tw12036588922897133190 : True := trivial
theorem tw17409562500972182147 : True := trivial
theorem tw12481789294215666142 : True := trivial
theorem tw8245983091900952631 : True := trivial
theorem tw7765747829179870740 : True := trivial
theorem tw10907380954133708184 : True := trivial
theorem tw17204482126362409461 : True := trivial
theorem tw5365683820617413329 : True := trivial
theorem tw13237687537646121646 : True := trivial
theorem tw5386540615687746203 : True := trivial
theorem tw8503240117800817881 : True := trivial
theorem tw15224237873593291696 : True := trivial
theorem tw12557937167726807382 : True := trivial
theorem tw730583685791064795 : True := trivial
theorem tw8301097188443852214 : True := trivial
theorem tw11910222865179496539 : True := trivial
theorem tw8400419702266608792 : True := trivial
theorem tw5092102623488457739 : True := trivial
theorem tw10677956354388227408 : True := trivial
theorem tw15952108655394508323 : True := trivial
theorem tw9091289048446091021 : True := trivial
theorem tw12550484155678312300 : True := trivial
theorem tw4407988877980643933 : True := trivial
theorem tw18211114512576853958 : True := trivial
theorem tw1802273065021965217 : True := trivial
theorem tw10065938306360430050 : True := trivial
theorem tw5351192014840318159 : True := trivial
theorem tw10097074253379222654 : True := trivial
theorem tw6025312409063558252 : True := trivial
theorem tw8837746149662774067 : True := trivial
theorem tw12925592706777619207 : True := trivial
theorem tw5295795118844000284 : True := trivial
theorem tw7600766152819705211 : True := trivial
theorem tw12298510540245247241 : True := trivial
theorem tw3325324031632916323 : True := trivial
theorem tw6655858960791629588 : True := trivial
theorem tw13572977445053789432 : True := trivial
theorem tw4486533088336017347 : True := trivial
theorem tw1004356285096818432 : True := trivial
theorem tw13800859709118078694 : True := trivial
theorem tw1094645069488510644 : True := trivial
theorem tw7066462400605413055 : True := trivial
theorem tw15990402600622139577 : True := trivial
theorem tw7726607856797399033 : True := trivial
theorem tw9405391201473179423 : True := trivial
theorem tw8054021197497963224 : True := trivial
theorem tw1681890911976636009 : True := trivial
theorem tw15647529294081275213 : True := trivial
theorem tw11094827046018307154 : True := trivial
theorem tw14635672846078861872 : True := trivial
theorem tw12147569825804422210 : True := trivial
theorem tw13671485556915482768 : True := trivial
theorem tw8264340605829201875 : True := trivial
theorem tw11321770991510177864 : True := trivial
theorem tw2262642825559090647 : True := trivial
theorem tw10444947770975879568 : True := trivial
theorem tw11886686840876336012 : True := trivial
theorem tw10015756826681504277 : True := trivial
theorem tw11981353905675136372 : True := trivial
theorem tw11038431060616735215 : True := trivial
theorem tw15692853062023587695 : True := trivial
theorem tw11424766446684551948 : True := trivial
theorem tw7140191482589996443 : True := trivial
theorem tw3975896464799833742 : True := trivial
theorem tw4600436151456481588 : True := trivial
theorem tw8025404325189865108 : True := trivial
theorem tw4553216003204029047 : True := trivial
theorem tw2791913650950619253 : True := trivial
theorem tw8796866640568801980 : True := trivial
theorem tw13000030699449601672 : True := trivial
theorem tw1533165823127259097 : True := trivial
theorem tw756475425191587089 : True := trivial
theorem tw8026622767010938302 : True := trivial
theorem tw5922090468066807830 : True := trivial
theorem tw4425985359540798433 : True := trivial
theorem tw14640293122445608228 : True := trivial
theorem tw5067726211839402631 : True := trivial
theorem tw15267277800113308362 : True := trivial
theorem tw17739242909213982349 : True := trivial
theorem tw5352802251295348785 : True := trivial
theorem tw8888683936946240449 : True := trivial
theorem tw5492328069077605871 : True := trivial
theorem tw9997070372543802687 : True := trivial
theorem tw2715815586588402004 : True := trivial
theorem tw16004571640090742531 : True := trivial
theorem tw23687812520272963 : True := trivial
theorem tw12423329784424925103 : True := trivial
theorem tw4113319871658384638 : True := trivial
theorem tw16844400232573073970 : True := trivial
theorem tw15795104884177314024 : True := trivial
theorem tw8274919365781204725 : True := trivial
theorem tw4964064832168930199 : True := trivial
theorem tw6249423367583500469 : True := trivial
theorem tw16098578899261809945 : True := trivial
theorem tw12112069626368695240 : True := trivial
theorem tw6557849154208133095 : True := trivial
theorem tw16832964709596116110 : True := trivial
theorem tw6037507050089884562 : True := trivial
theorem tw11560841254094643531 : True := trivial
theorem tw14891927951164997883 : True := trivial
theorem tw1183546961259299417 : True := trivial
theorem tw845125555151441618 : True := trivial
theorem tw5769069054880037726 : True := trivial
theorem tw10257937024638484401 : True := trivial
theorem tw12493607153520959394 : True := trivial
theorem tw8989348347516694095 : True := trivial
theorem tw15384529943658791960 : True := trivial
theorem tw10470062071632801198 : True := trivial
theorem tw5058705009159529408 : True := trivial
theorem tw3938098722394637875 : True := trivial
theorem tw4208933216760539723 : True := trivial
theorem tw8574630080823119374 : True := trivial
theorem tw561972785126218621 : True := trivial
theorem tw16388930508275605698 : True := trivial
theorem tw7385869134772781321 : True := trivial
theorem tw548812362667417092 : True := trivial
theorem tw14364034267292820856 : True := trivial
theorem tw6550093201501004009 : True := trivial
theorem tw13041985366024363018 : True := trivial
theorem tw2859009645435900707 : True := trivial
theorem tw15999238129218668018 : True := trivial
theorem tw6139052370988048201 : True := trivial
theorem tw10722160776983717097 : True := trivial
theorem tw1759276477996497683 : True := trivial
theorem tw10081781288635557901 : True := trivial
theorem tw234404399452323387 : True := trivial
theorem tw2818876783492578322 : True := trivial
theorem tw16167400329326615348 : True := trivial
theorem tw3459378939300806873 : True := trivial
theorem tw10463388216372837989 : True := trivial
theorem tw1691207115392074073 : True := trivial
theorem tw576768146130640263 : True := trivial
theorem tw7109593857866682897 : True := trivial
theorem tw7899994140604486137 : True := trivial
theorem tw9738083719265073501 : True := trivial
theorem tw834768863947916143 : True := trivial
theorem tw10992786054017107423 : True := trivial
theorem tw1322264735531545653 : True := trivial
theorem tw16976842245515951325 : True := trivial
theorem tw1781249507537718987 : True := trivial
theorem tw11571719565099656206 : True := trivial
theorem tw7379682993052129595 : True := trivial
theorem tw13194044101014445860 : True := trivial
theorem tw15836031312142127858 : True := trivial
theorem tw6787056002953610195 : True := trivial
theorem tw13135454512939028362 : True := trivial
theorem tw10878560439258508646 : True := trivial
theorem tw16538725833489720720 : True := trivial
theorem tw3635011300598026340 : True := trivial
theorem tw13096613724624582180 : True := trivial
theorem tw14527826230455987139 : True := trivial
theorem tw3008167532979348075 : True := trivial
theorem tw121505406937307099 : True := trivial
theorem tw9261363265604637300 : True := trivial
theorem tw3348806237855349093 : True := trivial
theorem tw8855521781163360578 : True := trivial
theorem tw7801249139812425732 : True := trivial
theorem tw8900271882516866612 : True := trivial
theorem tw6761075347593867365 : True := trivial
theorem tw15042533130845640741 : True := trivial
theorem tw8850298314151075192 : True := trivial
theorem tw10593021738287950882 : True := trivial
theorem tw240375684837350468 : True := trivial
theorem tw2810574277034497360 : True := trivial
theorem tw15847553803790721425 : True := trivial
theorem tw7487294575483958757 : True := trivial
theorem tw17373862998901707321 : True := trivial
theorem tw17035924289325234882 : True := trivial
theorem tw6575143589611283508 : True := trivial
theorem tw1350045953440258650 : True := trivial
theorem tw16309443698002529399 : True := trivial
theorem tw9305404980753596992 : True := trivial
theorem tw7084981704235050680 : True := trivial
theorem tw3393420440201808988 : True := trivial
theorem tw7987064745801669179 : True := trivial
theorem tw6694617962403245516 : True := trivial
theorem tw16893106798660565475 : True := trivial
theorem tw16050317201258147558 : True := trivial
theorem tw14615658773744653606 : True := trivial
theorem tw14633827210478680113 : True := trivial
theorem tw13537751670154140902 : True := trivial
theorem tw4665422914721563906 : True := trivial
theorem tw17454838822367838052 : True := trivial
theorem tw10630795142085612836 : True := trivial
theorem tw2543771475301392387 : True := trivial
theorem tw2426354813828156755 : True := trivial
theorem tw16531463606480842747 : True := trivial
theorem tw6701191676214362875 : True := trivial
theorem tw8151553330477518676 : True := trivial
theorem tw10601147565180841350 : True := trivial
theorem tw16817220652671880540 : True := trivial
theorem tw9624804291885292302 : True := trivial
theorem tw9949670485502215355 : True := trivial
theorem tw934610136503546787 : True := trivial
theorem tw5700992592240219572 : True := trivial
theorem tw16769171603290584788 : True := trivial
theorem tw15337633125655997038 : True := trivial
theorem tw11125696803020806659 : True := trivial
theorem tw11280112485133179441 : True := trivial
theorem tw15646378444156019685 : True := trivial
theorem tw4234867694534697967 : True := trivial
theorem tw6180055054159536801 : True := trivial
theorem tw4964532238990425744 : True := trivial
theorem tw14699477325073548 : True := trivial
theorem tw9163005388017949214 : True := trivial
theorem tw11044187829849903725 : True := trivial
theorem tw4467573922485934400 : True := trivial
theorem tw11925632417053751849 : True := trivial
theorem tw18050347692199944295 : True := trivial
theorem tw12372253529727621315 : True := trivial
theorem tw1077721068945915538 : True := trivial
theorem tw3657194648493011531 : True := trivial
theorem tw15633564540128152075 : True := trivial
theorem tw1858156023655611224 : True := trivial
theorem tw8949858989907763747 : True := trivial
theorem tw15912922805288032562 : True := trivial
theorem tw7144058828290780729 : True := trivial
theorem tw6236514630575653882 : True := trivial
theorem tw3126396711958623401 : True := trivial
theorem tw15836370038715863986 : True := trivial
theorem tw3681325712073002829 : True := trivial
theorem tw2261548978785719850 : True := trivial
theorem tw419092313544317512 : True := trivial
theorem tw2772394202027659989 : True := trivial
theorem tw12162356423979501414 : True := trivial
theorem tw4796126324850594313 : True := trivial
theorem tw10284998198850081664 : True := trivial
theorem tw7097863207308759375 : True := trivial
theorem tw14302767748945946463 : True := trivial
theorem tw10485401642917950696 : True := trivial
theorem tw13550571127195678859 : True := trivial
theorem tw3616801408725275653 : True := trivial
theorem tw5208092467080042815 : True := trivial
theorem tw7750636002514894659 : True := trivial
theorem tw1312580829186715403 : True := trivial
theorem tw12256442377396996275 : True := trivial
theorem tw9810407614811267505 : True := trivial
theorem tw3649738092051115368 : True := trivial
theorem tw2603838883388859895 : True := trivial
theorem tw15107010619611722047 : True := trivial
theorem tw5037736616614646722 : True := trivial
theorem tw12263743695893406564 : True := trivial
theorem tw15597782187192209611 : True := trivial
theorem tw16618527756151706899 : True := trivial
theorem tw14110970116565769662 : True := trivial
theorem tw5824089392259427254 : True := trivial
theorem tw1423787273653943300 : True := trivial
theorem tw17568901464147885347 : True := trivial
theorem tw6419708367941625013 : True := trivial
theorem tw2466756306899906536 : True := trivial
theorem tw15461366633980962315 : True := trivial
theorem tw7385124193009897759 : True := trivial
theorem tw2271731887278373514 : True := trivial
theorem tw17792514465367150426 : True := trivial
theorem tw12311615097775306870 : True := trivial
theorem tw10527073362048640608 : True := trivial
theorem tw355632151533960990 : True := trivial
theorem tw4728150091526452363 : True := trivial
theorem tw18333711909633259676 : True := trivial
theorem tw14189827171411128435 : True := trivial
theorem tw14033119833919781218 : True := trivial
theorem tw4384356995470525030 : True := trivial
theorem tw8885810312167645959 : True := trivial
theorem tw13051729043490089422 : True := trivial
theorem tw4886093995000977539 : True := trivial
theorem tw12482427995658167217 : True := trivial
theorem tw17387936490992124401 : True := trivial
theorem tw15549725266199802882 : True := trivial
theorem tw14027111899808451327 : True := trivial
theorem tw4973783513879118888 : True := trivial
theorem tw17313277903821447056 : True := trivial
theorem tw12850630575110163588 : True := trivial
theorem tw1261607457923401054 : True := trivial
theorem tw17750322956197184248 : True := trivial
theorem tw11052410770374470811 : True := trivial
theorem tw2772244038392008794 : True := trivial
theorem tw12232869037673187589 : True := trivial
theorem tw5638173904852574488 : True := trivial
theorem tw8623715303825835221 : True := trivial
theorem tw3086505837931797359 : True := trivial
theorem tw2275967689764432597 : True := trivial
theorem tw5929833888437371156 : True := trivial
theorem tw8391600938739684772 : True := trivial
theorem tw7288390679624652403 : True := trivial
theorem tw13802127194591524316 : True := trivial
theorem tw6079831888054379794 : True := trivial
theorem tw7885310444363433219 : True := trivial
theorem tw10915501916371831178 : True := trivial
theorem tw7802515612355565326 : True := trivial
theorem tw11285978811938455188 : True := trivial
theorem tw2684916936542951886 : True := trivial
theorem tw18233016970674961649 : True := trivial
theorem tw11476783542053868563 : True := trivial
theorem tw1607002700547596530 : True := trivial
theorem tw6259732351557373207 : True := trivial
theorem tw10929049016696270184 : True := trivial
theorem tw11448524619777117865 : True := trivial
theorem tw13769724441001051001 : True := trivial
theorem tw5198982673861408003 : True := trivial
theorem tw1476079633044450791 : True := trivial
theorem tw4557558862732151531 : True := trivial
theorem tw8225592503827479908 : True := trivial
theorem tw18038484798098736530 : True := trivial
theorem tw12519126647286406411 : True := trivial
theorem tw14399695307151982029 : True := trivial
theorem tw7197918273335009515 : True := trivial
theorem tw12186066328941442754 : True := trivial
theorem tw13755459925693688579 : True := trivial
theorem tw2758201458972840999 : True := trivial
theorem tw13016307383971262065 : True := trivial
theorem tw2529429188183107617 : True := trivial
theorem tw14010857219793514512 : True := trivial
theorem tw8644744368134217426 : True := trivial
theorem tw1329275895123000771 : True := trivial
theorem tw14719762695194338109 : True := trivial
theorem tw8408291814700579608 : True := trivial
theorem tw1116787848787481664 : True := trivial
theorem tw1707547044554080664 : True := trivial
theorem tw9795186596307042886 : True := trivial
theorem tw7022711883738785305 : True := trivial
theorem tw5077916298124791020 : True := trivial
theorem tw17345191125821436518 : True := trivial
theorem tw5000547754848991693 : True := trivial
theorem tw17140533862084505951 : True := trivial
theorem tw18282004020520233902 : True := trivial
theorem tw7619678149502228561 : True := trivial
theorem tw811131888602310430 : True := trivial
theorem tw1820523982296972448 : True := trivial
theorem tw11964180856295582587 : True := trivial
theorem tw15300974380174991262 : True := trivial
theorem tw3848376138041652314 : True := trivial
theorem tw3820077427674766023 : True := trivial
theorem tw17365215226698225588 : True := trivial
theorem tw5388663443116472448 : True := trivial
theorem tw9962820043253103733 : True := trivial
theorem tw14924198324820197669 : True := trivial
theorem tw10488632386096445562 : True := trivial
theorem tw12988172992320140560 : True := trivial
theorem tw8510133238131317501 : True := trivial
theorem tw13125706725970495830 : True := trivial
theorem tw4967311275513108100 : True := trivial
theorem tw1556879477536943964 : True := trivial
theorem tw6410327506079234251 : True := trivial
theorem tw16334002180410737016 : True := trivial
theorem tw3349342446822132010 : True := trivial
theorem tw9759443715123999148 : True := trivial
theorem tw8572711290017442709 : True := trivial
theorem tw4903906440769724506 : True := trivial
theorem tw7775792251687884101 : True := trivial
theorem tw9412798658601099433 : True := trivial
theorem tw9070576550838507069 : True := trivial
theorem tw7526219278331289574 : True := trivial
theorem tw11615379994941122477 : True := trivial
theorem tw9749453391875465452 : True := trivial
theorem tw7331701444373148308 : True := trivial
theorem tw15683651461440321703 : True := trivial
theorem tw8372463291966061914 : True := trivial
theorem tw9520056869566781574 : True := trivial
theorem tw6421009367864437010 : True := trivial
theorem tw2744529142473347564 : True := trivial
theorem tw17803782391751168062 : True := trivial
theorem tw2691812805494792478 : True := trivial
theorem tw9985333340532292355 : True := trivial
theorem tw16640336372167628519 : True := trivial
theorem tw8955058229541859270 : True := trivial
theorem tw7081638608367885528 : True := trivial
theorem tw10177196515005548567 : True := trivial
theorem tw12748298517687497710 : True := trivial
theorem tw209256999549848532 : True := trivial
theorem tw12295828825064115229 : True := trivial
theorem tw9169832913058701770 : True := trivial
theorem tw4221724817729192492 : True := trivial
theorem tw12123551246749342616 : True := trivial
theorem tw9939319664831371821 : True := trivial
theorem tw3180893630137859684 : True := trivial
theorem tw3392051392153055283 : True := trivial
theorem tw17597661870598826242 : True := trivial
theorem tw8894878121691416879 : True := trivial
theorem tw5935413242729521611 : True := trivial
theorem tw15005299738395986104 : True := trivial
theorem tw16025311403828422975 : True := trivial
theorem tw17834685075096981363 : True := trivial
theorem tw12042084639909186959 : True := trivial
theorem tw4280739881233303894 : True := trivial
theorem tw12061144308374886516 : True := trivial
theorem tw14662660219921284753 : True := trivial
theorem tw3033851743752461813 : True := trivial
theorem tw12130128777653695606 : True := trivial
theorem tw9359025403323903431 : True := trivial
theorem tw18376412680932378261 : True := trivial
theorem tw954739600115006994 : True := trivial
theorem tw7024122248293015213 : True := trivial
theorem tw3200804075498158561 : True := trivial
theorem tw11330355534074200847 : True := trivial
theorem tw7636879123719361302 : True := trivial
theorem tw7478812910501778713 : True := trivial
theorem tw10874958569378473445 : True := trivial
theorem tw4207682372042936888 : True := trivial
theorem tw7678821147080176291 : True := trivial
theorem tw12092587004006725875 : True := trivial
theorem tw7124055655141207162 : True := trivial
theorem tw5181219954017557579 : True := trivial
theorem tw2428386448306814025 : True := trivial
theorem tw10588346541145309248 : True := trivial
theorem tw2904087217184511878 : True := trivial
theorem tw4584250903583772593 : True := trivial
theorem tw13051213196102209918 : True := trivial
theorem tw4788181782285868795 : True := trivial
theorem tw16480483704249218050 : True := trivial
theorem tw14185642110695824674 : True := trivial
theorem tw6667777581817644648 : True := trivial
theorem tw18328750695389618370 : True := trivial
theorem tw12859054544249204118 : True := trivial
theorem tw16214419115889307556 : True := trivial
theorem tw16403409462739148070 : True := trivial
theorem tw2601214652789046661 : True := trivial
theorem tw6138259932443461639 : True := trivial
theorem tw10437677656957478275 : True := trivial
theorem tw4286521973202052941 : True := trivial
theorem tw15665591999465315082 : True := trivial
theorem tw10720341306335717289 : True := trivial
theorem tw8681209695314828324 : True := trivial
theorem tw16852841865495676907 : True := trivial
theorem tw16440056429475317356 : True := trivial
theorem tw7392285055957057107 : True := trivial
theorem tw1168645201989979423 : True := trivial
theorem tw5763738762437231195 : True := trivial
theorem tw4357787247641491026 : True := trivial
theorem tw3568268972910029176 : True := trivial
theorem tw9647296191379032582 : True := trivial
theorem tw11140769440516774039 : True := trivial
theorem tw6658853014818538149 : True := trivial
theorem tw13183584505122276847 : True := trivial
theorem tw10815320787415790845 : True := trivial
theorem tw6454544969766271574 : True := trivial
theorem tw8430469823365469640 : True := trivial
theorem tw8831221912153440614 : True := trivial
theorem tw2746354912019535174 : True := trivial
theorem tw6233941589072000289 : True := trivial
theorem tw4890316815313867346 : True := trivial
theorem tw4827460563956948945 : True := trivial
theorem tw16887878317564041040 : True := trivial
theorem tw6727340880425414867 : True := trivial
theorem tw3161412627747685179 : True := trivial
theorem tw16195560511081942063 : True := trivial
theorem tw13046249887698893629 : True := trivial
theorem tw6104288724650188817 : True := trivial
theorem tw15560256001224379225 : True := trivial
theorem tw14409316730599398530 : True := trivial
theorem tw4837794890393739135 : True := trivial
theorem tw11015164791565593231 : True := trivial
theorem tw7493115581654981597 : True := trivial
theorem tw16300129749284759149 : True := trivial
theorem tw15950241398278807885 : True := trivial
theorem tw8784612249668121720 : True := trivial
theorem tw8179297640680069454 : True := trivial
theorem tw9480738390685227789 : True := trivial
theorem tw1379453964977410041 : True := trivial
theorem tw2953947774117222054 : True := trivial
theorem tw11584718038141456698 : True := trivial
theorem tw2860720134437014615 : True := trivial
theorem tw7200941264173568474 : True := trivial
theorem tw11994398766503173120 : True := trivial
theorem tw3350595233794048729 : True := trivial
theorem tw9051422085058644236 : True := trivial
theorem tw8849630173935639455 : True := trivial
theorem tw4918419646584877358 : True := trivial
theorem tw11157175990873228445 : True := trivial
theorem tw4126663690352812094 : True := trivial
theorem tw2743485276851900854 : True := trivial
theorem tw8345311386736781803 : True := trivial
theorem tw10239994224605743473 : True := trivial
theorem tw14633870988825767896 : True := trivial
theorem tw3390641130185997307 : True := trivial
theorem tw10461216382244657055 : True := trivial
theorem tw13346262868903474440 : True := trivial
theorem tw6102090959206642309 : True := trivial
theorem tw12776598132582215009 : True := trivial
theorem tw13090824028614585785 : True := trivial
theorem tw17541971325926398094 : True := trivial
theorem tw9084379627388769880 : True := trivial
theorem tw377964465720610179 : True := trivial
theorem tw17324313740688420058 : True := trivial
theorem tw47176766697001612 : True := trivial
theorem tw6701730401017814063 : True := trivial
theorem tw8009170818685249236 : True := trivial
theorem tw14627172927319427212 : True := trivial
theorem tw7183601940159950124 : True := trivial
theorem tw6740079014589382373 : True := trivial
theorem tw15152861564362384489 : True := trivial
theorem tw2527324972173553447 : True := trivial
theorem tw14673588411897410624 : True := trivial
theorem tw6872253297832145687 : True := trivial
theorem tw8336416811011701589 : True := trivial
theorem tw3625103235736118306 : True := trivial
theorem tw251665582103060374 : True := trivial
theorem tw4089025867835479581 : True := trivial
theorem tw8747602307038011730 : True := trivial
theorem tw8008967790558439221 : True := trivial
theorem tw5204963200150870644 : True := trivial
theorem tw14245108014230197402 : True := trivial
theorem tw17765506337925105455 : True := trivial
theorem tw17256958669352479053 : True := trivial
theorem tw5926800297962245016 : True := trivial
theorem tw6171091051437635116 : True := trivial
theorem tw1601755981636726709 : True := trivial
theorem tw14370038220751849630 : True := trivial
theorem tw15819243690366142964 : True := trivial
theorem tw9386068466934577914 : True := trivial
theorem tw3754405085460396874 : True := trivial
theorem tw4487787550215542209 : True := trivial
theorem tw7881332759531175800 : True := trivial
theorem tw18278423503790775808 : True := trivial
theorem tw1655900610233215097 : True := trivial
theorem tw18150149676684642945 : True := trivial
theorem tw4395631447013767828 : True := trivial
theorem tw16913751292763558171 : True := trivial
theorem tw6946959024952566817 : True := trivial
theorem tw1596275104628943591 : True := trivial
theorem tw14305536408417188675 : True := trivial
theorem tw12363798047749747738 : True := trivial
theorem tw12792562784251936966 : True := trivial
theorem tw10339228591508270603 : True := trivial
theorem tw17814825803352793139 : True := trivial
theorem tw2113293834037975506 : True := trivial
theorem tw15033603958791946324 : True := trivial
theorem tw15716996246959755932 : True := trivial
theorem tw4081113804082257209 : True := trivial
theorem tw13679240381979869131 : True := trivial
theorem tw15196433635715355606 : True := trivial
theorem tw11646106470083574822 : True := trivial
theorem tw4650284570934673989 : True := trivial
theorem tw16920196794546731181 : True := trivial
theorem tw2391478924277311911 : True := trivial
theorem tw12474648587196309858 : True := trivial
theorem tw3464518201495501768 : True := trivial
theorem tw2836963001667683170 : True := trivial
theorem tw8369603990691186980 : True := trivial
theorem tw11248666548744196828 : True := trivial
theorem tw14578434275956844172 : True := trivial
theorem tw15533067148547201989 : True := trivial
theorem tw16801972267583329736 : True := trivial
theorem tw2399701561665648206 : True := trivial
theorem tw17024262379653293322 : True := trivial
theorem tw6713835420038592170 : True := trivial
theorem tw4551459171986215498 : True := trivial
theorem tw14729224418288228684 : True := trivial
theorem tw4835345903683824961 : True := trivial
theorem tw10547722226051902886 : True := trivial
theorem tw14910507674872652272 : True := trivial
theorem tw8079415569818072178 : True := trivial
theorem tw7622585743878655140 : True := trivial
theorem tw3725040169666985941 : True := trivial
theorem tw11271414344716305565 : True := trivial
theorem tw6044596656477263183 : True := trivial
theorem tw4532902002076403024 : True := trivial
theorem tw17505082979343066535 : True := trivial
theorem tw2672963642522792963 : True := trivial
theorem tw4383276956666792365 : True := trivial
theorem tw5088526310911625765 : True := trivial
theorem tw14180033560667953897 : True := trivial
theorem tw16866859968366394202 : True := trivial
theorem tw5827715457189360354 : True := trivial
theorem tw13218150976411170949 : True := trivial
theorem tw8927181627052037697 : True := trivial
theorem tw17275151531511433018 : True := trivial
theorem tw12785753998001166629 : True := trivial
theorem tw3837518823894096576 : True := trivial
theorem tw3319234709342868216 : True := trivial
theorem tw15555471593134014696 : True := trivial
theorem tw11063317657400372063 : True := trivial
theorem tw5913236576005215123 : True := trivial
theorem tw10587728986213128375 : True := trivial
theorem tw12352060547502599795 : True := trivial
theorem tw6020309661369855035 : True := trivial
theorem tw6443858588838982965 : True := trivial
theorem tw7883577187640427563 : True := trivial
theorem tw13114726333118752055 : True := trivial
theorem tw10381269638208149477 : True := trivial
theorem tw14491789043653749709 : True := trivial
theorem tw8030036003103158459 : True := trivial
theorem tw10636116120670923641 : True := trivial
theorem tw9370053618456543778 : True := trivial
theorem tw18246858971225582839 : True := trivial
theorem tw17618134393650016643 : True := trivial
theorem tw685688499815041004 : True := trivial
theorem tw16670361025886332213 : True := trivial
theorem tw13514174115335295584 : True := trivial
theorem tw13885857239473075051 : True := trivial
theorem tw8658600868194742787 : True := trivial
theorem tw16911279076619621433 : True := trivial
theorem tw15279068157480950908 : True := trivial
theorem tw10419185100860736379 : True := trivial
theorem tw3988516227937562782 : True := trivial
theorem tw6735778037399003860 : True := trivial
theorem tw13488413720407793960 : True := trivial
theorem tw4472034561319419227 : True := trivial
theorem tw12575563557350304111 : True := trivial
theorem tw5526366438251016931 : True := trivial
theorem tw11557032365213812167 : True := trivial
theorem tw16904229841524621398 : True := trivial
theorem tw18155746400138257722 : True := trivial
theorem tw7869130079808616822 : True := trivial
theorem tw17204142558089706560 : True := trivial
theorem tw18384747613872062997 : True := trivial
theorem tw5158754383418276998 : True := trivial
theorem tw9877656961382938203 : True := trivial
theorem tw11757055641068092481 : True := trivial
theorem tw17776031850837592371 : True := trivial
theorem tw6022573471098301621 : True := trivial
theorem tw2509160368998436999 : True := trivial
theorem tw8308268892755114335 : True := trivial
theorem tw6415388722601942168 : True := trivial
theorem tw13896752201362639836 : True := trivial
theorem tw5329658497582421022 : True := trivial
theorem tw4792378702695836659 : True := trivial
theorem tw14222638890389638753 : True := trivial
theorem tw862648985547075229 : True := trivial
theorem tw386790169405587155 : True := trivial
theorem tw11247497116807215617 : True := trivial
theorem tw2113757781018010116 : True := trivial
theorem tw2850925264857407935 : True := trivial
theorem tw15500498634890594342 : True := trivial
theorem tw17328309187407443776 : True := trivial
theorem tw14550677589991517317 : True := trivial
theorem tw1076437703154579469 : True := trivial
theorem tw11576931644561698593 : True := trivial
theorem tw16102290835924906850 : True := trivial
theorem tw16041442742028963623 : True := trivial
theorem tw3657401699203375636 : True := trivial
theorem tw7674125616174911472 : True := trivial
theorem tw16585804730132420171 : True := trivial
theorem tw12779061791733458980 : True := trivial
theorem tw16970440326241208511 : True := trivial
theorem tw14606503129324056518 : True := trivial
theorem tw15619034061002234554 : True := trivial
theorem tw1198897613723302600 : True := trivial
theorem tw11601974046100788150 : True := trivial
theorem tw10699558641036957146 : True := trivial
theorem tw16771218619328672698 : True := trivial
theorem tw11801833779753418813 : True := trivial
theorem tw12228018153493927909 : True := trivial
theorem tw8574947680288394093 : True := trivial
theorem tw14816745624652562023 : True := trivial
theorem tw11801602131514582377 : True := trivial
theorem tw13928094249660725397 : True := trivial
theorem tw5815174532236019434 : True := trivial
theorem tw7283201041701884632 : True := trivial
theorem tw7503222551168539800 : True := trivial
theorem tw6384461639406774444 : True := trivial
theorem tw15187416273542960686 : True := trivial
theorem tw12173869024783147531 : True := trivial
theorem tw11095520747681684194 : True := trivial
theorem tw11098207295253488277 : True := trivial
theorem tw2583247856276575179 : True := trivial
theorem tw17717267855473902512 : True := trivial
theorem tw13405266974523828005 : True := trivial
theorem tw13511635030693683576 : True := trivial
theorem tw6776897467741468373 : True := trivial
theorem tw16571727759510858601 : True := trivial
theorem tw5452245288912095371 : True := trivial
theorem tw17758531725144766195 : True := trivial
theorem tw12359411746058261332 : True := trivial
theorem tw9892152942879174026 : True := trivial
theorem tw5305923899113626697 : True := trivial
theorem tw12897363387920778186 : True := trivial
theorem tw5408570661192755985 : True := trivial
theorem tw14562169776388252434 : True := trivial
theorem tw7949511489320545053 : True := trivial
theorem tw11703385740776168796 : True := trivial
theorem tw4003585065826320578 : True := trivial
theorem tw11383420261251484532 : True := trivial
theorem tw6464230642588338422 : True := trivial
theorem tw12661997044540400652 : True := trivial
theorem tw7467248568552551711 : True := trivial
theorem tw17945676463187151624 : True := trivial
theorem tw8986899178270356438 : True := trivial
theorem tw847431337503754239 : True := trivial
theorem tw7330343889445007877 : True := trivial
theorem tw7593631845886833097 : True := trivial
theorem tw10287892129391699299 : True := trivial
theorem tw476485993066060735 : True := trivial
theorem tw15106229760708192152 : True := trivial
theorem tw16626962157174203310 : True := trivial
theorem tw9826028080564853938 : True := trivial
theorem tw16366775045151847556 : True := trivial
theorem tw17435978502872075631 : True := trivial
theorem tw13978768917936597239 : True := trivial
theorem tw16062741463573242172 : True := trivial
theorem tw12166337865540478623 : True := trivial
theorem tw11636085531299388603 : True := trivial
theorem tw13526351693589746924 : True := trivial
theorem tw5772895565618443780 : True := trivial
theorem tw8139819910115782102 : True := trivial
theorem tw5627334915236591905 : True := trivial
theorem tw6772831796203825033 : True := trivial
theorem tw13605563670338995683 : True := trivial
theorem tw17211530889908073143 : True := trivial
theorem tw16539187421644490457 : True := trivial
theorem tw7640661711782023971 : True := trivial
theorem tw2298350894354423068 : True := trivial
theorem tw7049449817226290620 : True := trivial
theorem tw5372101412099499646 : True := trivial
theorem tw13669380631824091718 : True := trivial
theorem tw5237145443304826828 : True := trivial
theorem tw17696904237173662631 : True := trivial
theorem tw11068118379610700576 : True := trivial
theorem tw14471761534102068799 : True := trivial
theorem tw5458857174620245611 : True := trivial
theorem tw13917892206001024831 : True := trivial
theorem tw2639257362990087465 : True := trivial
theorem tw15267187666977128029 : True := trivial
theorem tw6572156618417231794 : True := trivial
theorem tw7562461211636015911 : True := trivial
theorem tw494061454085723861 : True := trivial
theorem tw12533319509315927181 : True := trivial
theorem tw8316462663050413400 : True := trivial
theorem tw11635159315147848542 : True := trivial
theorem tw3764488407515064984 : True := trivial
theorem tw10177444465831025764 : True := trivial
theorem tw6994312426986152453 : True := trivial
theorem tw18309474638458409119 : True := trivial
theorem tw18137941640091887849 : True := trivial
theorem tw10502415700280912175 : True := trivial
theorem tw17113755914147439532 : True := trivial
theorem tw18096867854499797616 : True := trivial
theorem tw1374916702031329415 : True := trivial
theorem tw7775733624700900413 : True := trivial
theorem tw7436694937108892680 : True := trivial
theorem tw112191710042232447 : True := trivial
theorem tw14333956829745956448 : True := trivial
theorem tw13694700076783497305 : True := trivial
theorem tw4965981751077583197 : True := trivial
theorem tw7037550809855220850 : True := trivial
theorem tw5348225189875455496 : True := trivial
theorem tw3789918077299252812 : True := trivial
theorem tw9810892727058518957 : True := trivial
theorem tw17473313813402447310 : True := trivial
theorem tw12935228980856679758 : True := trivial
theorem tw5192720973108013352 : True := trivial
theorem tw14397230395486847359 : True := trivial
theorem tw14165627147555861915 : True := trivial
theorem tw3441793969413367762 : True := trivial
theorem tw14606415332135650610 : True := trivial
theorem tw3822084694372769950 : True := trivial
theorem tw11897909732622778125 : True := trivial
theorem tw8536651649814585681 : True := trivial
theorem tw3406282132065747690 : True := trivial
theorem tw8281452281478056526 : True := trivial
theorem tw8168173226815634998 : True := trivial
theorem tw14997606821270011159 : True := trivial
theorem tw7015464469294770774 : True := trivial
theorem tw14858145995723853214 : True := trivial
theorem tw12330774225875278967 : True := trivial
theorem tw16337624514800496108 : True := trivial
theorem tw3492874103590037553 : True := trivial
theorem tw13658760169655136181 : True := trivial
theorem tw5436017079116716952 : True := trivial
theorem tw13458566362819930937 : True := trivial
theorem tw12913672715591656904 : True := trivial
theorem tw13461038630100773348 : True := trivial
theorem tw2360306012177029629 : True := trivial
theorem tw11644800164261194221 : True := trivial
theorem tw4004370626608349456 : True := trivial
theorem tw4057744569350809892 : True := trivial
theorem tw17937498745578834060 : True := trivial
theorem tw10884802427808101899 : True := trivial
theorem tw18267175897843634724 : True := trivial
theorem tw6637227278765395302 : True := trivial
theorem tw1768163338487622738 : True := trivial
theorem tw11619500102761907652 : True := trivial
theorem tw17567469850553555640 : True := trivial
theorem tw17069309653913260984 : True := trivial
theorem tw13908966365953485861 : True := trivial
theorem tw5032309437882140586 : True := trivial
theorem tw6795070671597626626 : True := trivial
theorem tw311451218728662470 : True := trivial
theorem tw14263217242724114555 : True := trivial
theorem tw10706491815185123886 : True := trivial
theorem tw17899757537507280413 : True := trivial
theorem tw10639395537917697626 : True := trivial
theorem tw4290962849342651136 : True := trivial
theorem tw9182703824113361447 : True := trivial
theorem tw17231951781702107948 : True := trivial
theorem tw11362383014602135759 : True := trivial
theorem tw13920895169085125773 : True := trivial
theorem tw16179824301383560583 : True := trivial
theorem tw16366298724167373070 : True := trivial
theorem tw18445014537541912944 : True := trivial
theorem tw9164703354656627605 : True := trivial
theorem tw8212406796474855328 : True := trivial
theorem tw11995250748215605836 : True := trivial
theorem tw16328688224401114158 : True := trivial
theorem tw13953445304996700767 : True := trivial
theorem tw16806038099305460978 : True := trivial
theorem tw6802571673234584106 : True := trivial
theorem tw10741725549184608095 : True := trivial
theorem tw15630413872312204032 : True := trivial
theorem tw13128622176468575211 : True := trivial
theorem tw5911813382992744786 : True := trivial
theorem tw7929274524301241850 : True := trivial
theorem tw4978282110382791396 : True := trivial
theorem tw3860016570873336175 : True := trivial
theorem tw1075265414850946634 : True := trivial
theorem tw11857231011340686177 : True := trivial
theorem tw5283275043652523977 : True := trivial
theorem tw11345037600165672803 : True := trivial
theorem tw10370076343273626617 : True := trivial
theorem tw14365591630356715040 : True := trivial
theorem tw2535009639161432263 : True := trivial
theorem tw18270562324015923700 : True := trivial
theorem tw17356150143824722936 : True := trivial
theorem tw10562909219303948985 : True := trivial
theorem tw9515713971378605307 : True := trivial
theorem tw92090651982944993 : True := trivial
theorem tw13355666678200299601 : True := trivial
theorem tw4190683731352066095 : True := trivial
theorem tw5762763275041165053 : True := trivial
theorem tw14965474096505983825 : True := trivial
theorem tw11868232054559746390 : True := trivial
theorem tw7006559891379593889 : True := trivial
theorem tw13244291629513472158 : True := trivial
theorem tw4198966509721664711 : True := trivial
theorem tw570849515504279507 : True := trivial
theorem tw506918640453941286 : True := trivial
theorem tw3236459843935803746 : True := trivial
theorem tw15999230658884748828 : True := trivial
theorem tw13574916190474355209 : True := trivial
theorem tw18296306300782470118 : True := trivial
theorem tw10659212049227706484 : True := trivial
theorem tw17996402675463480872 : True := trivial
theorem tw7029707070010099427 : True := trivial
theorem tw3882561344411978878 : True := trivial
theorem tw1207533502935429100 : True := trivial
theorem tw5385432147305590282 : True := trivial
theorem tw17350872957945057050 : True := trivial
theorem tw4413822630942608039 : True := trivial
theorem tw16634228280774523991 : True := trivial
theorem tw713651839442305595 : True := trivial
theorem tw15160631036615064058 : True := trivial
theorem tw4649809113716806092 : True := trivial
theorem tw8033655830936778213 : True := trivial
theorem tw7598274869250197301 : True := trivial
theorem tw17088013373958776499 : True := trivial
theorem tw11384840450708588505 : True := trivial
theorem tw9770088278868009995 : True := trivial
theorem tw16047182616687260629 : True := trivial
theorem tw8308323138471054847 : True := trivial
theorem tw2137819926771455259 : True := trivial
theorem tw5251832138468898753 : True := trivial
theorem tw4431367545766066166 : True := trivial
theorem tw17821030184730600730 : True := trivial
theorem tw18411072066550148935 : True := trivial
theorem tw2641475892342480759 : True := trivial
theorem tw9622699905231071950 : True := trivial
theorem tw14067468852051117745 : True := trivial
theorem tw11153334795200887104 : True := trivial
theorem tw11050254253809348933 : True := trivial
theorem tw319499187876307230 : True := trivial
theorem tw14923105595970462170 : True := trivial
theorem tw18154771177974772366 : True := trivial
theorem tw3757433817597659742 : True := trivial
theorem tw7000620249498963049 : True := trivial
theorem tw5252555055286571879 : True := trivial
theorem tw8328122573891301645 : True := trivial
theorem tw10895380049471144808 : True := trivial
theorem tw13384773197698478982 : True := trivial
theorem tw7142891617682473555 : True := trivial
theorem tw16297625217754562054 : True := trivial
theorem tw16605743573557176464 : True := trivial
theorem tw9119151016962539107 : True := trivial
theorem tw7972278408060326001 : True := trivial
theorem tw8602429058114411533 : True := trivial
theorem tw5268226623686059953 : True := trivial
theorem tw7991861975762096326 : True := trivial
theorem tw11684404649110353807 : True := trivial
theorem tw4923957719054956002 : True := trivial
theorem tw7195727059041350272 : True := trivial
theorem tw6205617709795250576 : True := trivial
theorem tw12515295047797879616 : True := trivial
theorem tw1126964082855784639 : True := trivial
theorem tw13743159208287961433 : True := trivial
theorem tw16082811392208419528 : True := trivial
theorem tw17548270090239802653 : True := trivial
theorem tw756308262589021051 : True := trivial
theorem tw12734652736333799898 : True := trivial
theorem tw16632103631773743968 : True := trivial
theorem tw1233343023316546262 : True := trivial
theorem tw4882399567741231617 : True := trivial
theorem tw17339483221789532419 : True := trivial
theorem tw1082820642654386553 : True := trivial
theorem tw9430334600921561785 : True := trivial
theorem tw9622492533180113345 : True := trivial
theorem tw1097167642604196267 : True := trivial
theorem tw3759969462599079556 : True := trivial
theorem tw13564315738982539050 : True := trivial
theorem tw12836347120078506596 : True := trivial
theorem tw14252941421672799798 : True := trivial
theorem tw15118909947812074444 : True := trivial
theorem tw13184753460654954851 : True := trivial
theorem tw1038964541617081613 : True := trivial
theorem tw1582041412516319620 : True := trivial
theorem tw15991396603006124111 : True := trivial
theorem tw3445011699608429451 : True := trivial
theorem tw8125459335558550308 : True := trivial
theorem tw7465110480439592261 : True := trivial
theorem tw1604048199784625811 : True := trivial
theorem tw15818291742040257869 : True := trivial
theorem tw5800406885159142438 : True := trivial
theorem tw16146676063261832839 : True := trivial
theorem tw18299566619253253185 : True := trivial
theorem tw18215817034794236768 : True := trivial
theorem tw864596052973074263 : True := trivial
theorem tw647617070543059817 : True := trivial
theorem tw15004031750868718218 : True := trivial
theorem tw14111145451808513242 : True := trivial
theorem tw15410553268020819220 : True := trivial
theorem tw8423198909091669808 : True := trivial
theorem tw14721642242356365422 : True := trivial
theorem tw16691511270882354349 : True := trivial
theorem tw15491220298906100192 : True := trivial
theorem tw1492160671257134456 : True := trivial
theorem tw9139468364222771549 : True := trivial
theorem tw16751507483060987106 : True := trivial
theorem tw1398136100461216612 : True := trivial
theorem tw13029591948056545927 : True := trivial
theorem tw6250326018556029498 : True := trivial
theorem tw2534179627410139635 : True := trivial
theorem tw15695676198876217962 : True := trivial
theorem tw13204252461363399542 : True := trivial
theorem tw14044697441469412728 : True := trivial
theorem tw17369305067282588540 : True := trivial
theorem tw3009473321906564906 : True := trivial
theorem tw11081848076155087697 : True := trivial
theorem tw16604678649871348401 : True := trivial
theorem tw5744993456888538655 : True := trivial
theorem tw9827111780101835610 : True := trivial
theorem tw17101968861813416590 : True := trivial
theorem tw10005160615365332075 : True := trivial
theorem tw8825672925813044062 : True := trivial
theorem tw12805961352224373148 : True := trivial
theorem tw1468651256235370726 : True := trivial
theorem tw1552663484218722066 : True := trivial
theorem tw5364034357675727018 : True := trivial
theorem tw5656234628492075099 : True := trivial
theorem tw11361637244255322564 : True := trivial
theorem tw13490820160645767975 : True := trivial
theorem tw204677891215662430 : True := trivial
theorem tw8659819691012916964 : True := trivial
theorem tw11832955279028068266 : True := trivial
theorem tw14044614291335179854 : True := trivial
theorem tw6881261780560802909 : True := trivial
theorem tw18031490980229954608 : True := trivial
theorem tw11484480160427898925 : True := trivial
theorem tw6817155046058338733 : True := trivial
theorem tw303287320728568276 : True := trivial
theorem tw5320864996707950552 : True := trivial
theorem tw14267100378633638330 : True := trivial
theorem tw1070261002142746327 : True := trivial
theorem tw1749578041843387490 : True := trivial
theorem tw12339565362058304528 : True := trivial
theorem tw15467997532320448604 : True := trivial
theorem tw3680381649870823543 : True := trivial
theorem tw7877008389360984173 : True := trivial
theorem tw13784636038614685484 : True := trivial
theorem tw6355520069114214914 : True := trivial
theorem tw9829626674832305772 : True := trivial
theorem tw15660164222686762239 : True := trivial
theorem tw10943518087205248132 : True := trivial
theorem tw5420634488026651399 : True := trivial
theorem tw8570533951305894114 : True := trivial
theorem tw8335600915526702903 : True := trivial
theorem tw14118845756707987335 : True := trivial
theorem tw5825269691968097331 : True := trivial
theorem tw2365141017485284783 : True := trivial
theorem tw12415656510555192487 : True := trivial
theorem tw16318819476848634304 : True := trivial
theorem tw11900289349940292487 : True := trivial
theorem tw4271122360963920515 : True := trivial
theorem tw2423277960141752435 : True := trivial
theorem tw3078569702335818163 : True := trivial
theorem tw15838791353504741383 : True := trivial
theorem tw6375289469225666384 : True := trivial
theorem tw17087531814930877995 : True := trivial
theorem tw4230172615247214238 : True := trivial
theorem tw6801904408764777844 : True := trivial
theorem tw9592405315231211771 : True := trivial
theorem tw6385399664078211160 : True := trivial
theorem tw15089403655633332267 : True := trivial
theorem tw12877623321278250505 : True := trivial
theorem tw4733371166005235526 : True := trivial
theorem tw16798574069155261192 : True := trivial
theorem tw15978659463293134481 : True := trivial
theorem tw10309335819851489304 : True := trivial
theorem tw2279080297773837656 : True := trivial
theorem tw10080190131468713657 : True := trivial
theorem tw7304948286357869132 : True := trivial
theorem tw10560466491450747193 : True := trivial
theorem tw5453121436126838832 : True := trivial
theorem tw6901367563043128130 : True := trivial
theorem tw2050759377267566629 : True := trivial
theorem tw14118741180930392805 : True := trivial
theorem tw9907388215101868330 : True := trivial
theorem tw12312023785644302424 : True := trivial
theorem tw3772927146801234787 : True := trivial
theorem tw11128715338598054337 : True := trivial
theorem tw12687329891728338856 : True := trivial
theorem tw9331589543570608688 : True := trivial
theorem tw3526330604113813990 : True := trivial
theorem tw17861841584000074631 : True := trivial
theorem tw4662292699517785816 : True := trivial
theorem tw4707045161964723508 : True := trivial
theorem tw3266048698448841596 : True := trivial
theorem tw4498375950064976760 : True := trivial
theorem tw9560487847451165162 : True := trivial
theorem tw2789482957813529651 : True := trivial
theorem tw16367318082656427051 : True := trivial
theorem tw9271210900699757078 : True := trivial
theorem tw9821157543281366393 : True := trivial
theorem tw11352892207927958703 : True := trivial
theorem tw10512963496572370622 : True := trivial
theorem tw8376042377578040558 : True := trivial
theorem tw830677548989956172 : True := trivial
theorem tw14789953315588105331 : True := trivial
theorem tw17280340629530352660 : True := trivial
theorem tw6779117510367960806 : True := trivial
theorem tw12419707320625956544 : True := trivial
theorem tw15690601961707164408 : True := trivial
theorem tw689477832763929442 : True := trivial
theorem tw2706205506392083979 : True := trivial
theorem tw3957732532369918946 : True := trivial
theorem tw15396519863374191991 : True := trivial
theorem tw5365932739986617755 : True := trivial
theorem tw3944004186092720555 : True := trivial
theorem tw2141051393396248446 : True := trivial
theorem tw8423529099419315836 : True := trivial
theorem tw3336452441546618406 : True := trivial
theorem tw13954370499378925481 : True := trivial
theorem tw12861394694106106191 : True := trivial
theorem tw11674901219371916187 : True := trivial
theorem tw9373909324210591385 : True := trivial
theorem tw13193583460869428185 : True := trivial
theorem tw15256329750713121693 : True := trivial
theorem tw7873108651472446441 : True := trivial
theorem tw10329506389723962965 : True := trivial
theorem tw14683288999404743991 : True := trivial
theorem tw13899487916344503468 : True := trivial
theorem tw14992951982797548900 : True := trivial
theorem tw8340922560869950975 : True := trivial
theorem tw18213356333768939199 : True := trivial
theorem tw16991977147076392203 : True := trivial
theorem tw15031179188123399619 : True := trivial
theorem tw494145887812793615 : True := trivial
theorem tw7082738896715092736 : True := trivial
theorem tw14948578957972662207 : True := trivial
theorem tw7292924804528512754 : True := trivial
theorem tw8669836797212154274 : True := trivial
theorem tw2578099099441906512 : True := trivial
theorem tw6367178640465780785 : True := trivial
theorem tw16969198366381204560 : True := trivial
theorem tw1621742975315852368 : True := trivial
theorem tw1956438388250813093 : True := trivial
theorem tw13701466530755772543 : True := trivial
theorem tw1794809592255739028 : True := trivial
theorem tw6834378389176781475 : True := trivial
theorem tw12529000066617244906 : True := trivial
theorem tw1103228737919686157 : True := trivial
theorem tw17334384908844140670 : True := trivial
theorem tw5618322885724434532 : True := trivial
theorem tw3393798040543339104 : True := trivial
theorem tw15257778329066735045 : True := trivial
theorem tw14817301854748090927 : True := trivial
theorem tw14354925650636482206 : True := trivial
theorem tw9771105698942441039 : True := trivial
theorem tw17134621908194698502 : True := trivial
theorem tw15706251202243104094 : True := trivial
theorem tw4902020532371128924 : True := trivial
theorem tw3455859829354421070 : True := trivial
theorem tw2463209852158361685 : True := trivial
theorem tw14254590630257392518 : True := trivial
theorem tw14586340841844839164 : True := trivial
theorem tw11892092136888708815 : True := trivial
theorem tw7523394538646101541 : True := trivial
theorem tw2285909716549036115 : True := trivial
theorem tw17675523168453945713 : True := trivial
theorem tw2189437266258129550 : True := trivial
theorem tw5214732147895454958 : True := trivial
theorem tw10829868103230918757 : True := trivial
theorem tw9562305580074325102 : True := trivial
theorem tw10338518210619628280 : True := trivial
theorem tw6353928175111497147 : True := trivial
theorem tw15157824975396365425 : True := trivial
theorem tw2047214578042361667 : True := trivial
theorem tw10697898789032774077 : True := trivial
theorem tw18262021289021821457 : True := trivial
theorem tw13980296504572189889 : True := trivial
theorem tw16540991830278048964 : True := trivial
theorem tw2326994896171747712 : True := trivial
theorem tw225243740705274695 : True := trivial
theorem tw570770986342007677 : True := trivial
theorem tw9322273201249208881 : True := trivial
theorem tw2303777256490392337 : True := trivial
theorem tw5535177105604205318 : True := trivial
theorem tw3944346922575571341 : True := trivial
theorem tw1308838895948985443 : True := trivial
theorem tw10306158905173621069 : True := trivial
theorem tw749381916433130927 : True := trivial
theorem tw17293813181377920076 : True := trivial
theorem tw720897759755089542 : True := trivial
theorem tw7116057684019270519 : True := trivial
theorem tw3838483233254873455 : True := trivial
theorem tw5483388152019308061 : True := trivial
theorem tw16655939937159365085 : True := trivial
theorem tw13316460253678441943 : True := trivial
theorem tw11510196574364203106 : True := trivial
theorem tw3507476525054099422 : True := trivial
theorem tw247773059845431810 : True := trivial
theorem tw1653929183376148399 : True := trivial
theorem tw457299924092233045 : True := trivial
theorem tw12588068299990401713 : True := trivial
theorem tw14113947181005877383 : True := trivial
theorem tw15693624918235463897 : True := trivial
theorem tw6576784091772900070 : True := trivial
theorem tw476175889808872264 : True := trivial
theorem tw17952737205244828827 : True := trivial
theorem tw2405307914858485984 : True := trivial
theorem tw5617680062731789502 : True := trivial
theorem tw18435816534387216637 : True := trivial
theorem tw7916911624273652327 : True := trivial
theorem tw13527227674395491911 : True := trivial
theorem tw3440549839056332642 : True := trivial
theorem tw10630186447058648863 : True := trivial
theorem tw6876901816626798808 : True := trivial
theorem tw7096283700107257683 : True := trivial
theorem tw13185243690246145222 : True := trivial
theorem tw15161576437704203908 : True := trivial
theorem tw15751414687439016724 : True := trivial
theorem tw13915300089937399159 : True := trivial
theorem tw10489260218348603757 : True := trivial
theorem tw10589356633462732203 : True := trivial
theorem tw14350918725820567117 : True := trivial
theorem tw13677174165221224649 : True := trivial
theorem tw3408352279606757791 : True := trivial
theorem tw7172899578402736661 : True := trivial
theorem tw6492109066838361729 : True := trivial
theorem tw3572720594597081421 : True := trivial
theorem tw4120323204204412276 : True := trivial
theorem tw12362047000499869152 : True := trivial
theorem tw14604182920729826332 : True := trivial
theorem tw6076669703537021708 : True := trivial
theorem tw6733239723923234493 : True := trivial
theorem tw7568475797705778984 : True := trivial
theorem tw15498285189803706492 : True := trivial
theorem tw9439355979106467452 : True := trivial
theorem tw16582023548224151267 : True := trivial
theorem tw453265055804717957 : True := trivial
theorem tw14055284526977982852 : True := trivial
theorem tw10699984478435161492 : True := trivial
theorem tw10599471355312598614 : True := trivial
theorem tw13919846217537986528 : True := trivial
theorem tw266371379079013967 : True := trivial
theorem tw14993687833383050135 : True := trivial
theorem tw18100163645905942636 : True := trivial
theorem tw4137174090657935931 : True := trivial
theorem tw6775668809868157661 : True := trivial
theorem tw9623264201755078353 : True := trivial
theorem tw12530858925933523385 : True := trivial
theorem tw9243250227976621343 : True := trivial
theorem tw9800528291942927647 : True := trivial
theorem tw10947218353450045248 : True := trivial
theorem tw15258223877609741098 : True := trivial
theorem tw2489700545518413870 : True := trivial
theorem tw11870189222034696939 : True := trivial
theorem tw11962446612635195578 : True := trivial
theorem tw1518618589412814391 : True := trivial
theorem tw11270687594567388896 : True := trivial
theorem tw5750969494381739943 : True := trivial
theorem tw10694114891234792355 : True := trivial
theorem tw17476979134330670668 : True := trivial
theorem tw11282061185547426154 : True := trivial
theorem tw1930948188342019413 : True := trivial
theorem tw14791960841675872409 : True := trivial
theorem tw971952748122691301 : True := trivial
theorem tw15517947711142729383 : True := trivial
theorem tw6992136695552780663 : True := trivial
theorem tw13603196256635675551 : True := trivial
theorem tw7367961137256477743 : True := trivial
theorem tw2151746458713635226 : True := trivial
theorem tw5758520737118007911 : True := trivial
theorem tw5480362953305535312 : True := trivial
theorem tw12060168813141415173 : True := trivial
theorem tw12745461782727203300 : True := trivial
theorem tw12412059572851465498 : True := trivial
theorem tw191858205670056137 : True := trivial
theorem tw11195054224695390946 : True := trivial
theorem tw15447508042096883075 : True := trivial
theorem tw11877451558856743445 : True := trivial
theorem tw16370504515785049790 : True := trivial
theorem tw1248290628994187724 : True := trivial
theorem tw1407832467133998464 : True := trivial
theorem tw11503515628922869659 : True := trivial
theorem tw526285971650485836 : True := trivial
theorem tw17838105726058072025 : True := trivial
theorem tw17078653266388238596 : True := trivial
theorem tw11212871291680829611 : True := trivial
theorem tw1201552890550676906 : True := trivial
theorem tw16951975350759317022 : True := trivial
theorem tw4218136445666063910 : True := trivial
theorem tw10997155633873171937 : True := trivial
theorem tw13493110236542682032 : True := trivial
theorem tw12797535690754309434 : True := trivial
theorem tw2906911455289598113 : True := trivial
theorem tw13656634219611395857 : True := trivial
theorem tw9730643463557533037 : True := trivial
theorem tw8104288423081836345 : True := trivial
theorem tw934452651853218739 : True := trivial
theorem tw6133336233606083956 : True := trivial
theorem tw8769866840491266616 : True := trivial
theorem tw1686493350639098721 : True := trivial
theorem tw6619026923467661732 : True := trivial
theorem tw10203313542427598173 : True := trivial
theorem tw10640370187569388778 : True := trivial
theorem tw1705308917833042365 : True := trivial
theorem tw15797754120285998301 : True := trivial
theorem tw9415241430047525331 : True := trivial
theorem tw11215132015881914504 : True := trivial
theorem tw14082143813068081744 : True := trivial
theorem tw13583891139820951757 : True := trivial
theorem tw11447051336345991451 : True := trivial
theorem tw13679602058130027894 : True := trivial
theorem tw8245864962842526248 : True := trivial
theorem tw7643384044931158362 : True := trivial
theorem tw12231797453135368709 : True := trivial
theorem tw14405951307982314740 : True := trivial
theorem tw6618603192314377568 : True := trivial
theorem tw5847363366579472587 : True := trivial
theorem tw18136408707689528490 : True := trivial
theorem tw17154484276727437299 : True := trivial
theorem tw5523110072206754843 : True := trivial
theorem tw13621734899968663579 : True := trivial
theorem tw8679252773839086070 : True := trivial
theorem tw3625715373062270510 : True := trivial
theorem tw12895123899288883858 : True := trivial
theorem tw2661515043260943485 : True := trivial
theorem tw1554885357286962594 : True := trivial
theorem tw1861116662965389862 : True := trivial
theorem tw10889736104206453544 : True := trivial
theorem tw7288146943669398417 : True := trivial
theorem tw7356004604710659263 : True := trivial
theorem tw14580536192266716654 : True := trivial
theorem tw5057233186580155177 : True := trivial
theorem tw15483286215255696731 : True := trivial
theorem tw9861216496568449959 : True := trivial
theorem tw16531740219603294141 : True := trivial
theorem tw14960023551501183476 : True := trivial
theorem tw7765341100096355772 : True := trivial
theorem tw432229903438960516 : True := trivial
theorem tw16406285561230896170 : True := trivial
theorem tw10983864443076397310 : True := trivial
theorem tw2030589816426464622 : True := trivial
theorem tw16191751945607901287 : True := trivial
theorem tw10869768416226172019 : True := trivial
theorem tw7532597110471267429 : True := trivial
theorem tw2870241086796840793 : True := trivial
theorem tw2230711519550672384 : True := trivial
theorem tw17403758773632991197 : True := trivial
theorem tw12759349743880274099 : True := trivial
theorem tw2171038228196550251 : True := trivial
theorem tw8305890240484837801 : True := trivial
theorem tw8207182117837476965 : True := trivial
theorem tw11440698959297475893 : True := trivial
theorem tw18410485313733368024 : True := trivial
theorem tw17965781776064254553 : True := trivial
theorem tw7905415318918835366 : True := trivial
theorem tw18073459407416841940 : True := trivial
theorem tw9447813913588306265 : True := trivial
theorem tw14775411297928926859 : True := trivial
theorem tw6821758278777039306 : True := trivial
theorem tw4495711115755006888 : True := trivial
theorem tw2877035433281753195 : True := trivial
theorem tw1542034563292981953 : True := trivial
theorem tw5882681078588304330 : True := trivial
theorem tw7516272444106540826 : True := trivial
theorem tw5953366463608720116 : True := trivial
theorem tw11696060425615673584 : True := trivial
theorem tw10431183548571678742 : True := trivial
theorem tw6497730134969450040 : True := trivial
theorem tw16566156841632473224 : True := trivial
theorem tw16058020203232016664 : True := trivial
theorem tw13887825426639783052 : True := trivial
theorem tw1571379783341164784 : True := trivial
theorem tw1281462490270198126 : True := trivial
theorem tw12267012557303499111 : True := trivial
theorem tw15907945189014463536 : True := trivial
theorem tw4710164408591019998 : True := trivial
theorem tw5277878257615885289 : True := trivial
theorem tw16479508307415872586 : True := trivial
theorem tw11863132688792903986 : True := trivial
theorem tw4026662208856555554 : True := trivial
theorem tw3176141261316160846 : True := trivial
theorem tw13270832302499319513 : True := trivial
theorem tw1602960499729462475 : True := trivial
theorem tw14771414984049312985 : True := trivial
theorem tw11641907042004851877 : True := trivial
theorem tw17084167029822182627 : True := trivial
theorem tw3538332904841368402 : True := trivial
theorem tw14405909499969037492 : True := trivial
theorem tw6139536567202173320 : True := trivial
theorem tw12987200867776294739 : True := trivial
theorem tw13940218414423209436 : True := trivial
theorem tw7127668841585600202 : True := trivial
theorem tw1689861160866477653 : True := trivial
theorem tw67008345033496205 : True := trivial
theorem tw5054257727964609429 : True := trivial
theorem tw10336731917256507290 : True := trivial
theorem tw9833597446034889300 : True := trivial
theorem tw7463863930334960843 : True := trivial
theorem tw16406330461164436108 : True := trivial
theorem tw3699265380437562914 : True := trivial
theorem tw13734054603537976475 : True := trivial
theorem tw8081960629360973508 : True := trivial
theorem tw17272117290492682874 : True := trivial
theorem tw4268725571427010929 : True := trivial
theorem tw16067410564113329889 : True := trivial
theorem tw12476546093634691895 : True := trivial
theorem tw14346609872113785728 : True := trivial
theorem tw14884296167415224034 : True := trivial
theorem tw6185588557048083313 : True := trivial
theorem tw10101862277694104866 : True := trivial
theorem tw8618454638039726943 : True := trivial
theorem tw7659281473203222925 : True := trivial
theorem tw3143021234812635337 : True := trivial
theorem tw14068770864108645057 : True := trivial
theorem tw5652594347835086507 : True := trivial
theorem tw17512867252713065654 : True := trivial
theorem tw8164217288796908936 : True := trivial
theorem tw1009855227862362624 : True := trivial
theorem tw931246770466324952 : True := trivial
theorem tw15537723188489780575 : True := trivial
theorem tw16776189536853897370 : True := trivial
theorem tw2347575370561859227 : True := trivial
theorem tw4558287330933998666 : True := trivial
theorem tw3324721588859805393 : True := trivial
theorem tw4188531211223284304 : True := trivial
theorem tw12932999903345666865 : True := trivial
theorem tw11611396178501241467 : True := trivial
theorem tw17039002671941538971 : True := trivial
theorem tw13137127002743527270 : True := trivial
theorem tw2440795208373160120 : True := trivial
theorem tw5385974586812606100 : True := trivial
theorem tw15209082544383458746 : True := trivial
theorem tw11258775480326387039 : True := trivial
theorem tw16596563373493330450 : True := trivial
theorem tw899146388450967200 : True := trivial
theorem tw7414083912425545443 : True := trivial
theorem tw12171435272335761037 : True := trivial
theorem tw6705628012418976292 : True := trivial
theorem tw218905926110748342 : True := trivial
theorem tw4721778583167081526 : True := trivial
theorem tw7997612749668591491 : True := trivial
theorem tw16496419436164591024 : True := trivial
theorem tw16969568679729691790 : True := trivial
theorem tw10840286465011284614 : True := trivial
theorem tw18240471572806599680 : True := trivial
theorem tw6430604103326361507 : True := trivial
theorem tw17900570135456266184 : True := trivial
theorem tw8487296828731887114 : True := trivial
theorem tw6768980859977789592 : True := trivial
theorem tw7858808554737549685 : True := trivial
theorem tw10208832451521654786 : True := trivial
theorem tw4802384310031178652 : True := trivial
theorem tw9637888358954827168 : True := trivial
theorem tw1328791305574315960 : True := trivial
theorem tw18050873992777856508 : True := trivial
theorem tw116468241793439393 : True := trivial
theorem tw6694986926591062917 : True := trivial
theorem tw1176503699729583543 : True := trivial
theorem tw7478790990743442369 : True := trivial
theorem tw16108490537934032855 : True := trivial
theorem tw2688229799378146271 : True := trivial
theorem tw14376414398745365205 : True := trivial
theorem tw17689335925916329145 : True := trivial
theorem tw9422876157641006846 : True := trivial
theorem tw13381121016914594271 : True := trivial
theorem tw16089351960315881013 : True := trivial
theorem tw5820394101727114608 : True := trivial
theorem tw16059131061870473116 : True := trivial
theorem tw1204501537976444698 : True := trivial
theorem tw6294624858727619768 : True := trivial
theorem tw1366065745358603593 : True := trivial
theorem tw15304430925744322548 : True := trivial
theorem tw12477272353298141409 : True := trivial
theorem tw6902959569918656105 : True := trivial
theorem tw8308863589153582212 : True := trivial
theorem tw14881567996855575806 : True := trivial
theorem tw3629287525713281847 : True := trivial
theorem tw3514715957065755264 : True := trivial
theorem tw17709933162234352781 : True := trivial
theorem tw17837050512814545841 : True := trivial
theorem tw17521632175065163879 : True := trivial
theorem tw3350924883632675270 : True := trivial
theorem tw3566263400949092879 : True := trivial
theorem tw12616059779096719413 : True := trivial
theorem tw557078194145717415 : True := trivial
theorem tw229867189555070338 : True := trivial
theorem tw4123173279904819547 : True := trivial
theorem tw9662196750615398532 : True := trivial
theorem tw18401438124301198976 : True := trivial
theorem tw17870836788242710252 : True := trivial
theorem tw10111427162530317512 : True := trivial
theorem tw16605971783711737271 : True := trivial
theorem tw9089978877827474534 : True := trivial
theorem tw4726729276009014626 : True := trivial
theorem tw3607214446963857696 : True := trivial
theorem tw12480199755178262266 : True := trivial
theorem tw14287192821932681153 : True := trivial
theorem tw4297276081068200154 : True := trivial
theorem tw3146163488490789700 : True := trivial
theorem tw1089220261176138981 : True := trivial
theorem tw16366376711725978815 : True := trivial
theorem tw11379702381994060367 : True := trivial
theorem tw14856667031290435607 : True := trivial
theorem tw992304508813722448 : True := trivial
theorem tw11194583813762494895 : True := trivial
theorem tw8825403372866976734 : True := trivial
theorem tw17052143638580312184 : True := trivial
theorem tw11125602784890693682 : True := trivial
theorem tw2655123686760328318 : True := trivial
theorem tw5258267575139913302 : True := trivial
theorem tw9271165464688939246 : True := trivial
theorem tw17418906676571887279 : True := trivial
theorem tw12433390638144068848 : True := trivial
theorem tw15983233224223569225 : True := trivial
theorem tw13696195754578191322 : True := trivial
theorem tw13561215780562615249 : True := trivial
theorem tw12783755136786156622 : True := trivial
theorem tw7675637802534644277 : True := trivial
theorem tw11064163731983601845 : True := trivial
theorem tw11486961578565742251 : True := trivial
theorem tw12948107901229590849 : True := trivial
theorem tw1115927794092085016 : True := trivial
theorem tw219848185699973176 : True := trivial
theorem tw10758480229704711266 : True := trivial
theorem tw12599763096026592832 : True := trivial
theorem tw12712878550643464462 : True := trivial
theorem tw11993396633896637778 : True := trivial
theorem tw12393335033826067122 : True := trivial
theorem tw14361755080744141250 : True := trivial
theorem tw16286650524806207408 : True := trivial
theorem tw2276170566192079649 : True := trivial
theorem tw7352734575223096416 : True := trivial
theorem tw701333871860788798 : True := trivial
theorem tw3751020721999793927 : True := trivial
theorem tw11571125882177959631 : True := trivial
theorem tw6750149325742481006 : True := trivial
theorem tw11749192872636842022 : True := trivial
theorem tw6206143072981439989 : True := trivial
theorem tw8421675749343163490 : True := trivial
theorem tw5042031621918374997 : True := trivial
theorem tw7990761379377711968 : True := trivial
theorem tw13881616809202463386 : True := trivial
theorem tw6518783970581940910 : True := trivial
theorem tw10001376571194415598 : True := trivial
theorem tw4404802331993585441 : True := trivial
theorem tw2746435635047748200 : True := trivial
theorem tw13051903725336611093 : True := trivial
theorem tw17071916424225548870 : True := trivial
theorem tw16227517741297894551 : True := trivial
theorem tw11103485321394439064 : True := trivial
theorem tw5257779829666563621 : True := trivial
theorem tw5013124569227165513 : True := trivial
theorem tw14319851992128436424 : True := trivial
theorem tw11289669960579775837 : True := trivial
theorem tw5216041652913847748 : True := trivial
theorem tw17387535511512816913 : True := trivial
theorem tw11691951809044239382 : True := trivial
theorem tw11712958735858013149 : True := trivial
theorem tw1998644747343500082 : True := trivial
theorem tw10536690072989584783 : True := trivial
theorem tw13632946797598576545 : True := trivial
theorem tw13851174660186471688 : True := trivial
theorem tw7467576365546925504 : True := trivial
theorem tw14499534999252554846 : True := trivial
theorem tw2000719429033806939 : True := trivial
theorem tw10857933307635740914 : True := trivial
theorem tw536240675753065852 : True := trivial
theorem tw67098370914650669 : True := trivial
theorem tw12695065393178446529 : True := trivial
theorem tw1689765766031892251 : True := trivial
theorem tw7412733740280448014 : True := trivial
theorem tw17888744222233364166 : True := trivial
theorem tw18265994912532206221 : True := trivial
theorem tw14403671553940116538 : True := trivial
theorem tw9353566595829184377 : True := trivial
theorem tw14581247051300870150 : True := trivial
theorem tw1440405582661680393 : True := trivial
theorem tw4412742346373208767 : True := trivial
theorem tw8556495555212697040 : True := trivial
theorem tw4732711315701793412 : True := trivial
theorem tw513697359772494513 : True := trivial
theorem tw13805768988582159408 : True := trivial
theorem tw8717141517579126555 : True := trivial
theorem tw6892804217783061625 : True := trivial
theorem tw3182801323433048571 : True := trivial
theorem tw18324281099795795351 : True := trivial
theorem tw10521890717400136913 : True := trivial
theorem tw3855297753791841275 : True := trivial
theorem tw8752005576109432689 : True := trivial
theorem tw5058128563704118787 : True := trivial
theorem tw8164775800715399842 : True := trivial
theorem tw2640342870794100673 : True := trivial
theorem tw4018188075718499074 : True := trivial
theorem tw2425265355763888814 : True := trivial
theorem tw8548000277116946967 : True := trivial
theorem tw3548451543793370761 : True := trivial
theorem tw6760163678352158319 : True := trivial
theorem tw17864665422005496596 : True := trivial
theorem tw17930319363714374780 : True := trivial
theorem tw17219658907462291562 : True := trivial
theorem tw18190675974356598325 : True := trivial
theorem tw518599366115833347 : True := trivial
theorem tw3759871884693947642 : True := trivial
theorem tw3929401971424397475 : True := trivial
theorem tw17955876550801776877 : True := trivial
theorem tw11693262988933489191 : True := trivial
theorem tw9414293034201886073 : True := trivial
theorem tw3016000758615597921 : True := trivial
theorem tw902245798231176996 : True := trivial
theorem tw17203543857550081352 : True := trivial
theorem tw8084957014536614247 : True := trivial
theorem tw2913150544057900368 : True := trivial
theorem tw15436545470212372526 : True := trivial
theorem tw932939572126917524 : True := trivial
theorem tw15387650689064277002 : True := trivial
theorem tw16240031800901605104 : True := trivial
theorem tw13154358906217035530 : True := trivial
theorem tw1697669276246526613 : True := trivial
theorem tw11977037327992223289 : True := trivial
theorem tw12570622532156494447 : True := trivial
theorem tw9950011761989109930 : True := trivial
theorem tw14037810226895882037 : True := trivial
theorem tw14362323218467746215 : True := trivial
theorem tw10987262580963231377 : True := trivial
theorem tw3649045861602520909 : True := trivial
theorem tw2211447762709706822 : True := trivial
theorem tw9988889948071970072 : True := trivial
theorem tw10923139809614818200 : True := trivial
theorem tw9758768833346910788 : True := trivial
theorem tw956130084977850326 : True := trivial
theorem tw3242100577779406744 : True := trivial
theorem tw9451270464207775727 : True := trivial
theorem tw7214405823265498113 : True := trivial
theorem tw15160390585247802770 : True := trivial
theorem tw2718235120536490689 : True := trivial
theorem tw815867798212688655 : True := trivial
theorem tw7335482329067081262 : True := trivial
theorem tw12137576861534017026 : True := trivial
theorem tw15951949607301796108 : True := trivial
theorem tw4655315907395499933 : True := trivial
theorem tw7452911708979374436 : True := trivial
theorem tw3393842295554240165 : True := trivial
theorem tw11102844196846654938 : True := trivial
theorem tw880959901304761182 : True := trivial
theorem tw18429688212110666324 : True := trivial
theorem tw12288997224895260641 : True := trivial
theorem tw17529024782456274219 : True := trivial
theorem tw956280657944844598 : True := trivial
theorem tw4040025298432915284 : True := trivial
theorem tw10561108840277224095 : True := trivial
theorem tw17288819624141055687 : True := trivial
theorem tw7849449387731954079 : True := trivial
theorem tw15300055549011646258 : True := trivial
theorem tw15938689905153916611 : True := trivial
theorem tw13446723845010144979 : True := trivial
theorem tw1075202397026098379 : True := trivial
theorem tw2677584869886248397 : True := trivial
theorem tw7322371532491127125 : True := trivial
theorem tw17457735268983472324 : True := trivial
theorem tw1209713868428539641 : True := trivial
theorem tw14470868434278903860 : True := trivial
theorem tw16709815241372214603 : True := trivial
theorem tw18198755073929028274 : True := trivial
theorem tw5571716525204575196 : True := trivial
theorem tw5520094060637708210 : True := trivial
theorem tw6203043786103000397 : True := trivial
theorem tw7185271042249896797 : True := trivial
theorem tw7816188314697994054 : True := trivial
theorem tw14653323193814047475 : True := trivial
theorem tw14807337664306847086 : True := trivial
theorem tw3225301777126272572 : True := trivial
theorem tw875584335121484017 : True := trivial
theorem tw3621327008826520417 : True := trivial
theorem tw17311649284578446369 : True := trivial
theorem tw3488931729326920253 : True := trivial
theorem tw3148026014087703951 : True := trivial
theorem tw980692348773178989 : True := trivial
theorem tw7629825303864756642 : True := trivial
theorem tw7353228504018580644 : True := trivial
theorem tw15296481052920139244 : True := trivial
theorem tw1045141838318179588 : True := trivial
theorem tw13072003044384886893 : True := trivial
theorem tw5023332583096445590 : True := trivial
theorem tw10208797250568666999 : True := trivial
theorem tw15044818100178032601 : True := trivial
theorem tw4683268990765006698 : True := trivial
theorem tw7295082531079960931 : True := trivial
theorem tw2077426810907537329 : True := trivial
theorem tw11664321491039574020 : True := trivial
theorem tw17693169975952890619 : True := trivial
theorem tw13283366291620684476 : True := trivial
theorem tw8394593510680638375 : True := trivial
theorem tw6606736035308884613 : True := trivial
theorem tw4815763825155147402 : True := trivial
theorem tw10678866830765296312 : True := trivial
theorem tw4122853151906200004 : True := trivial
theorem tw6538076694048671669 : True := trivial
theorem tw4256255949250867691 : True := trivial
theorem tw12054967052448323090 : True := trivial
theorem tw11643521660748556678 : True := trivial
theorem tw77125785138347410 : True := trivial
theorem tw9755965791859823377 : True := trivial
theorem tw13921909817310873123 : True := trivial
theorem tw6331918093504885028 : True := trivial
theorem tw15201162926039577586 : True := trivial
theorem tw7191739897596378674 : True := trivial
theorem tw11253860748237546572 : True := trivial
theorem tw2092097926734222929 : True := trivial
theorem tw7777365278476050488 : True := trivial
theorem tw12625827591927659823 : True := trivial
theorem tw1482017505807827734 : True := trivial
theorem tw15329613846169821087 : True := trivial
theorem tw10060545906366274611 : True := trivial
theorem tw7169238631615577880 : True := trivial
theorem tw3974360265505046321 : True := trivial
theorem tw5687298414607436177 : True := trivial
theorem tw15867661575090828484 : True := trivial
theorem tw4652788137782927837 : True := trivial
theorem tw6770119755595369961 : True := trivial
theorem tw10374461098295121661 : True := trivial
theorem tw16294059661003136885 : True := trivial
theorem tw14929259012398402328 : True := trivial
theorem tw1231235616766511141 : True := trivial
theorem tw12588395382894074765 : True := trivial
theorem tw4232697579131407755 : True := trivial
theorem tw5618276342936805239 : True := trivial
theorem tw11835102249061482251 : True := trivial
theorem tw4184026237873129578 : True := trivial
theorem tw4982441920772891590 : True := trivial
theorem tw11883302988258462911 : True := trivial
theorem tw10257147191437704744 : True := trivial
theorem tw16914050568806172480 : True := trivial
theorem tw4234842444309228417 : True := trivial
theorem tw9881883178641665215 : True := trivial
theorem tw2774637035337678153 : True := trivial
theorem tw18338748697870832207 : True := trivial
theorem tw11635270444624334030 : True := trivial
theorem tw12550130259074727243 : True := trivial
theorem tw4259906596568436915 : True := trivial
theorem tw5586969316834563400 : True := trivial
theorem tw13615116418892121157 : True := trivial
theorem tw6123307430243150460 : True := trivial
theorem tw12061607511064365444 : True := trivial
theorem tw6739419022702785783 : True := trivial
theorem tw13448835236558655022 : True := trivial
theorem tw7501504366830027850 : True := trivial
theorem tw14338216451683940555 : True := trivial
theorem tw9899780241498429791 : True := trivial
theorem tw2290533228535605144 : True := trivial
theorem tw16503503464661925197 : True := trivial
theorem tw14848289550388895395 : True := trivial
theorem tw12955857797560016259 : True := trivial
theorem tw3256682677692497037 : True := trivial
theorem tw12551593693829120780 : True := trivial
theorem tw3399924104123207712 : True := trivial
theorem tw18279527477464876746 : True := trivial
theorem tw6223049757277534738 : True := trivial
theorem tw2766197143619997063 : True := trivial
theorem tw2043435771805823426 : True := trivial
theorem tw942687227129198963 : True := trivial
theorem tw13172499174981783385 : True := trivial
theorem tw6928570118846847946 : True := trivial
theorem tw3512908857016164330 : True := trivial
theorem tw14829567788870993616 : True := trivial
theorem tw13636329255906531112 : True := trivial
theorem tw14898613308206506571 : True := trivial
theorem tw13270677019319697743 : True := trivial
theorem tw15638709006048811854 : True := trivial
theorem tw7219021205366671102 : True := trivial
theorem tw9908859969777349197 : True := trivial
theorem tw6035797830540068322 : True := trivial
theorem tw16691463921116871788 : True := trivial
theorem tw4488879673746317810 : True := trivial
theorem tw3452060649735271640 : True := trivial
theorem tw1932215011233340327 : True := trivial
theorem tw3665865440060207133 : True := trivial
theorem tw10644229196645743845 : True := trivial
theorem tw5736604311259632217 : True := trivial
theorem tw18036486835596262300 : True := trivial
theorem tw3982845140716218073 : True := trivial
theorem tw18195642924423655858 : True := trivial
theorem tw12914394398060310716 : True := trivial
theorem tw327697717792102490 : True := trivial
theorem tw5193443837485166641 : True := trivial
theorem tw5655897876004441507 : True := trivial
theorem tw2036760317017875300 : True := trivial
theorem tw5706269751769094443 : True := trivial
theorem tw8405796528334187894 : True := trivial
theorem tw6510854979323041967 : True := trivial
theorem tw2429450935575926562 : True := trivial
theorem tw13348947738450723071 : True := trivial
theorem tw16552998541606408938 : True := trivial
theorem tw12291520650360071314 : True := trivial
theorem tw2891307615339344535 : True := trivial
theorem tw1949403439900761858 : True := trivial
theorem tw14401446677176162365 : True := trivial
theorem tw15418566998783239415 : True := trivial
theorem tw3110457697870311747 : True := trivial
theorem tw15377277084965735719 : True := trivial
theorem tw7094180632570598728 : True := trivial
theorem tw11595779413367498148 : True := trivial
theorem tw14839603722379436013 : True := trivial
theorem tw17295574672826787580 : True := trivial
theorem tw6779088379516332121 : True := trivial
theorem tw10867507916398870219 : True := trivial
theorem tw15931945281744954602 : True := trivial
theorem tw6235984247073784723 : True := trivial
theorem tw6645837921553424397 : True := trivial
theorem tw7804187590583734506 : True := trivial
theorem tw14315126901192170860 : True := trivial
theorem tw15653662870098221827 : True := trivial
theorem tw6787757233680512250 : True := trivial
theorem tw16813878707595495010 : True := trivial
theorem tw15483955697850924277 : True := trivial
theorem tw7506753261643692708 : True := trivial
theorem tw16062446112607414554 : True := trivial
theorem tw14390316136666555624 : True := trivial
theorem tw10661296350849306967 : True := trivial
theorem tw15508462537526827179 : True := trivial
theorem tw8181962405723057740 : True := trivial
theorem tw5135216316303761550 : True := trivial
theorem tw7818515646639999387 : True := trivial
theorem tw2780450511835544573 : True := trivial
theorem tw16760162565369206944 : True := trivial
theorem tw5830165732640833409 : True := trivial
theorem tw6328102681677407811 : True := trivial
theorem tw15966210954171182675 : True := trivial
theorem tw4773153186933881053 : True := trivial
theorem tw1511272129007732219 : True := trivial
theorem tw3380847363260257771 : True := trivial
theorem tw2547695252342730323 : True := trivial
theorem tw230497321225855163 : True := trivial
theorem tw15033868585506885951 : True := trivial
theorem tw6371648375298106355 : True := trivial
theorem tw298314702909895742 : True := trivial
theorem tw1041560595657400201 : True := trivial
theorem tw16871022457742011652 : True := trivial
theorem tw3879754823488974341 : True := trivial
theorem tw4694985345719298602 : True := trivial
theorem tw6244712100374934112 : True := trivial
theorem tw1110396627569967405 : True := trivial
theorem tw10243201631066730713 : True := trivial
theorem tw4063665257211172728 : True := trivial
theorem tw15059031100171269062 : True := trivial
theorem tw7016220920941857102 : True := trivial
theorem tw3865451120836028089 : True := trivial
theorem tw3780105688461711569 : True := trivial
theorem tw2031720910297199025 : True := trivial
theorem tw17909786748274775533 : True := trivial
theorem tw16774905609838663645 : True := trivial
theorem tw2492663547271077258 : True := trivial
theorem tw1379520986183322353 : True := trivial
theorem tw9734346355852593731 : True := trivial
theorem tw15856576679209988703 : True := trivial
theorem tw11277142135952876103 : True := trivial
theorem tw2499042796414454351 : True := trivial
theorem tw14489691031095138369 : True := trivial
theorem tw15511787758937589456 : True := trivial
theorem tw8168348564062738207 : True := trivial
theorem tw18417939806790686720 : True := trivial
theorem tw9399591913656899105 : True := trivial
theorem tw15820844718599306683 : True := trivial
theorem tw2252855957100486200 : True := trivial
theorem tw17370383366145696715 : True := trivial
theorem tw17851990005046838666 : True := trivial
theorem tw6770783486882688432 : True := trivial
theorem tw15314601695452530700 : True := trivial
theorem tw13876031312020595144 : True := trivial
theorem tw5757020735873351919 : True := trivial
theorem tw18379239573503291790 : True := trivial
theorem tw3289401367523146715 : True := trivial
theorem tw1567504104210606761 : True := trivial
theorem tw11572843219778025170 : True := trivial
theorem tw2559553224740476358 : True := trivial
theorem tw18275915573038771748 : True := trivial
theorem tw17113244370557541344 : True := trivial
theorem tw15193455688432788464 : True := trivial
theorem tw4323927672605962848 : True := trivial
theorem tw9226198808248760969 : True := trivial
theorem tw6059815754170504966 : True := trivial
theorem tw3318987245930083161 : True := trivial
theorem tw15867886132198379027 : True := trivial
theorem tw1797219291901631892 : True := trivial
theorem tw10412953062698933671 : True := trivial
theorem tw16122925293266085960 : True := trivial
theorem tw14114847954655114072 : True := trivial
theorem tw11359981065269832199 : True := trivial
theorem tw6395589507546135414 : True := trivial
theorem tw3398252656735972082 : True := trivial
theorem tw1451646106075736643 : True := trivial
theorem tw16137284498569081829 : True := trivial
theorem tw15917309899175353996 : True := trivial
theorem tw7980183518977060239 : True := trivial
theorem tw5707322315965593657 : True := trivial
theorem tw17749516521436612063 : True := trivial
theorem tw7267569796943428650 : True := trivial
theorem tw18398728747363815925 : True := trivial
theorem tw15061383148302479298 : True := trivial
theorem tw16274239876844000491 : True := trivial
theorem tw15581453225672786503 : True := trivial
theorem tw16088572139884621552 : True := trivial
theorem tw18034821858432942951 : True := trivial
theorem tw6855099483040488574 : True := trivial
theorem tw7825185239023300937 : True := trivial
theorem tw11425823866621764759 : True := trivial
theorem tw5687294257386742777 : True := trivial
theorem tw4447273424616860102 : True := trivial
theorem tw15349432841064090949 : True := trivial
theorem tw13566561661038756853 : True := trivial
theorem tw4009714016250526975 : True := trivial
theorem tw2890712116544389334 : True := trivial
theorem tw16544991980799693370 : True := trivial
theorem tw17119078149636031087 : True := trivial
theorem tw1626960865481120032 : True := trivial
theorem tw560518955981342939 : True := trivial
theorem tw4906546330289553932 : True := trivial
theorem tw7702239547977000624 : True := trivial
theorem tw2488441875760733505 : True := trivial
theorem tw17890037184881960605 : True := trivial
theorem tw10712149055816520649 : True := trivial
theorem tw4888610045366182224 : True := trivial
theorem tw7227967881475834451 : True := trivial
theorem tw629861555173501321 : True := trivial
theorem tw8379710644915672092 : True := trivial
theorem tw9472347439886497220 : True := trivial
theorem tw10101173448064832875 : True := trivial
theorem tw17485222754449869933 : True := trivial
theorem tw10619685092337772105 : True := trivial
theorem tw5798401954055985380 : True := trivial
theorem tw5413677138668205354 : True := trivial
theorem tw14480841307305107994 : True := trivial
theorem tw14000279923294264300 : True := trivial
theorem tw14470698348390402237 : True := trivial
theorem tw13904650013669457885 : True := trivial
theorem tw6470906469680408086 : True := trivial
theorem tw4545912180396503312 : True := trivial
theorem tw3089734230535952553 : True := trivial
theorem tw16460267921017883449 : True := trivial
theorem tw15550165077704257267 : True := trivial
theorem tw13751665756815842483 : True := trivial
theorem tw14806481427738363034 : True := trivial
theorem tw13318443008000701259 : True := trivial
theorem tw1908251268326433930 : True := trivial
theorem tw5880345151030539655 : True := trivial
theorem tw13186319511716297478 : True := trivial
theorem tw2283046648070323759 : True := trivial
theorem tw8944832419246517809 : True := trivial
theorem tw5123083363382721126 : True := trivial
theorem tw2432750294007917103 : True := trivial
theorem tw2413341419337958647 : True := trivial
theorem tw15533140104001769528 : True := trivial
theorem tw2669317266929357036 : True := trivial
theorem tw2021650422715607132 : True := trivial
theorem tw5684259065311335524 : True := trivial
theorem tw4689204348294602041 : True := trivial
theorem tw13662989770130533762 : True := trivial
theorem tw15718731761000236316 : True := trivial
theorem tw14329029592473466456 : True := trivial
theorem tw2866514486645033520 : True := trivial
theorem tw13404187553593682225 : True := trivial
theorem tw6843522637979086402 : True := trivial
theorem tw6627569694726252691 : True := trivial
theorem tw8462708528152966246 : True := trivial
theorem tw8017053450013310489 : True := trivial
theorem tw4009871058713057157 : True := trivial
theorem tw1379201359283122246 : True := trivial
theorem tw596181118156260276 : True := trivial
theorem tw7664546399825040489 : True := trivial
theorem tw15548129725033018719 : True := trivial
theorem tw7509533941833681890 : True := trivial
theorem tw13386760919029405098 : True := trivial
theorem tw901602348914497284 : True := trivial
theorem tw11005675652866600430 : True := trivial
theorem tw7859723680529450851 : True := trivial
theorem tw17358462936332093100 : True := trivial
theorem tw17949427146772040416 : True := trivial
theorem tw12730515255848586135 : True := trivial
theorem tw15178136379857216813 : True := trivial
theorem tw4325082228499030488 : True := trivial
theorem tw15225561952105933353 : True := trivial
theorem tw848455232053137946 : True := trivial
theorem tw7672889531811782596 : True := trivial
theorem tw15715780394414678921 : True := trivial
theorem tw7535674659341564741 : True := trivial
theorem tw5184475901720893069 : True := trivial
theorem tw8119216396437288359 : True := trivial
theorem tw7081450599845810340 : True := trivial
theorem tw5239723632015965251 : True := trivial
theorem tw17002967457496540162 : True := trivial
theorem tw16344748091917261489 : True := trivial
theorem tw12479832812348416078 : True := trivial
theorem tw9995252323223388778 : True := trivial
theorem tw14132964682168682513 : True := trivial
theorem tw2935524836076805224 : True := trivial
theorem tw13171417914778397541 : True := trivial
theorem tw9716444836772853160 : True := trivial
theorem tw17196496694879673613 : True := trivial
theorem tw17882605792542635885 : True := trivial
theorem tw15626726638392924209 : True := trivial
theorem tw2293907348492257486 : True := trivial
theorem tw5608490945484248291 : True := trivial
theorem tw16741585065677726992 : True := trivial
theorem tw4042262967091670412 : True := trivial
theorem tw5399461303685929856 : True := trivial
theorem tw8609787002708234608 : True := trivial
theorem tw16055008481046927845 : True := trivial
theorem tw1682319006626096843 : True := trivial
theorem tw15734904282334405443 : True := trivial
theorem tw1198713796053780908 : True := trivial
theorem tw16072898316525652555 : True := trivial
theorem tw4184250332274132295 : True := trivial
theorem tw18365391624277284361 : True := trivial
theorem tw2395521165685891785 : True := trivial
theorem tw5554266390883317257 : True := trivial
theorem tw4673714967557778226 : True := trivial
theorem tw18373837986867960477 : True := trivial
theorem tw12731364064579315287 : True := trivial
theorem tw10417057411970169272 : True := trivial
theorem tw1703243280621272593 : True := trivial
theorem tw16547620521518850087 : True := trivial
theorem tw1220938749755092506 : True := trivial
theorem tw15269594228002144759 : True := trivial
theorem tw11350704108175387951 : True := trivial
theorem tw3705099845196013523 : True := trivial
theorem tw11575076235263926572 : True := trivial
theorem tw14315184925536575471 : True := trivial
theorem tw6234577841116923249 : True := trivial
theorem tw12795493549951451735 : True := trivial
theorem tw15703577427135200883 : True := trivial
theorem tw10877700843032289068 : True := trivial
theorem tw2387021726575841596 : True := trivial
theorem tw4840988015611704473 : True := trivial
theorem tw9667036357817049613 : True := trivial
theorem tw18237755284205300654 : True := trivial
theorem tw11673562312236768787 : True := trivial
theorem tw15402493323786582311 : True := trivial
theorem tw14559863882199872923 : True := trivial
theorem tw14329718614705006956 : True := trivial
theorem tw18135622044529183310 : True := trivial
theorem tw14034658990676640076 : True := trivial
theorem tw9293910883358073108 : True := trivial
theorem tw10304162465263377659 : True := trivial
theorem tw7920480292267843204 : True := trivial
theorem tw13283257959056493715 : True := trivial
theorem tw10655561442956075648 : True := trivial
theorem tw215373674049332018 : True := trivial
theorem tw15708025225746160976 : True := trivial
theorem tw11122197960687963473 : True := trivial
theorem tw5516358330503988822 : True := trivial
theorem tw730912695133838935 : True := trivial
theorem tw8600718361138093941 : True := trivial
theorem tw12588670865628476041 : True := trivial
theorem tw6775573565930666405 : True := trivial
theorem tw6118154553402694455 : True := trivial
theorem tw14613988386322895873 : True := trivial
theorem tw12730813566589719863 : True := trivial
theorem tw10849193104669550611 : True := trivial
theorem tw811559266007721366 : True := trivial
theorem tw17937636908961928835 : True := trivial
theorem tw8134804366615743122 : True := trivial
theorem tw3907916405476415288 : True := trivial
theorem tw13608777458132924305 : True := trivial
theorem tw2596825814381063595 : True := trivial
theorem tw2935189124374871462 : True := trivial
theorem tw3736814153236388779 : True := trivial
theorem tw10648137341553494826 : True := trivial
theorem tw15676125485083531934 : True := trivial
theorem tw12574752416392149828 : True := trivial
theorem tw17405104789155090038 : True := trivial
theorem tw5939815292546396681 : True := trivial
theorem tw18325889964536678211 : True := trivial
theorem tw14308048536317518483 : True := trivial
theorem tw1208342998345744177 : True := trivial
theorem tw11879761445847783329 : True := trivial
theorem tw12880693276259898769 : True := trivial
theorem tw9964284824409467713 : True := trivial
theorem tw8158169506666532036 : True := trivial
theorem tw7959749097744043338 : True := trivial
theorem tw3808288846465662790 : True := trivial
theorem tw17381331367621106309 : True := trivial
theorem tw2565400965189674152 : True := trivial
theorem tw4848184985764951030 : True := trivial
theorem tw15216020027595434441 : True := trivial
theorem tw17103064130900659247 : True := trivial
theorem tw6950226826765398853 : True := trivial
theorem tw2238442940943197633 : True := trivial
theorem tw3879928863658262363 : True := trivial
theorem tw4742670547055265796 : True := trivial
theorem tw18173620982037760301 : True := trivial
theorem tw5895997114325097082 : True := trivial
theorem tw1046950024711081214 : True := trivial
theorem tw10612123661265939229 : True := trivial
theorem tw2545717657913664269 : True := trivial
theorem tw2150018150828906314 : True := trivial
theorem tw6400039616154587108 : True := trivial
theorem tw9493102435343056692 : True := trivial
theorem tw1713307039719457288 : True := trivial
theorem tw1185487564980827992 : True := trivial
theorem tw14010102242727844965 : True := trivial
theorem tw9944872924643339048 : True := trivial
theorem tw2278349839430572325 : True := trivial
theorem tw13063946436383854281 : True := trivial
theorem tw3388045644228539562 : True := trivial
theorem tw1623056334347198619 : True := trivial
theorem tw4888577828000688195 : True := trivial
theorem tw4085044273524466946 : True := trivial
theorem tw12903862893313258315 : True := trivial
theorem tw9867484792845665108 : True := trivial
theorem tw13369172126037621877 : True := trivial
theorem tw8108874707193935937 : True := trivial
theorem tw15324471609110136455 : True := trivial
theorem tw6243746569870989983 : True := trivial
theorem tw10802317772225332836 : True := trivial
theorem tw16977163004715503848 : True := trivial
theorem tw1229423793340759314 : True := trivial
theorem tw7789977829618484179 : True := trivial
theorem tw1762450027870946247 : True := trivial
theorem tw14650527284798867833 : True := trivial
theorem tw8416921092905491451 : True := trivial
theorem tw14594505988238677580 : True := trivial
theorem tw8735436206667459424 : True := trivial
theorem tw15584102407375486795 : True := trivial
theorem tw5773112587271136389 : True := trivial
theorem tw6952708403286778678 : True := trivial
theorem tw12711580722708268076 : True := trivial
theorem tw413966457828037527 : True := trivial
theorem tw9803224689852160378 : True := trivial
theorem tw14981223898900479854 : True := trivial
theorem tw8331239393378720319 : True := trivial
theorem tw6000377401245847867 : True := trivial
theorem tw276319738849613575 : True := trivial
theorem tw10144881419812332282 : True := trivial
theorem tw9664381818996673213 : True := trivial
theorem tw12430121961939593827 : True := trivial
theorem tw1772581719249678980 : True := trivial
theorem tw18367242588694397774 : True := trivial
theorem tw14620559323894896227 : True := trivial
theorem tw16388505208279401864 : True := trivial
theorem tw16779187624841423345 : True := trivial
theorem tw1604171973840302105 : True := trivial
theorem tw6005761043195294045 : True := trivial
theorem tw5520994162678111750 : True := trivial
theorem tw12966469977788722884 : True := trivial
theorem tw9363590299824017705 : True := trivial
theorem tw6756035650761338853 : True := trivial
theorem tw15130558300476229783 : True := trivial
theorem tw619329817678878427 : True := trivial
theorem tw2297574774528516531 : True := trivial
theorem tw7226120220383893609 : True := trivial
theorem tw720022988981001889 : True := trivial
theorem tw13365527977919201957 : True := trivial
theorem tw18106260223731853119 : True := trivial
theorem tw6018692917533288831 : True := trivial
theorem tw7911056596817964700 : True := trivial
theorem tw12828258455251477274 : True := trivial
theorem tw12726784265689173920 : True := trivial
theorem tw15035900656459493121 : True := trivial
theorem tw13933926187362254268 : True := trivial
theorem tw14154017374075783659 : True := trivial
theorem tw3369533856639808417 : True := trivial
theorem tw14937153356647939627 : True := trivial
theorem tw5617542513239876829 : True := trivial
theorem tw14434869389512328797 : True := trivial
theorem tw3645268790564134109 : True := trivial
theorem tw926793300712892880 : True := trivial
theorem tw8279478550519849281 : True := trivial
theorem tw10725850775430356716 : True := trivial
theorem tw17455227442637568606 : True := trivial
theorem tw16225805202245953452 : True := trivial
theorem tw3694496698970659334 : True := trivial
theorem tw2310241851938205718 : True := trivial
theorem tw18232982148797033034 : True := trivial
theorem tw13188500679573161231 : True := trivial
theorem tw12051149902877438074 : True := trivial
theorem tw3321930951996049911 : True := trivial
theorem tw10520349831235427958 : True := trivial
theorem tw17275202556857789938 : True := trivial
theorem tw2154969082971313499 : True := trivial
theorem tw16353401964219096853 : True := trivial
theorem tw6339142964604459966 : True := trivial
theorem tw3978150476293497818 : True := trivial
theorem tw15098178159616907764 : True := trivial
theorem tw5141463975468619645 : True := trivial
theorem tw15296682696033420964 : True := trivial
theorem tw8404692780303587109 : True := trivial
theorem tw17990636620311744928 : True := trivial
theorem tw1955108181365543696 : True := trivial
theorem tw3376689079828094466 : True := trivial
theorem tw3475188784432018234 : True := trivial
theorem tw4026376654752529575 : True := trivial
theorem tw14554180987331202648 : True := trivial
theorem tw2561324777919927149 : True := trivial
theorem tw8744714765294971609 : True := trivial
theorem tw7197979409111281057 : True := trivial
theorem tw14963920976707497882 : True := trivial
theorem tw1784979871646263099 : True := trivial
theorem tw4974266032374288392 : True := trivial
theorem tw8202081764366457503 : True := trivial
theorem tw728923687175261146 : True := trivial
theorem tw6746031523127835545 : True := trivial
theorem tw10860644274827174316 : True := trivial
theorem tw11331010818101643047 : True := trivial
theorem tw4194913584070794792 : True := trivial
theorem tw8863373249525653623 : True := trivial
theorem tw16014439529613150854 : True := trivial
theorem tw15283458195206472147 : True := trivial
theorem tw10243614670628142811 : True := trivial
theorem tw8836942638109798089 : True := trivial
theorem tw2643506681452267297 : True := trivial
theorem tw2067730579508041789 : True := trivial
theorem tw6004671180576416453 : True := trivial
theorem tw3308254136795990158 : True := trivial
theorem tw15977233070001739373 : True := trivial
theorem tw11767788738089865460 : True := trivial
theorem tw2097090940602131749 : True := trivial
theorem tw8205369342568399806 : True := trivial
theorem tw9985201301183502552 : True := trivial
theorem tw15868391312456441653 : True := trivial
theorem tw12229907055132072856 : True := trivial
theorem tw9387939054760296635 : True := trivial
theorem tw7797091684920289166 : True := trivial
theorem tw7818585879832004743 : True := trivial
theorem tw9009894619776464031 : True := trivial
theorem tw16138312098395985658 : True := trivial
theorem tw9683399693663893186 : True := trivial
theorem tw9406110993932831073 : True := trivial
theorem tw18357905211772577153 : True := trivial
theorem tw9374030439217154666 : True := trivial
theorem tw3412617897585357587 : True := trivial
theorem tw5221002447914659277 : True := trivial
theorem tw10834794979022634033 : True := trivial
theorem tw17819791084405032011 : True := trivial
theorem tw17704319302371575531 : True := trivial
theorem tw5460782578636619875 : True := trivial
theorem tw17524049498378055519 : True := trivial
theorem tw11694567875751642494 : True := trivial
theorem tw777548122654441153 : True := trivial
theorem tw14521269345442937609 : True := trivial
theorem tw4871001999432766152 : True := trivial
theorem tw6565732600528226107 : True := trivial
theorem tw12852631869913444552 : True := trivial
theorem tw7455575629121719818 : True := trivial
theorem tw6726593206719526491 : True := trivial
theorem tw1230985541057160458 : True := trivial
theorem tw16479829407720472476 : True := trivial
theorem tw249538611219155760 : True := trivial
theorem tw4169939529253568303 : True := trivial
theorem tw13762165142783780367 : True := trivial
theorem tw17168331308430738689 : True := trivial
theorem tw10115191160380055861 : True := trivial
theorem tw1413339779454000400 : True := trivial
theorem tw9126810441047120432 : True := trivial
theorem tw18053900964800965158 : True := trivial
theorem tw16479840307211445568 : True := trivial
theorem tw3601247343892297232 : True := trivial
theorem tw3210789620829561903 : True := trivial
theorem tw2627384683162069009 : True := trivial
theorem tw7759252723004589272 : True := trivial
theorem tw9012110924034585998 : True := trivial
theorem tw17907821053634798954 : True := trivial
theorem tw12167501825851378613 : True := trivial
theorem tw15307197304012132924 : True := trivial
theorem tw7196139993498092654 : True := trivial
theorem tw11244134825381502020 : True := trivial
theorem tw14283716272260635311 : True := trivial
theorem tw12548446588296824944 : True := trivial
theorem tw269980170549487389 : True := trivial
theorem tw9882634772536742204 : True := trivial
theorem tw1604011584525966458 : True := trivial
theorem tw12717218491044036818 : True := trivial
theorem tw12428488843275989669 : True := trivial
theorem tw4389289267291728928 : True := trivial
theorem tw6846900000878956271 : True := trivial
theorem tw18119781770278869963 : True := trivial
theorem tw18426172918860946560 : True := trivial
theorem tw15836124011707914507 : True := trivial
theorem tw1017006098174114798 : True := trivial
theorem tw6841464894156923959 : True := trivial
theorem tw4530518876402855673 : True := trivial
theorem tw14810864853745292560 : True := trivial
theorem tw1726608568240633393 : True := trivial
theorem tw14804845676852152342 : True := trivial
theorem tw13423041517085019411 : True := trivial
theorem tw13099151005301168801 : True := trivial
theorem tw16447110832584564958 : True := trivial
theorem tw18389028720957294606 : True := trivial
theorem tw13431833740771727393 : True := trivial
theorem tw5503593539592482047 : True := trivial
theorem tw12103116785691813961 : True := trivial
theorem tw7472061855555585346 : True := trivial
theorem tw15302949293053911210 : True := trivial
theorem tw8078414642270228677 : True := trivial
theorem tw6851682723283714407 : True := trivial
theorem tw15648759712466019085 : True := trivial
theorem tw128883553867034699 : True := trivial
theorem tw14006032043454878311 : True := trivial
theorem tw6357427776911863957 : True := trivial
theorem tw16676517575239160716 : True := trivial
theorem tw15034656593518401593 : True := trivial
theorem tw3555113615293364258 : True := trivial
theorem tw9582562413390397971 : True := trivial
theorem tw15757510087143436757 : True := trivial
theorem tw4502137660001011851 : True := trivial
theorem tw4313960542183546444 : True := trivial
theorem tw2232083570263572744 : True := trivial
theorem tw14927051547117286488 : True := trivial
theorem tw13333172651217749887 : True := trivial
theorem tw2088854503381561915 : True := trivial
theorem tw3120724696227655090 : True := trivial
theorem tw13923551500050128028 : True := trivial
theorem tw14961030547354219721 : True := trivial
theorem tw8937277145697458526 : True := trivial
theorem tw17402949795163370162 : True := trivial
theorem tw311197113784574507 : True := trivial
theorem tw16966318768319030735 : True := trivial
theorem tw15756442827588743451 : True := trivial
theorem tw5917869365824512681 : True := trivial
theorem tw6776268503973037212 : True := trivial
theorem tw11939218812255965344 : True := trivial
theorem tw2327707811350568245 : True := trivial
theorem tw9114235653964792606 : True := trivial
theorem tw14891367116355740708 : True := trivial
theorem tw14612910706498069676 : True := trivial
theorem tw15354219470268341124 : True := trivial
theorem tw16223394032904068298 : True := trivial
theorem tw2519899508898249325 : True := trivial
theorem tw10318498259570736985 : True := trivial
theorem tw7209362688537827704 : True := trivial
theorem tw11493792934259224256 : True := trivial
theorem tw15812420673342305755 : True := trivial
theorem tw10894116901540083426 : True := trivial
theorem tw10370860892779131326 : True := trivial
theorem tw3775701778550748274 : True := trivial
theorem tw8362353553037765721 : True := trivial
theorem tw2374747110568782221 : True := trivial
theorem tw18227088918189335668 : True := trivial
theorem tw5061595738960557719 : True := trivial
theorem tw11467673218299857430 : True := trivial
theorem tw13296515484990904841 : True := trivial
theorem tw2774473745882968846 : True := trivial
theorem tw14652438360032441099 : True := trivial
theorem tw18201894410072151387 : True := trivial
theorem tw8056436978464262507 : True := trivial
theorem tw7120573185637489196 : True := trivial
theorem tw10010125831829900765 : True := trivial
theorem tw2780498997691905790 : True := trivial
theorem tw18259355321931735420 : True := trivial
theorem tw17390474622225460061 : True := trivial
theorem tw13896714975626351010 : True := trivial
theorem tw1733168540712777951 : True := trivial
theorem tw9520552889236172684 : True := trivial
theorem tw2936774544440945814 : True := trivial
theorem tw7926831895359879518 : True := trivial
theorem tw8818361610127758502 : True := trivial
theorem tw13646035175667177116 : True := trivial
theorem tw16911229222889987085 : True := trivial
theorem tw919329840268850743 : True := trivial
theorem tw8269318759944913977 : True := trivial
theorem tw1176384359521384115 : True := trivial
theorem tw12634679931334073182 : True := trivial
theorem tw11555354827492805187 : True := trivial
theorem tw1395332016561741534 : True := trivial
theorem tw4918459451384918850 : True := trivial
theorem tw535330655001022472 : True := trivial
theorem tw12158674805969135023 : True := trivial
theorem tw110076317791417540 : True := trivial
theorem tw5221809205898896467 : True := trivial
theorem tw758197625073455144 : True := trivial
theorem tw9466064729700511647 : True := trivial
theorem tw18277869247640017182 : True := trivial
theorem tw10148438523836019029 : True := trivial
theorem tw7907646205831533228 : True := trivial
theorem tw9315990067427697168 : True := trivial
theorem tw15845749951807066669 : True := trivial
theorem tw13184186715869144190 : True := trivial
theorem tw8965926035031231943 : True := trivial
theorem tw3928499067642199436 : True := trivial
theorem tw12222883019995643839 : True := trivial
theorem tw631738128341461823 : True := trivial
theorem tw15104196355559082872 : True := trivial
theorem tw1183106649825916436 : True := trivial
theorem tw9011360287435112721 : True := trivial
theorem tw14229102876579453995 : True := trivial
theorem tw1930841762058620565 : True := trivial
theorem tw7188083662693164020 : True := trivial
theorem tw2435848337075437584 : True := trivial
theorem tw17949873133818396984 : True := trivial
theorem tw6083746726499918968 : True := trivial
theorem tw17052620322271545293 : True := trivial
theorem tw3011276041524700128 : True := trivial
theorem tw11590111652375335414 : True := trivial
theorem tw3804029065602454959 : True := trivial
theorem tw9483171427413843262 : True := trivial
theorem tw12207927888177183418 : True := trivial
theorem tw8246300347962423424 : True := trivial
theorem tw14144908427629362601 : True := trivial
theorem tw13605496902324872657 : True := trivial
theorem tw14506632598210304787 : True := trivial
theorem tw12196869047035663823 : True := trivial
theorem tw7549412761364739964 : True := trivial
theorem tw8228783972307410344 : True := trivial
theorem tw13003673410462802297 : True := trivial
theorem tw15880455938254924605 : True := trivial
theorem tw477292513738236674 : True := trivial
theorem tw5839907831065013915 : True := trivial
theorem tw8071809394220732682 : True := trivial
theorem tw14246115718083814760 : True := trivial
theorem tw8497802501403266589 : True := trivial
theorem tw14935195566608426388 : True := trivial
theorem tw16303614036562579742 : True := trivial
theorem tw6083983440463886945 : True := trivial
theorem tw18240765145352003093 : True := trivial
theorem tw4719056444240233994 : True := trivial
theorem tw10590334682366709127 : True := trivial
theorem tw7089699685451263805 : True := trivial
theorem tw12763939397271029584 : True := trivial
theorem tw4544055584513274043 : True := trivial
theorem tw336057127359376749 : True := trivial
theorem tw11919854092074438376 : True := trivial
theorem tw13947174243078747154 : True := trivial
theorem tw15615272222427429716 : True := trivial
theorem tw10512402421072110235 : True := trivial
theorem tw5152131426393930320 : True := trivial
theorem tw17659368736245369145 : True := trivial
theorem tw4470040509928785376 : True := trivial
theorem tw7041035352337252397 : True := trivial
theorem tw4513636914251384346 : True := trivial
theorem tw12092970290528731336 : True := trivial
theorem tw14116981679195033353 : True := trivial
theorem tw6626769370782794063 : True := trivial
theorem tw6193019274439472069 : True := trivial
theorem tw1326714295617579281 : True := trivial
theorem tw2318642930844801599 : True := trivial
theorem tw16618288412378998069 : True := trivial
theorem tw3837252239645378038 : True := trivial
theorem tw11788275294382500308 : True := trivial
theorem tw17582768902335739391 : True := trivial
theorem tw9731838981309891337 : True := trivial
theorem tw4015315322624351141 : True := trivial
theorem tw6951450464773885526 : True := trivial
theorem tw177459964047272053 : True := trivial
theorem tw546119530754830573 : True := trivial
theorem tw4833658620966858650 : True := trivial
theorem tw16119030363043461535 : True := trivial
theorem tw13135956022940782883 : True := trivial
theorem tw13777135185037691492 : True := trivial
theorem tw10878717912990463246 : True := trivial
theorem tw13420008179362222138 : True := trivial
theorem tw17155330641326229116 : True := trivial
theorem tw2698697773296385717 : True := trivial
theorem tw11622783311029348980 : True := trivial
theorem tw14656722565330257722 : True := trivial
theorem tw2710089630702376584 : True := trivial
theorem tw7326386679732156729 : True := trivial
theorem tw10837006068810926590 : True := trivial
theorem tw8199525517437500877 : True := trivial
theorem tw1226625762111750002 : True := trivial
theorem tw18130940223164668698 : True := trivial
theorem tw9698385830636210880 : True := trivial
theorem tw18054506733523261140 : True := trivial
theorem tw4341269637632606649 : True := trivial
theorem tw5297623885985801002 : True := trivial
theorem tw1616753191633994853 : True := trivial
theorem tw74409768562497602 : True := trivial
theorem tw17141364547756796786 : True := trivial
theorem tw10720499073721566827 : True := trivial
theorem tw3973571967243321053 : True := trivial
theorem tw3653633549093871323 : True := trivial
theorem tw3748379721846778490 : True := trivial
theorem tw2284591330809062869 : True := trivial
theorem tw5201332165200644372 : True := trivial
theorem tw12713795750518060671 : True := trivial
theorem tw15487350769882138839 : True := trivial
theorem tw10567093568598719444 : True := trivial
theorem tw11849638296773052591 : True := trivial
theorem tw7933663769032863043 : True := trivial
theorem tw1085698120840579925 : True := trivial
theorem tw16415100095752296149 : True := trivial
theorem tw16225390635366932557 : True := trivial
theorem tw10805503036034713571 : True := trivial
theorem tw14463340189634742841 : True := trivial
theorem tw7473811710026450039 : True := trivial
theorem tw1241176423885648633 : True := trivial
theorem tw4572558333821687154 : True := trivial
theorem tw72509920844821123 : True := trivial
theorem tw4566844908279508657 : True := trivial
theorem tw2936419450572214200 : True := trivial
theorem tw11649388431752290802 : True := trivial
theorem tw10253320649859325230 : True := trivial
theorem tw17299794039840204523 : True := trivial
theorem tw8277073831703182618 : True := trivial
theorem tw2649867406914268216 : True := trivial
theorem tw11898067137537337885 : True := trivial
theorem tw394252749957492063 : True := trivial
theorem tw18366367199687251454 : True := trivial
theorem tw17935637552004830501 : True := trivial
theorem tw18128124603481236814 : True := trivial
theorem tw8647883427793806298 : True := trivial
theorem tw13433183486833018821 : True := trivial
theorem tw11129851173079358479 : True := trivial
theorem tw10974325626127909314 : True := trivial
theorem tw18292737737410513710 : True := trivial
theorem tw13971751840772573466 : True := trivial
theorem tw17643593370812042393 : True := trivial
theorem tw6190570958863584381 : True := trivial
theorem tw6008697689531163052 : True := trivial
theorem tw5377024594571357810 : True := trivial
theorem tw4550831970445310488 : True := trivial
theorem tw14064105417319072212 : True := trivial
theorem tw939061729554352965 : True := trivial
theorem tw13973991931622498044 : True := trivial
theorem tw3542274119909590900 : True := trivial
theorem tw3094620076460047431 : True := trivial
theorem tw15833754371390819958 : True := trivial
theorem tw6359996698918790997 : True := trivial
theorem tw13031536274526544841 : True := trivial
theorem tw13433207094717993618 : True := trivial
theorem tw5356628008923687137 : True := trivial
theorem tw11408498386024016847 : True := trivial
theorem tw1197190199808185004 : True := trivial
theorem tw757959885570514717 : True := trivial
theorem tw14837754602425804698 : True := trivial
theorem tw3216609281746515088 : True := trivial
theorem tw7897372088474000758 : True := trivial
theorem tw4366895537641851208 : True := trivial
theorem tw1966071384858404663 : True := trivial
theorem tw16810487979466975455 : True := trivial
theorem tw1741862439557442340 : True := trivial
theorem tw17802887125417015739 : True := trivial
theorem tw2095887735329176198 : True := trivial
theorem tw10702992725816042739 : True := trivial
theorem tw13770343131634574865 : True := trivial
theorem tw15062906359067040848 : True := trivial
theorem tw13185342664019062742 : True := trivial
theorem tw13630502318077638061 : True := trivial
theorem tw12960390547198301616 : True := trivial
theorem tw17629423620848543461 : True := trivial
theorem tw16794194680878158908 : True := trivial
theorem tw15866970271996977797 : True := trivial
theorem tw15528507100349883658 : True := trivial
theorem tw13216112338864578695 : True := trivial
theorem tw14602432442831947408 : True := trivial
theorem tw14542830770928831061 : True := trivial
theorem tw4177724790740279682 : True := trivial
theorem tw172995247479395139 : True := trivial
theorem tw3015139921146471339 : True := trivial
theorem tw13209207306409061453 : True := trivial
theorem tw5950753829509369234 : True := trivial
theorem tw7452079054621428770 : True := trivial
theorem tw10764250739225707508 : True := trivial
theorem tw12987741482948692041 : True := trivial
theorem tw6528882740616551945 : True := trivial
theorem tw8962407687624693574 : True := trivial
theorem tw2255816485158701115 : True := trivial
theorem tw7818050353612916659 : True := trivial
theorem tw12244616272784942786 : True := trivial
theorem tw12297605031047249489 : True := trivial
theorem tw13932476812088235340 : True := trivial
theorem tw15010324062404953699 : True := trivial
theorem tw8572552496957584770 : True := trivial
theorem tw7661470175439114233 : True := trivial
theorem tw17857136837263190602 : True := trivial
theorem tw12123426839728208115 : True := trivial
theorem tw13738199216993251665 : True := trivial
theorem tw5006402930987717913 : True := trivial
theorem tw7707291835142749058 : True := trivial
theorem tw12252405733495482112 : True := trivial
theorem tw4481618116431210511 : True := trivial
theorem tw12123897085660981022 : True := trivial
theorem tw14667748509927650333 : True := trivial
theorem tw10233159267563153759 : True := trivial
theorem tw10075880033134998979 : True := trivial
theorem tw12590555007199624786 : True := trivial
theorem tw10216217518549826147 : True := trivial
theorem tw10660329067161045220 : True := trivial
theorem tw1095665986899351317 : True := trivial
theorem tw13158005489757208118 : True := trivial
theorem tw15232819599150633014 : True := trivial
theorem tw2224181045406602647 : True := trivial
theorem tw16146891271849269372 : True := trivial
theorem tw17602938645678281790 : True := trivial
theorem tw3550223631105791857 : True := trivial
theorem tw12206381820810025922 : True := trivial
theorem tw15336431151001660765 : True := trivial
theorem tw6516433091674515076 : True := trivial
theorem tw17779763766692041243 : True := trivial
theorem tw3892407366391665312 : True := trivial
theorem tw1317678986604893016 : True := trivial
theorem tw13060058490257708841 : True := trivial
theorem tw12505510223720415307 : True := trivial
theorem tw12840407730347478448 : True := trivial
theorem tw16658582636365864560 : True := trivial
theorem tw8515003159918092114 : True := trivial
theorem tw11484690490509089625 : True := trivial
theorem tw3582587361047683767 : True := trivial
theorem tw3887355616424657432 : True := trivial
theorem tw15815892785922781073 : True := trivial
theorem tw10141337271417542371 : True := trivial
theorem tw12496368603007336773 : True := trivial
theorem tw2882554884410670353 : True := trivial
theorem tw6914237919849780370 : True := trivial
theorem tw18404654490716112676 : True := trivial
theorem tw8257449352726039282 : True := trivial
theorem tw6738651998000973825 : True := trivial
theorem tw10901164407785126647 : True := trivial
theorem tw6363386631959878330 : True := trivial
theorem tw905506537450302333 : True := trivial
theorem tw2537207348479674915 : True := trivial
theorem tw2920451874098649822 : True := trivial
theorem tw2655112827892000569 : True := trivial
theorem tw2051575988088699144 : True := trivial
theorem tw10317361551880247644 : True := trivial
theorem tw11258023683714569358 : True := trivial
theorem tw1867676055790292302 : True := trivial
theorem tw10020961514298528781 : True := trivial
theorem tw16070921226785085351 : True := trivial
theorem tw232037544049612530 : True := trivial
theorem tw3429790969573651551 : True := trivial
theorem tw15454189050941894538 : True := trivial
theorem tw8588499856028227274 : True := trivial
theorem tw3374599837190672241 : True := trivial
theorem tw3259392775652580409 : True := trivial
theorem tw9054201446331791640 : True := trivial
theorem tw778446981714233149 : True := trivial
theorem tw11701707659065367461 : True := trivial
theorem tw13853806586368276089 : True := trivial
theorem tw9857417271424103475 : True := trivial
theorem tw14595038483713178150 : True := trivial
theorem tw14111180731807532601 : True := trivial
theorem tw5973948485045642835 : True := trivial
theorem tw7498910707516548741 : True := trivial
theorem tw12145563685148243567 : True := trivial
theorem tw11076211776621472011 : True := trivial
theorem tw10860060785177884562 : True := trivial
theorem tw185599490921097448 : True := trivial
theorem tw12914231512553775483 : True := trivial
theorem tw2390328194399582452 : True := trivial
theorem tw15691559976940421349 : True := trivial
theorem tw8016015483686416797 : True := trivial
theorem tw4079272600248844809 : True := trivial
theorem tw11247569382344469668 : True := trivial
theorem tw806548534228243147 : True := trivial
theorem tw13840581970196504979 : True := trivial
theorem tw16196711838266274283 : True := trivial
theorem tw2575274344431772248 : True := trivial
theorem tw5997333563519282000 : True := trivial
theorem tw14953777959666027522 : True := trivial
theorem tw5430408493349173597 : True := trivial
theorem tw4123699138509543947 : True := trivial
theorem tw2843759358191930055 : True := trivial
theorem tw1359818727478698441 : True := trivial
theorem tw12736094053179810241 : True := trivial
theorem tw900941638525093038 : True := trivial
theorem tw7839207867133982339 : True := trivial
theorem tw12821418375407245592 : True := trivial
theorem tw12893384040324276378 : True := trivial
theorem tw1163681416394829015 : True := trivial
theorem tw13420750690056496936 : True := trivial
theorem tw14281873839320809697 : True := trivial
theorem tw7156035820575911968 : True := trivial
theorem tw1823495970271858926 : True := trivial
theorem tw2942669496028378963 : True := trivial
theorem tw2090171130803136255 : True := trivial
theorem tw10627742284633070154 : True := trivial
theorem tw7232208007872471211 : True := trivial
theorem tw15784279887895124372 : True := trivial
theorem tw10073208730297078621 : True := trivial
theorem tw10218733333076714812 : True := trivial
theorem tw975649765055781030 : True := trivial
theorem tw14315938878534264853 : True := trivial
theorem tw16999771829205291706 : True := trivial
theorem tw5693202542018770178 : True := trivial
theorem tw11118021869949352984 : True := trivial
theorem tw12347690244891145525 : True := trivial
theorem tw3796514243906490904 : True := trivial
theorem tw2132667742506220848 : True := trivial
theorem tw17204217704427511463 : True := trivial
theorem tw823613203606499274 : True := trivial
theorem tw18197682040975208785 : True := trivial
theorem tw17122858181455552793 : True := trivial
theorem tw14606015615552322948 : True := trivial
theorem tw10574016914580424286 : True := trivial
theorem tw3941045003581227267 : True := trivial
theorem tw2207504822816478606 : True := trivial
theorem tw11980765391729557912 : True := trivial
theorem tw13480804165139977763 : True := trivial
theorem tw3966791397461852874 : True := trivial
theorem tw18113223521974954173 : True := trivial
theorem tw8648835490176288801 : True := trivial
theorem tw15659050454318736212 : True := trivial
theorem tw1929134177312449649 : True := trivial
theorem tw1455325515954674483 : True := trivial
theorem tw15385883965212124143 : True := trivial
theorem tw5016381205022216869 : True := trivial
theorem tw8705761363009185756 : True := trivial
theorem tw12066157615670327453 : True := trivial
theorem tw11139518967478723842 : True := trivial
theorem tw10979393086240496893 : True := trivial
theorem tw4505764836998083675 : True := trivial
theorem tw13810410832187884248 : True := trivial
theorem tw15954958115427420630 : True := trivial
theorem tw14268568608842073719 : True := trivial
theorem tw8705763312651659380 : True := trivial
theorem tw3450174189722887055 : True := trivial
theorem tw15881035544916255792 : True := trivial
theorem tw15457106245015966132 : True := trivial
theorem tw4429713078200597594 : True := trivial
theorem tw5062670926316514764 : True := trivial
theorem tw12915343091509072647 : True := trivial
theorem tw6326375901061902230 : True := trivial
theorem tw16490409927431027544 : True := trivial
theorem tw4559735490990890363 : True := trivial
theorem tw7145367587349940018 : True := trivial
theorem tw9512918929390934779 : True := trivial
theorem tw9321972313458921448 : True := trivial
theorem tw15549850418903373605 : True := trivial
theorem tw1952889821558036968 : True := trivial
theorem tw3230701518260064927 : True := trivial
theorem tw4382619480512937332 : True := trivial
theorem tw6115810533529619399 : True := trivial
theorem tw17656035637780542328 : True := trivial
theorem tw15321875070635321898 : True := trivial
theorem tw15734398372874407710 : True := trivial
theorem tw2945100345661815609 : True := trivial
theorem tw9489604772539359524 : True := trivial
theorem tw8463665145574692459 : True := trivial
theorem tw11138980360366918895 : True := trivial
theorem tw15863043071665032283 : True := trivial
theorem tw5184474702264553273 : True := trivial
theorem tw4304531872889268924 : True := trivial
theorem tw16944175498260975417 : True := trivial
theorem tw16791799405229170122 : True := trivial
theorem tw9784894026334293757 : True := trivial
theorem tw9368892610871082648 : True := trivial
theorem tw13270750092950326031 : True := trivial
theorem tw8077892070852871227 : True := trivial
theorem tw8316508072994017791 : True := trivial
theorem tw7651123342023167654 : True := trivial
theorem tw14159874158845890856 : True := trivial
theorem tw16530014135762705397 : True := trivial
theorem tw9931609749782008581 : True := trivial
theorem tw7663777236409754791 : True := trivial
theorem tw17956881395167222324 : True := trivial
theorem tw2701420845359113494 : True := trivial
theorem tw8294411278068208710 : True := trivial
theorem tw8623775264057897768 : True := trivial
theorem tw10040808683623510949 : True := trivial
theorem tw17886612540751583957 : True := trivial
theorem tw10066973918853455557 : True := trivial
theorem tw1015035629695654742 : True := trivial
theorem tw14299647440696843661 : True := trivial
theorem tw11279345300548706977 : True := trivial
theorem tw15558246384829442546 : True := trivial
theorem tw4554114405376550848 : True := trivial
theorem tw17256115650001026534 : True := trivial
theorem tw11544297758107595627 : True := trivial
theorem tw9846104578496825672 : True := trivial
theorem tw113882283507291869 : True := trivial
theorem tw15510082050420898352 : True := trivial
theorem tw16508171153817645714 : True := trivial
theorem tw1862310488377307749 : True := trivial
theorem tw5386966374626922101 : True := trivial
theorem tw434870978732037016 : True := trivial
theorem tw14411166727562098515 : True := trivial
theorem tw9910005393495947238 : True := trivial
theorem tw7702260977086228320 : True := trivial
theorem tw1531198704037884020 : True := trivial
theorem tw13167276076200750893 : True := trivial
theorem tw2320014725501590509 : True := trivial
theorem tw3372080852778899376 : True := trivial
theorem tw9235150807056533910 : True := trivial
theorem tw5240531452728401375 : True := trivial
theorem tw407732825982207391 : True := trivial
theorem tw16297497829830073717 : True := trivial
theorem tw3800489577371556770 : True := trivial
theorem tw14030949745395304379 : True := trivial
theorem tw10377724601072713153 : True := trivial
theorem tw16544707421921860779 : True := trivial
theorem tw4839948478700321138 : True := trivial
theorem tw3712507305605842007 : True := trivial
theorem tw15529458614526291904 : True := trivial
theorem tw6226472528868904046 : True := trivial
theorem tw16246783343703563479 : True := trivial
theorem tw918313602611563900 : True := trivial
theorem tw9628637643869216746 : True := trivial
theorem tw12999090717731355562 : True := trivial
theorem tw7575715070966387454 : True := trivial
theorem tw6323470345930332565 : True := trivial
theorem tw2197921968824987629 : True := trivial
theorem tw10750000182797623458 : True := trivial
theorem tw5009081736331404010 : True := trivial
theorem tw11608079162059826851 : True := trivial
theorem tw8631109930575146315 : True := trivial
theorem tw14159529572906811049 : True := trivial
theorem tw9796210868672388999 : True := trivial
theorem tw15891755825963077715 : True := trivial
theorem tw6566173439472157519 : True := trivial
theorem tw11876727149261115023 : True := trivial
theorem tw17718457350646462019 : True := trivial
theorem tw2512770769873508530 : True := trivial
theorem tw13622851568134736428 : True := trivial
theorem tw18059506581011367157 : True := trivial
theorem tw2313035070800529142 : True := trivial
theorem tw8383785058625252397 : True := trivial
theorem tw8961881604979020551 : True := trivial
theorem tw545967513506379374 : True := trivial
theorem tw4981725352246872746 : True := trivial
theorem tw3173024677863040265 : True := trivial
theorem tw15696577426578851521 : True := trivial
theorem tw5482485842229428217 : True := trivial
theorem tw10227741612161091031 : True := trivial
theorem tw18159447623997797330 : True := trivial
theorem tw15074346463269813881 : True := trivial
theorem tw12867357130710947207 : True := trivial
theorem tw13195257728089601491 : True := trivial
theorem tw195944221234096155 : True := trivial
theorem tw17126724420775321743 : True := trivial
theorem tw15220928641954587830 : True := trivial
theorem tw16796141209149537853 : True := trivial
theorem tw9437656870408982575 : True := trivial
theorem tw10710495666003201659 : True := trivial
theorem tw98360770114148382 : True := trivial
theorem tw1327747919493311615 : True := trivial
theorem tw18145253491155003209 : True := trivial
theorem tw437782179998362084 : True := trivial
theorem tw11877701927421536983 : True := trivial
theorem tw11395670992018267385 : True := trivial
theorem tw9707133987206996932 : True := trivial
theorem tw4023297057137277651 : True := trivial
theorem tw4556428994029535956 : True := trivial
theorem tw4467798320020656179 : True := trivial
theorem tw736651516547490832 : True := trivial
theorem tw3723630542826203943 : True := trivial
theorem tw656076440778292482 : True := trivial
theorem tw16215977401590097003 : True := trivial
theorem tw2264021941385054896 : True := trivial
theorem tw421363296730083871 : True := trivial
theorem tw6580574314855568270 : True := trivial
theorem tw6037489078682755576 : True := trivial
theorem tw11350367630501279022 : True := trivial
theorem tw8156726400308522257 : True := trivial
theorem tw11805694179482888941 : True := trivial
theorem tw15697223592979701642 : True := trivial
theorem tw13844089978238065098 : True := trivial
theorem tw11433405539524902661 : True := trivial
theorem tw11273262377888077476 : True := trivial
theorem tw5008290247204968218 : True := trivial
theorem tw6962572479815456467 : True := trivial
theorem tw15243089015094070232 : True := trivial
theorem tw4666318109519389005 : True := trivial
theorem tw2014271207808190006 : True := trivial
theorem tw4210219099711489299 : True := trivial
theorem tw9566552471693457985 : True := trivial
theorem tw1615928054366754201 : True := trivial
theorem tw3771051595129330826 : True := trivial
theorem tw861864741614173764 : True := trivial
theorem tw16595362573750280757 : True := trivial
theorem tw15297253678354449791 : True := trivial
theorem tw16926012222564358210 : True := trivial
theorem tw3049271969674524480 : True := trivial
theorem tw5618137308844115427 : True := trivial
theorem tw230807764250884263 : True := trivial
theorem tw10736109088354093522 : True := trivial
theorem tw2910526096777386167 : True := trivial
theorem tw9654877175358867214 : True := trivial
theorem tw15871267208521532724 : True := trivial
theorem tw7457636096641139117 : True := trivial
theorem tw7464595874420125329 : True := trivial
theorem tw12691597698365915131 : True := trivial
theorem tw14086457065434659631 : True := trivial
theorem tw7698812452108594071 : True := trivial
theorem tw2034717911566891908 : True := trivial
theorem tw16372521356466026101 : True := trivial
theorem tw14416275337668974420 : True := trivial
theorem tw8919031616232691749 : True := trivial
theorem tw16581151417455746059 : True := trivial
theorem tw5165025924645942653 : True := trivial
theorem tw16600043770483438314 : True := trivial
theorem tw15518239731866700987 : True := trivial
theorem tw5430011438387197361 : True := trivial
theorem tw5909193245147759687 : True := trivial
theorem tw16906040192385266834 : True := trivial
theorem tw14916995106764353200 : True := trivial
theorem tw11388495964955155687 : True := trivial
theorem tw2379005347830306120 : True := trivial
theorem tw14507302313248223822 : True := trivial
theorem tw6692060564805344106 : True := trivial
theorem tw666833003437471757 : True := trivial
theorem tw1849371843732343989 : True := trivial
theorem tw8279029226844141570 : True := trivial
theorem tw584719102589941689 : True := trivial
theorem tw12423877160298123757 : True := trivial
theorem tw13739648202782417432 : True := trivial
theorem tw18315638846966828394 : True := trivial
theorem tw14472828460823541990 : True := trivial
theorem tw3548076473108566506 : True := trivial
theorem tw1362119647365150438 : True := trivial
theorem tw2782118966962595874 : True := trivial
theorem tw18373452361482764485 : True := trivial
theorem tw16473639441165710257 : True := trivial
theorem tw14542113163728475209 : True := trivial
theorem tw16897676453881802322 : True := trivial
theorem tw8872909005686350626 : True := trivial
theorem tw7943386512117302946 : True := trivial
theorem tw17613938524708191829 : True := trivial
theorem tw10278937606498059488 : True := trivial
theorem tw3721696500619961505 : True := trivial
theorem tw1190586713062345800 : True := trivial
theorem tw6728154274216982365 : True := trivial
theorem tw3434208498190230367 : True := trivial
theorem tw16687147804897620145 : True := trivial
theorem tw6139877584637745569 : True := trivial
theorem tw17692518787864899270 : True := trivial
theorem tw12460949106103930321 : True := trivial
theorem tw12397772999946009458 : True := trivial
theorem tw17379758936492160201 : True := trivial
theorem tw7255275578902413076 : True := trivial
theorem tw11871744203675796140 : True := trivial
theorem tw14538874140539708099 : True := trivial
theorem tw4995538406434475557 : True := trivial
theorem tw7687817473217727149 : True := trivial
theorem tw16680003515199778897 : True := trivial
theorem tw6206166659457235234 : True := trivial
theorem tw12417753134789212331 : True := trivial
theorem tw9753717535388890733 : True := trivial
theorem tw178581042813649599 : True := trivial
theorem tw12666333610256042172 : True := trivial
theorem tw9229391809358719214 : True := trivial
theorem tw913546022386638108 : True := trivial
theorem tw11986757802728553084 : True := trivial
theorem tw15878070103519421253 : True := trivial
theorem tw13332134087120772479 : True := trivial
theorem tw5730721817120513072 : True := trivial
theorem tw12664658856889618086 : True := trivial
theorem tw16107058723417252364 : True := trivial
theorem tw17071059386382619837 : True := trivial
theorem tw12881901389117698675 : True := trivial
theorem tw3873008970592199114 : True := trivial
theorem tw9525860803899176680 : True := trivial
theorem tw17410731215307922774 : True := trivial
theorem tw7746057486032701752 : True := trivial
theorem tw4174790295733873905 : True := trivial
theorem tw2034744697303282172 : True := trivial
theorem tw2008543321932442880 : True := trivial
theorem tw9806057202981219636 : True := trivial
theorem tw7081068284666462999 : True := trivial
theorem tw16142239110838530255 : True := trivial
theorem tw16409711827224516045 : True := trivial
theorem tw13347787076771650501 : True := trivial
theorem tw7582601727333101244 : True := trivial
theorem tw5380806339785220120 : True := trivial
theorem tw12213728302712620879 : True := trivial
theorem tw1821167815075253970 : True := trivial
theorem tw8431264155693253694 : True := trivial
theorem tw12539558172590973318 : True := trivial
theorem tw5389946929881952284 : True := trivial
theorem tw2552796210991352996 : True := trivial
theorem tw15975211022335327773 : True := trivial
theorem tw15730243819953166271 : True := trivial
theorem tw13963969073959293107 : True := trivial
theorem tw13308488453406356260 : True := trivial
theorem tw12275828865828986963 : True := trivial
theorem tw3071209196203391481 : True := trivial
theorem tw1767136498756806387 : True := trivial
theorem tw13113154927196928475 : True := trivial
theorem tw11911319608281477277 : True := trivial
theorem tw1080900479108282937 : True := trivial
theorem tw8045569203733104560 : True := trivial
theorem tw9982191969193046458 : True := trivial
theorem tw8901802253875615183 : True := trivial
theorem tw9433531278389032824 : True := trivial
theorem tw7379454718192184835 : True := trivial
theorem tw2643832426994645115 : True := trivial
theorem tw15464251626879457204 : True := trivial
theorem tw1996912083480710935 : True := trivial
theorem tw17176374062197687593 : True := trivial
theorem tw12049506182271531696 : True := trivial
theorem tw16959874492026618969 : True := trivial
theorem tw11757305670266801033 : True := trivial
theorem tw4902565112195417037 : True := trivial
theorem tw17878784608640409459 : True := trivial
theorem tw13930637212614392226 : True := trivial
theorem tw11793734168487856341 : True := trivial
theorem tw1126072502692188778 : True := trivial
theorem tw2434553803078254261 : True := trivial
theorem tw15007757081922156004 : True := trivial
theorem tw16510481600262218847 : True := trivial
theorem tw5623207838345117396 : True := trivial
theorem tw13909791072126722056 : True := trivial
theorem tw1794467112681613370 : True := trivial
theorem tw11005756572895524371 : True := trivial
theorem tw10012160438117895973 : True := trivial
theorem tw6411285211500790085 : True := trivial
theorem tw14593159852549633388 : True := trivial
theorem tw2425383985689565822 : True := trivial
theorem tw17828953255225376058 : True := trivial
theorem tw3523775780356040603 : True := trivial
theorem tw8684587046756849092 : True := trivial
theorem tw14623808352094701054 : True := trivial
theorem tw14408197657649572515 : True := trivial
theorem tw12910989237328247137 : True := trivial
theorem tw3511779705846861100 : True := trivial
theorem tw13178310045776132272 : True := trivial
theorem tw5173873746256061916 : True := trivial
theorem tw2072372676667108654 : True := trivial
theorem tw15398073337731082674 : True := trivial
theorem tw5474646525126917990 : True := trivial
theorem tw1165496359411975101 : True := trivial
theorem tw6772099537000241118 : True := trivial
theorem tw17744178410328647347 : True := trivial
theorem tw13428411932038287686 : True := trivial
theorem tw11219512609335458634 : True := trivial
theorem tw3717072055708945819 : True := trivial
theorem tw1829115335393707652 : True := trivial
theorem tw8119455069184007469 : True := trivial
theorem tw2561748063201803186 : True := trivial
theorem tw11980278103016020812 : True := trivial
theorem tw8650718442114842560 : True := trivial
theorem tw2961402696430426231 : True := trivial
theorem tw1440075935102685264 : True := trivial
theorem tw7105755666110900953 : True := trivial
theorem tw10642662842884418218 : True := trivial
theorem tw16150238459374230927 : True := trivial
theorem tw6622707880487538503 : True := trivial
theorem tw1500647018572583949 : True := trivial
theorem tw2102798681083110017 : True := trivial
theorem tw1115585085132081066 : True := trivial
theorem tw6216430809484872640 : True := trivial
theorem tw15452625711533398837 : True := trivial
theorem tw17373973364565125618 : True := trivial
theorem tw2632751805100981905 : True := trivial
theorem tw15183547667615933285 : True := trivial
theorem tw15717124163887254962 : True := trivial
theorem tw12891522324315446015 : True := trivial
theorem tw5996850479691586584 : True := trivial
theorem tw4450587624916147076 : True := trivial
theorem tw8173071228094310254 : True := trivial
theorem tw12845261118484200459 : True := trivial
theorem tw12626840114709198378 : True := trivial
theorem tw1845855976608110773 : True := trivial
theorem tw9412894442848149701 : True := trivial
theorem tw3743009148349926834 : True := trivial
theorem tw11950124258859931632 : True := trivial
theorem tw16643660853767913972 : True := trivial
theorem tw17277502924840300105 : True := trivial
theorem tw10967216752389373344 : True := trivial
theorem tw14354234494775490764 : True := trivial
theorem tw6099131078036797979 : True := trivial
theorem tw13107174801662111570 : True := trivial
theorem tw12154202642994474704 : True := trivial
theorem tw5142186232959894968 : True := trivial
theorem tw647108449386984304 : True := trivial
theorem tw356967544398329915 : True := trivial
theorem tw5406144187479386599 : True := trivial
theorem tw12640406218976953037 : True := trivial
theorem tw3632867162084551071 : True := trivial
theorem tw8084376253192999113 : True := trivial
theorem tw13297067606064285652 : True := trivial
theorem tw6158132632314377128 : True := trivial
theorem tw16472795012208552839 : True := trivial
theorem tw16709080520811304784 : True := trivial
theorem tw8669599635210254193 : True := trivial
theorem tw3234737050031676544 : True := trivial
theorem tw16122169185219387078 : True := trivial
theorem tw12066965874389408120 : True := trivial
theorem tw12016860714807687656 : True := trivial
theorem tw18400075059884390115 : True := trivial
theorem tw8290427861490824813 : True := trivial
theorem tw4238023322623047379 : True := trivial
theorem tw15453416346575775594 : True := trivial
theorem tw12983471973873613788 : True := trivial
theorem tw5152673152856567525 : True := trivial
theorem tw6199759378105253257 : True := trivial
theorem tw10700488128192201396 : True := trivial
theorem tw17604866571082413906 : True := trivial
theorem tw12565889468513171607 : True := trivial
theorem tw2257129247743440686 : True := trivial
theorem tw6832045487594456292 : True := trivial
theorem tw8619215413693324355 : True := trivial
theorem tw4821901139337749702 : True := trivial
theorem tw15535002341697438730 : True := trivial
theorem tw12810448666864299492 : True := trivial
theorem tw1532404131580840411 : True := trivial
theorem tw3106290062107451807 : True := trivial
theorem tw8816798291227452633 : True := trivial
theorem tw3674248234380718824 : True := trivial
theorem tw13210447659884844091 : True := trivial
theorem tw12957314493428156266 : True := trivial
theorem tw8693674745950220133 : True := trivial
theorem tw2280790724740742481 : True := trivial
theorem tw23066659394911290 : True := trivial
theorem tw17579201594499737174 : True := trivial
theorem tw10869146627626175483 : True := trivial
theorem tw9788703687375744770 : True := trivial
theorem tw17539334039259245151 : True := trivial
theorem tw1486336643247852175 : True := trivial
theorem tw8871526168170090628 : True := trivial
theorem tw7229964220759842534 : True := trivial
theorem tw967610912772742078 : True := trivial
theorem tw12909171678537789863 : True := trivial
theorem tw1863320854572675957 : True := trivial
theorem tw10480641890712529380 : True := trivial
theorem tw1149526193434337246 : True := trivial
theorem tw1905997351190612835 : True := trivial
theorem tw8790991932553925606 : True := trivial
theorem tw40841790062175240 : True := trivial
theorem tw7630566116205805888 : True := trivial
theorem tw14666310372932809294 : True := trivial
theorem tw7662183129477274309 : True := trivial
theorem tw6981329440612965191 : True := trivial
theorem tw14790941853702984716 : True := trivial
theorem tw7735394856446827663 : True := trivial
theorem tw7335677504171055376 : True := trivial
theorem tw4901182807409190762 : True := trivial
theorem tw7382456293473479808 : True := trivial
theorem tw7935433908235312977 : True := trivial
theorem tw11328047949728880769 : True := trivial
theorem tw6646690284043951102 : True := trivial
theorem tw16226241946460921966 : True := trivial
theorem tw3538056876959613986 : True := trivial
theorem tw630645943325376314 : True := trivial
end PySem.W.Fast
open PySem PySem.W PyProof.Rows
set_option maxRecDepth 100000 in
set_option maxHeartbeats 0 in
theorem PySem.Challenge.cw_tribunal_k23_commands_on_accounts_holds : PySem.Challenge.rw_tribunal_k23_commands_on_accounts.Holds := by
  w_on; o_law; k_head; (case hw => w_witness2)
  k_fill
  refine Toy.walk (l := PySem.Challenge.rw_tribunal_k23_commands_on_accounts) rfl rfl (fun w h Y => PySem.W.kIn_of Y) ?F
  case F =>
    intro w mg fa h KX G hmg
    refine' Toy.all_mk KX G hmg ?c_DIGITS ?c_MODULUS ?c_MOST_VALUES ?c_MOST_STEPS ?n_len ?n_range ?n_isinstance ?n_int ?n_bool ?n_list ?n_tuple ?n_str ?n_dict ?n_sorted ?n_max ?n_abs ?n_all ?g_Run ?g_Machine ?g_Ledger ?a_Run_init ?i_Run_init ?l_Run_init ?q_Run_init ?k_Run_init ?a_run ?l_run ?q_run ?k_run ?a_plus ?l_plus ?q_plus ?k_plus ?a_minus ?l_minus ?q_minus ?k_minus ?a_times ?l_times ?q_times ?k_times ?a_append_digit ?l_append_digit ?q_append_digit ?k_append_digit ?a_is_less ?l_is_less ?q_is_less ?k_is_less ?a_is_equal ?l_is_equal ?q_is_equal ?k_is_equal ?a_Machine_init ?i_Machine_init ?l_Machine_init ?q_Machine_init ?k_Machine_init ?a_Machine_push ?i_Machine_push ?l_Machine_push ?q_Machine_push ?k_Machine_push ?a_Machine_take ?i_Machine_take ?l_Machine_take ?q_Machine_take ?k_Machine_take ?a_Machine_push_number ?i_Machine_push_number ?l_Machine_push_number ?q_Machine_push_number ?k_Machine_push_number ?a_Machine_combine ?i_Machine_combine ?l_Machine_combine ?q_Machine_combine ?k_Machine_combine ?a_Machine_move ?i_Machine_move ?l_Machine_move ?q_Machine_move ?k_Machine_move ?a_Machine_jump ?i_Machine_jump ?l_Machine_jump ?q_Machine_jump ?k_Machine_jump ?a_Machine_settle ?i_Machine_settle ?l_Machine_settle ?q_Machine_settle ?k_Machine_settle ?a_Machine_perform ?i_Machine_perform ?l_Machine_perform ?q_Machine_perform ?k_Machine_perform ?a_Machine_finish ?i_Machine_finish ?l_Machine_finish ?q_Machine_finish ?k_Machine_finish ?a_Ledger_init ?i_Ledger_init ?l_Ledger_init ?q_Ledger_init ?k_Ledger_init ?a_Ledger_eq ?i_Ledger_eq ?l_Ledger_eq ?q_Ledger_eq ?k_Ledger_eq ?a_first_ledger ?l_first_ledger ?q_first_ledger ?k_first_ledger ?a_after_command ?l_after_command ?q_after_command ?k_after_command ?a_done ?l_done ?q_done ?k_done ?a_payment ?l_payment ?q_payment ?k_payment ?a_new_program ?l_new_program ?q_new_program ?k_new_program ?a_call ?l_call ?q_call ?k_call ?a_exist ?l_exist ?q_exist ?k_exist ?a_moved ?l_moved ?q_moved ?k_moved ?a_replaced ?l_replaced ?q_replaced ?k_replaced ?a_law_cell ?l_law_cell ?q_law_cell ?k_law_cell ?a_law_row ?l_law_row ?q_law_row ?k_law_row ?a_law_number ?l_law_number ?q_law_number ?k_law_number ?a_law_code ?l_law_code ?q_law_code ?k_law_code ?a_law_place ?l_law_place ?q_law_place ?k_law_place ?a_law_command ?l_law_command ?q_law_command ?k_law_command ?a_law_reckon ?l_law_reckon ?q_law_reckon ?k_law_reckon ?a_law_need ?l_law_need ?q_law_need ?k_law_need ?a_law_act ?l_law_act ?q_law_act ?k_law_act ?a_law_sign ?l_law_sign ?q_law_sign ?k_law_sign ?a_law_run ?l_law_run ?q_law_run ?k_law_run ?a_law_after ?l_law_after ?q_law_after ?k_law_after ?a_law_pairs ?l_law_pairs ?q_law_pairs ?k_law_pairs ?a_law_shows ?l_law_shows ?q_law_shows ?k_law_shows ?a_law ?l_law ?q_law ?k_law ?pg_Run ?hd_Run ?po_Run ?sa_Run ?mk_Run ?kc_Run ?no_Run_well ?no_Run_store ?no_Run_paid ?no_Run_steps ?pg_Machine ?hd_Machine ?po_Machine ?sa_Machine ?mk_Machine ?kc_Machine ?no_Machine_code ?no_Machine_given ?no_Machine_amount ?no_Machine_store ?no_Machine_stack ?no_Machine_place ?no_Machine_paid ?no_Machine_steps ?pg_Ledger ?hd_Ledger ?po_Ledger ?sa_Ledger ?mk_Ledger ?kc_Ledger ?no_Ledger_balances ?no_Ledger_codes ?no_Ledger_stores ?g_OF_TWO ?l_OF_TWO ?kl_OF_TWO ?lo_OF_TWO ?g_Failed ?x_Failed ?kc_Failed ?b_Failed ?t_Failed ?xga_Failed ?xgt_Failed ?xhd_Failed ?xcc_Failed ?xsp_Failed ?xtk_Failed ?xmo_Failed ?te1_Failed ?te2_Failed ?te3_Failed ?te4_Failed_Failed ?kt_Ledger_Ledger ?icc_Ledger ?isp_Ledger ?itk_Ledger ?imo_Ledger
    (case c_DIGITS => k_is)
    (case c_MODULUS => k_is)
    (case c_MOST_VALUES => k_is)
    (case c_MOST_STEPS => k_is)
    (case n_len => k_is)
    (case n_range => k_is)
    (case n_isinstance => k_is)
    (case n_int => k_is)
    (case n_bool => k_is)
    (case n_list => k_is)
    (case n_tuple => k_is)
    (case n_str => k_is)
    (case n_dict => k_is)
    (case n_sorted => k_is)
    (case n_max => k_is)
    (case n_abs => k_is)
    (case n_all => k_is)
    (case g_Run => k_is)
    (case g_Machine => k_is)
    (case g_Ledger => k_is)
    (case a_Run_init => k_is)
    (case i_Run_init => k_is)
    (case l_Run_init => k_is)
    (case q_Run_init => k_is)
    (case k_Run_init => k_is)
    (case a_run => k_is)
    (case l_run => k_is)
    (case q_run => k_is)
    (case k_run => k_is)
    (case a_plus => k_is)
    (case l_plus => k_is)
    (case q_plus => k_is)
    (case k_plus => k_is)
    (case a_minus => k_is)
    (case l_minus => k_is)
    (case q_minus => k_is)
    (case k_minus => k_is)
    (case a_times => k_is)
    (case l_times => k_is)
    (case q_times => k_is)
    (case k_times => k_is)
    (case a_append_digit => k_is)
    (case l_append_digit => k_is)
    (case q_append_digit => k_is)
    (case k_append_digit => k_is)
    (case a_is_less => k_is)
    (case l_is_less => k_is)
    (case q_is_less => k_is)
    (case k_is_less => k_is)
    (case a_is_equal => k_is)
    (case l_is_equal => k_is)
    (case q_is_equal => k_is)
    (case k_is_equal => k_is)
    (case a_Machine_init => k_is)
    (case i_Machine_init => k_is)
    (case l_Machine_init => k_is)
    (case q_Machine_init => k_is)
    (case k_Machine_init => k_is)
    (case a_Machine_push => k_is)
    (case i_Machine_push => k_is)
    (case l_Machine_push => k_is)
    (case q_Machine_push => k_is)
    (case k_Machine_push => k_is)
    (case a_Machine_take => k_is)
    (case i_Machine_take => k_is)
    (case l_Machine_take => k_is)
    (case q_Machine_take => k_is)
    (case k_Machine_take => k_is)
    (case a_Machine_push_number => k_is)
    (case i_Machine_push_number => k_is)
    (case l_Machine_push_number => k_is)
    (case q_Machine_push_number => k_is)
    (case k_Machine_push_number => k_is)
    (case a_Machine_combine => k_is)
    (case i_Machine_combine => k_is)
    (case l_Machine_combine => k_is)
    (case q_Machine_combine => k_is)
    (case k_Machine_combine => k_is)
    (case a_Machine_move => k_is)
    (case i_Machine_move => k_is)
    (case l_Machine_move => k_is)
    (case q_Machine_move => k_is)
    (case k_Machine_move => k_is)
    (case a_Machine_jump => k_is)
    (case i_Machine_jump => k_is)
    (case l_Machine_jump => k_is)
    (case q_Machine_jump => k_is)
    (case k_Machine_jump => k_is)
    (case a_Machine_settle => k_is)
    (case i_Machine_settle => k_is)
    (case l_Machine_settle => k_is)
    (case q_Machine_settle => k_is)
    (case k_Machine_settle => k_is)
    (case a_Machine_perform => k_is)
    (case i_Machine_perform => k_is)
    (case l_Machine_perform => k_is)
    (case q_Machine_perform => k_is)
    (case k_Machine_perform => k_is)
    (case a_Machine_finish => k_is)
    (case i_Machine_finish => k_is)
    (case l_Machine_finish => k_is)
    (case q_Machine_finish => k_is)
    (case k_Machine_finish => k_is)
    (case a_Ledger_init => k_is)
    (case i_Ledger_init => k_is)
    (case l_Ledger_init => k_is)
    (case q_Ledger_init => k_is)
    (case k_Ledger_init => k_is)
    (case a_Ledger_eq => k_is)
    (case i_Ledger_eq => k_is)
    (case l_Ledger_eq => k_is)
    (case q_Ledger_eq => k_is)
    (case k_Ledger_eq => k_is)
    (case a_first_ledger => k_is)
    (case l_first_ledger => k_is)
    (case q_first_ledger => k_is)
    (case k_first_ledger => k_is)
    (case a_after_command => k_is)
    (case l_after_command => k_is)
    (case q_after_command => k_is)
    (case k_after_command => k_is)
    (case a_done => k_is)
    (case l_done => k_is)
    (case q_done => k_is)
    (case k_done => k_is)
    (case a_payment => k_is)
    (case l_payment => k_is)
    (case q_payment => k_is)
    (case k_payment => k_is)
    (case a_new_program => k_is)
    (case l_new_program => k_is)
    (case q_new_program => k_is)
    (case k_new_program => k_is)
    (case a_call => k_is)
    (case l_call => k_is)
    (case q_call => k_is)
    (case k_call => k_is)
    (case a_exist => k_is)
    (case l_exist => k_is)
    (case q_exist => k_is)
    (case k_exist => k_is)
    (case a_moved => k_is)
    (case l_moved => k_is)
    (case q_moved => k_is)
    (case k_moved => k_is)
    (case a_replaced => k_is)
    (case l_replaced => k_is)
    (case q_replaced => k_is)
    (case k_replaced => k_is)
    (case a_law_cell => k_is)
    (case l_law_cell => k_is)
    (case q_law_cell => k_is)
    (case k_law_cell => k_is)
    (case a_law_row => k_is)
    (case l_law_row => k_is)
    (case q_law_row => k_is)
    (case k_law_row => k_is)
    (case a_law_number => k_is)
    (case l_law_number => k_is)
    (case q_law_number => k_is)
    (case k_law_number => k_is)
    (case a_law_code => k_is)
    (case l_law_code => k_is)
    (case q_law_code => k_is)
    (case k_law_code => k_is)
    (case a_law_place => k_is)
    (case l_law_place => k_is)
    (case q_law_place => k_is)
    (case k_law_place => k_is)
    (case a_law_command => k_is)
    (case l_law_command => k_is)
    (case q_law_command => k_is)
    (case k_law_command => k_is)
    (case a_law_reckon => k_is)
    (case l_law_reckon => k_is)
    (case q_law_reckon => k_is)
    (case k_law_reckon => k_is)
    (case a_law_need => k_is)
    (case l_law_need => k_is)
    (case q_law_need => k_is)
    (case k_law_need => k_is)
    (case a_law_act => k_is)
    (case l_law_act => k_is)
    (case q_law_act => k_is)
    (case k_law_act => k_is)
    (case a_law_sign => k_is)
    (case l_law_sign => k_is)
    (case q_law_sign => k_is)
    (case k_law_sign => k_is)
    (case a_law_run => k_is)
    (case l_law_run => k_is)
    (case q_law_run => k_is)
    (case k_law_run => k_is)
    (case a_law_after => k_is)
    (case l_law_after => k_is)
    (case q_law_after => k_is)
    (case k_law_after => k_is)
    (case a_law_pairs => k_is)
    (case l_law_pairs => k_is)
    (case q_law_pairs => k_is)
    (case k_law_pairs => k_is)
    (case a_law_shows => k_is)
    (case l_law_shows => k_is)
    (case q_law_shows => k_is)
    (case k_law_shows => k_is)
    (case a_law => k_is)
    (case l_law => k_is)
    (case q_law => k_is)
    (case k_law => k_is)
    (case pg_Run => k_is)
    (case hd_Run => k_is)
    (case po_Run => k_is)
    (case sa_Run => k_is)
    (case mk_Run => k_is)
    (case kc_Run => k_is)
    (case no_Run_well => k_is)
    (case no_Run_store => k_is)
    (case no_Run_paid => k_is)
    (case no_Run_steps => k_is)
    (case pg_Machine => k_is)
    (case hd_Machine => k_is)
    (case po_Machine => k_is)
    (case sa_Machine => k_is)
    (case mk_Machine => k_is)
    (case kc_Machine => k_is)
    (case no_Machine_code => k_is)
    (case no_Machine_given => k_is)
    (case no_Machine_amount => k_is)
    (case no_Machine_store => k_is)
    (case no_Machine_stack => k_is)
    (case no_Machine_place => k_is)
    (case no_Machine_paid => k_is)
    (case no_Machine_steps => k_is)
    (case pg_Ledger => k_is)
    (case hd_Ledger => k_is)
    (case po_Ledger => k_is)
    (case sa_Ledger => k_is)
    (case mk_Ledger => k_is)
    (case kc_Ledger => k_is)
    (case no_Ledger_balances => k_is)
    (case no_Ledger_codes => k_is)
    (case no_Ledger_stores => k_is)
    (case g_OF_TWO => k_is)
    (case l_OF_TWO => k_is)
    (case kl_OF_TWO => exact ⟨⟨_, _, rfl, rfl⟩, ⟨_, _, rfl, rfl⟩, ⟨_, _, rfl, rfl⟩, ⟨_, _, rfl, rfl⟩, ⟨_, _, rfl, rfl⟩, ⟨_, _, rfl, rfl⟩, trivial⟩)
    (case lo_OF_TWO => exact rfl)
    (case g_Failed => k_is)
    (case x_Failed => k_exc)
    (case kc_Failed => k_is)
    (case b_Failed => k_is)
    (case t_Failed => k_is)
    (case xga_Failed => k_is)
    (case xgt_Failed => k_is)
    (case xhd_Failed => k_is)
    (case xcc_Failed => k_is)
    (case xsp_Failed => k_is)
    (case xtk_Failed => k_is)
    (case xmo_Failed => k_is)
    (case te1_Failed => k_is)
    (case te2_Failed => k_is)
    (case te3_Failed => k_is)
    (case te4_Failed_Failed => k_is)
    (case kt_Ledger_Ledger => kit_is)
    (case icc_Ledger => k_is)
    (case isp_Ledger => k_is)
    (case itk_Ledger => k_is)
    (case imo_Ledger => k_is)
