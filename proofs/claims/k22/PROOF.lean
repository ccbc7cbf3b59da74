import PyProof.Rows.All
import Wide.All
import OpenK.AllK
import Wide.FinOn
import HandS.ForMost
import HandS.IsInst
import HandS.TupLe
import HandS.Codes
import HandS.More
import HandS.Exc
import HandS.ExcOwn
import HandS.WordsExc
import HandS.ExcIs
import KE.KExcIs
import HandS.FStr
import HandS.Zip
import HandS.Star
import HandS.StrMore
import HandS.Text
import HandS.Walk
import HandS.Deep
import HandS.TryOnly
import KE.IntTextText
import KE.KUnpackStar
import KE.IntTextLaws
import KE.GoesMore
import KE.GoesEnum
import HandS.DictComp
import HandS.Dict
import HandS.Iter
import HandS.Replace
import HandS.HotCalls
import HandS.ExcInitHot
import PyProof.EqAt
import PySem.Challenge.RW_tribunal_k22_runs_of_programs
set_option Elab.async false
set_option pp.maxSteps 300
set_option pp.deepTerms.threshold 6
set_option linter.all false
set_option maxRecDepth 100000
set_option maxHeartbeats 4000000
namespace Toy
open PySem L2
def top (i : Nat) : Stmt := PySem.Challenge.pw_tribunal_k22_runs_of_programs.main.body.getD i (.Pass ⟨0, 0, 0, 0⟩)
abbrev s_Run_init : Stmt := (inClass (top 8) 0)
abbrev s_run : Stmt := (top 9)
abbrev s_plus : Stmt := (top 10)
abbrev s_minus : Stmt := (top 11)
abbrev s_times : Stmt := (top 12)
abbrev s_append_digit : Stmt := (top 13)
abbrev s_is_less : Stmt := (top 14)
abbrev s_is_equal : Stmt := (top 15)
abbrev s_Machine_init : Stmt := (inClass (top 17) 0)
abbrev s_Machine_push : Stmt := (inClass (top 17) 3)
abbrev s_Machine_take : Stmt := (inClass (top 17) 4)
abbrev s_Machine_push_number : Stmt := (inClass (top 17) 5)
abbrev s_Machine_combine : Stmt := (inClass (top 17) 6)
abbrev s_Machine_move : Stmt := (inClass (top 17) 7)
abbrev s_Machine_jump : Stmt := (inClass (top 17) 8)
abbrev s_Machine_settle : Stmt := (inClass (top 17) 9)
abbrev s_Machine_perform : Stmt := (inClass (top 17) 2)
abbrev s_Machine_finish : Stmt := (inClass (top 17) 1)
abbrev s_law_cell : Stmt := (top 19)
abbrev s_law_is_integer : Stmt := (top 20)
abbrev s_law_row : Stmt := (top 21)
abbrev s_law_reckon : Stmt := (top 22)
abbrev s_law_need : Stmt := (top 23)
abbrev s_law_act : Stmt := (top 24)
abbrev s_law_sign : Stmt := (top 25)
abbrev s_law_run : Stmt := (top 26)
abbrev s_law : Stmt := (top 27)
abbrev sc_Run_init_N : List Str := ["self", "well", "store", "paid", "steps"]
theorem sc_Run_init : FnScope sc_Run_init_N ["self", "well", "store", "paid", "steps"] (defScope s_Run_init) := ⟨rfl, rfl, rfl, by decide +kernel, rfl, by decide +kernel, by decide +kernel⟩
abbrev sc_run_N : List Str := ["code", "given", "amount", "store", "machine", "kept", "key"]
theorem sc_run : FnScope sc_run_N ["code", "given", "amount", "store"] (defScope s_run) := ⟨rfl, rfl, rfl, by decide +kernel, rfl, by decide +kernel, by decide +kernel⟩
abbrev sc_plus_N : List Str := ["left", "right"]
theorem sc_plus : FnScope sc_plus_N ["left", "right"] (defScope s_plus) := ⟨rfl, rfl, rfl, by decide +kernel, rfl, by decide +kernel, by decide +kernel⟩
abbrev sc_minus_N : List Str := ["left", "right"]
theorem sc_minus : FnScope sc_minus_N ["left", "right"] (defScope s_minus) := ⟨rfl, rfl, rfl, by decide +kernel, rfl, by decide +kernel, by decide +kernel⟩
abbrev sc_times_N : List Str := ["left", "right"]
theorem sc_times : FnScope sc_times_N ["left", "right"] (defScope s_times) := ⟨rfl, rfl, rfl, by decide +kernel, rfl, by decide +kernel, by decide +kernel⟩
abbrev sc_append_digit_N : List Str := ["left", "right"]
theorem sc_append_digit : FnScope sc_append_digit_N ["left", "right"] (defScope s_append_digit) := ⟨rfl, rfl, rfl, by decide +kernel, rfl, by decide +kernel, by decide +kernel⟩
abbrev sc_is_less_N : List Str := ["left", "right"]
theorem sc_is_less : FnScope sc_is_less_N ["left", "right"] (defScope s_is_less) := ⟨rfl, rfl, rfl, by decide +kernel, rfl, by decide +kernel, by decide +kernel⟩
abbrev sc_is_equal_N : List Str := ["left", "right"]
theorem sc_is_equal : FnScope sc_is_equal_N ["left", "right"] (defScope s_is_equal) := ⟨rfl, rfl, rfl, by decide +kernel, rfl, by decide +kernel, by decide +kernel⟩
abbrev sc_Machine_init_N : List Str := ["self", "code", "given", "amount", "store"]
theorem sc_Machine_init : FnScope sc_Machine_init_N ["self", "code", "given", "amount", "store"] (defScope s_Machine_init) := ⟨rfl, rfl, rfl, by decide +kernel, rfl, by decide +kernel, by decide +kernel⟩
abbrev sc_Machine_push_N : List Str := ["self", "value"]
theorem sc_Machine_push : FnScope sc_Machine_push_N ["self", "value"] (defScope s_Machine_push) := ⟨rfl, rfl, rfl, by decide +kernel, rfl, by decide +kernel, by decide +kernel⟩
abbrev sc_Machine_take_N : List Str := ["self"]
theorem sc_Machine_take : FnScope sc_Machine_take_N ["self"] (defScope s_Machine_take) := ⟨rfl, rfl, rfl, by decide +kernel, rfl, by decide +kernel, by decide +kernel⟩
abbrev sc_Machine_push_number_N : List Str := ["self", "sign"]
theorem sc_Machine_push_number : FnScope sc_Machine_push_number_N ["self", "sign"] (defScope s_Machine_push_number) := ⟨rfl, rfl, rfl, by decide +kernel, rfl, by decide +kernel, by decide +kernel⟩
abbrev sc_Machine_combine_N : List Str := ["self", "sign", "work", "right", "left"]
theorem sc_Machine_combine : FnScope sc_Machine_combine_N ["self", "sign"] (defScope s_Machine_combine) := ⟨rfl, rfl, rfl, by decide +kernel, rfl, by decide +kernel, by decide +kernel⟩
abbrev sc_Machine_move_N : List Str := ["self", "sign", "top"]
theorem sc_Machine_move : FnScope sc_Machine_move_N ["self", "sign"] (defScope s_Machine_move) := ⟨rfl, rfl, rfl, by decide +kernel, rfl, by decide +kernel, by decide +kernel⟩
abbrev sc_Machine_jump_N : List Str := ["self", "sign", "place"]
theorem sc_Machine_jump : FnScope sc_Machine_jump_N ["self", "sign"] (defScope s_Machine_jump) := ⟨rfl, rfl, rfl, by decide +kernel, rfl, by decide +kernel, by decide +kernel⟩
abbrev sc_Machine_settle_N : List Str := ["self", "sign", "top"]
theorem sc_Machine_settle : FnScope sc_Machine_settle_N ["self", "sign"] (defScope s_Machine_settle) := ⟨rfl, rfl, rfl, by decide +kernel, rfl, by decide +kernel, by decide +kernel⟩
abbrev sc_Machine_perform_N : List Str := ["self", "sign"]
theorem sc_Machine_perform : FnScope sc_Machine_perform_N ["self", "sign"] (defScope s_Machine_perform) := ⟨rfl, rfl, rfl, by decide +kernel, rfl, by decide +kernel, by decide +kernel⟩
abbrev sc_Machine_finish_N : List Str := ["self", "sign"]
theorem sc_Machine_finish : FnScope sc_Machine_finish_N ["self"] (defScope s_Machine_finish) := ⟨rfl, rfl, rfl, by decide +kernel, rfl, by decide +kernel, by decide +kernel⟩
abbrev sc_law_cell_N : List Str := ["script", "k"]
theorem sc_law_cell : FnScope sc_law_cell_N ["script", "k"] (defScope s_law_cell) := ⟨rfl, rfl, rfl, by decide +kernel, rfl, by decide +kernel, by decide +kernel⟩
abbrev sc_law_is_integer_N : List Str := ["actual"]
theorem sc_law_is_integer : FnScope sc_law_is_integer_N ["actual"] (defScope s_law_is_integer) := ⟨rfl, rfl, rfl, by decide +kernel, rfl, by decide +kernel, by decide +kernel⟩
abbrev sc_law_row_N : List Str := ["cell", "count", "size", "state", "row", "k"]
theorem sc_law_row : FnScope sc_law_row_N ["cell", "count", "size"] (defScope s_law_row) := ⟨rfl, rfl, rfl, by decide +kernel, rfl, by decide +kernel, by decide +kernel⟩
abbrev sc_law_reckon_N : List Str := ["sign", "left", "right"]
theorem sc_law_reckon : FnScope sc_law_reckon_N ["sign", "left", "right"] (defScope s_law_reckon) := ⟨rfl, rfl, rfl, by decide +kernel, rfl, by decide +kernel, by decide +kernel⟩
abbrev sc_law_need_N : List Str := ["sign"]
theorem sc_law_need : FnScope sc_law_need_N ["sign"] (defScope s_law_need) := ⟨rfl, rfl, rfl, by decide +kernel, rfl, by decide +kernel, by decide +kernel⟩
abbrev sc_law_act_N : List Str := ["sign", "top", "stack", "store", "state"]
theorem sc_law_act : FnScope sc_law_act_N ["sign", "top", "stack", "store", "state"] (defScope s_law_act) := ⟨rfl, rfl, rfl, by decide +kernel, rfl, by decide +kernel, by decide +kernel⟩
abbrev sc_law_sign_N : List Str := ["sign", "given", "amount", "stack", "store", "state", "top", "left"]
theorem sc_law_sign : FnScope sc_law_sign_N ["sign", "given", "amount", "stack", "store", "state"] (defScope s_law_sign) := ⟨rfl, rfl, rfl, by decide +kernel, rfl, by decide +kernel, by decide +kernel⟩
abbrev sc_law_run_N : List Str := ["code", "given", "amount", "store", "stack", "kept", "state", "steps", "k", "left", "key", "sign"]
theorem sc_law_run : FnScope sc_law_run_N ["code", "given", "amount", "store"] (defScope s_law_run) := ⟨rfl, rfl, rfl, by decide +kernel, rfl, by decide +kernel, by decide +kernel⟩
abbrev sc_law_N : List Str := ["script", "signs", "code", "way", "given", "amount", "store", "value", "kept", "due", "actual", "told", "cell", "key"]
theorem sc_law : FnScope sc_law_N ["script"] (defScope s_law) := ⟨rfl, rfl, rfl, by decide +kernel, rfl, by decide +kernel, by decide +kernel⟩
/-! ### what stands where -/
structure DefAt (K : PySem.W.Frag) (mg : Str → Option Value) (x : Str) (st : Stmt) (ps : List Str) (f : Addr) : Prop where
  F : ∃ fd, Fun K x x st f fd ∧ Binds K fd ps []
  g : mg x = some (.ref f)
  kp : PySem.W.keepIn K (.ref f) = true
structure MethAt (K : PySem.W.Frag) (C : Addr) (x qual : Str) (st : Stmt) (ps : List Str) (f : Addr) : Prop where
  F : ∃ fd, Fun K x qual st f fd ∧ Binds K fd ps []
  fi : PySem.W.findIn K (.ref C) x = some (some (.ref f))
  isf : PySem.W.isFn K (.ref f) = true
  kp : PySem.W.keepIn K (.ref f) = true
theorem def_mk {K : PySem.W.Frag} {x qual : Str} {st : Stmt} {f : Addr} {ps : List Str} {oc : Value} {od an : Option Addr} {osl : Array (Option Value)} {kV doc pm cdv ct : Value}
    (l : K.lookup f = some ⟨oc, od, .func (PySem.W.fnOf x qual (defArgs st) (defBody st) (defScope st) .none kV doc pm an cdv ct), osl⟩)
    (c : PySem.W.codeIn K cdv qual = true) (k : PySem.W.keepIn K (.ref f) = true)
    (h : ∀ (kV doc pm : Value) (an : Option Addr) (cdv ct : Value) (us : List Value), us.length = ps.length → bindArgs (PySem.W.fnOf x qual (defArgs st) (defBody st) (defScope st) .none kV doc pm an cdv ct) ⟨us, []⟩ = pure (ps.zip us)) :
    ∃ fd, Fun K x qual st f fd ∧ Binds K fd ps [] := by
  have F := fun_mk (st := st) l c k
  exact ⟨_, F, F.binds h⟩
theorem mg_no {K : PySem.W.Frag} {h : Heap} {mg : Str → Option Value} {n : Str} (X : K.In h) (G : h.Ns mainGlobals mg) (e : PySem.W.nsIn K mainGlobals n = some none) : mg n = none := PySem.W.mg_none_of X G e
theorem same_new {H : Hp} {p : Addr} {o : HO} (n : H p = Option.none) : Same H (upd H p o) := fun b u e => by
  rw [upd_ne (ne_of_none e n)]
  exact e
theorem same_upd {H H2 : Hp} {p : Addr} {o : HO} (s : Same H H2) (n : H p = Option.none) : Same H (upd H2 p o) := fun b u e => by
  rw [upd_ne (ne_of_none e n)]
  exact s b u e
structure Ads where
  C_Run : Addr
  C_Machine : Addr
  d_Run_init : Addr
  d_run : Addr
  d_plus : Addr
  d_minus : Addr
  d_times : Addr
  d_append_digit : Addr
  d_is_less : Addr
  d_is_equal : Addr
  d_Machine_init : Addr
  d_Machine_push : Addr
  d_Machine_take : Addr
  d_Machine_push_number : Addr
  d_Machine_combine : Addr
  d_Machine_move : Addr
  d_Machine_jump : Addr
  d_Machine_settle : Addr
  d_Machine_perform : Addr
  d_Machine_finish : Addr
  d_law_cell : Addr
  d_law_is_integer : Addr
  d_law_row : Addr
  d_law_reckon : Addr
  d_law_need : Addr
  d_law_act : Addr
  d_law_sign : Addr
  d_law_run : Addr
  C_Failed : Addr
  P_OF_TWO : Addr
structure Txt (K : PySem.W.Frag) (mg : Str → Option Value) (a : Ads) : Prop where
  n_len : mg "len" = none
  n_range : mg "range" = none
  n_isinstance : mg "isinstance" = none
  n_int : mg "int" = none
  n_bool : mg "bool" = none
  n_list : mg "list" = none
  n_tuple : mg "tuple" = none
  n_str : mg "str" = none
  n_dict : mg "dict" = none
  n_sorted : mg "sorted" = none
  n_max : mg "max" = none
  c_DIGITS : ∃ t, mg "DIGITS" = some (.str "0123456789" t)
  c_MODULUS : ∃ t, mg "MODULUS" = some (.int 1000000 t)
  c_MOST_VALUES : ∃ t, mg "MOST_VALUES" = some (.int 16 t)
  c_MOST_STEPS : ∃ t, mg "MOST_STEPS" = some (.int 200 t)
  g_Run : mg "Run" = some (.ref a.C_Run)
  cl_Run : Cls K a.C_Run
  kc_Run : PySem.W.keepIn K (.ref a.C_Run) = true
  mk_Run : PySem.W.makesIn K a.C_Run = true
  a_Run_well : NoAttr K a.C_Run "well"
  a_Run_store : NoAttr K a.C_Run "store"
  a_Run_paid : NoAttr K a.C_Run "paid"
  a_Run_steps : NoAttr K a.C_Run "steps"
  g_Machine : mg "Machine" = some (.ref a.C_Machine)
  cl_Machine : Cls K a.C_Machine
  kc_Machine : PySem.W.keepIn K (.ref a.C_Machine) = true
  mk_Machine : PySem.W.makesIn K a.C_Machine = true
  a_Machine_code : NoAttr K a.C_Machine "code"
  a_Machine_given : NoAttr K a.C_Machine "given"
  a_Machine_amount : NoAttr K a.C_Machine "amount"
  a_Machine_store : NoAttr K a.C_Machine "store"
  a_Machine_stack : NoAttr K a.C_Machine "stack"
  a_Machine_place : NoAttr K a.C_Machine "place"
  a_Machine_paid : NoAttr K a.C_Machine "paid"
  a_Machine_steps : NoAttr K a.C_Machine "steps"
  d_Run_init : MethAt K a.C_Run "__init__" "Run.__init__" s_Run_init ["self", "well", "store", "paid", "steps"] a.d_Run_init
  d_run : DefAt K mg "run" s_run ["code", "given", "amount", "store"] a.d_run
  d_plus : DefAt K mg "_plus" s_plus ["left", "right"] a.d_plus
  d_minus : DefAt K mg "_minus" s_minus ["left", "right"] a.d_minus
  d_times : DefAt K mg "_times" s_times ["left", "right"] a.d_times
  d_append_digit : DefAt K mg "_append_digit" s_append_digit ["left", "right"] a.d_append_digit
  d_is_less : DefAt K mg "_is_less" s_is_less ["left", "right"] a.d_is_less
  d_is_equal : DefAt K mg "_is_equal" s_is_equal ["left", "right"] a.d_is_equal
  d_Machine_init : MethAt K a.C_Machine "__init__" "Machine.__init__" s_Machine_init ["self", "code", "given", "amount", "store"] a.d_Machine_init
  d_Machine_push : MethAt K a.C_Machine "push" "Machine.push" s_Machine_push ["self", "value"] a.d_Machine_push
  d_Machine_take : MethAt K a.C_Machine "take" "Machine.take" s_Machine_take ["self"] a.d_Machine_take
  d_Machine_push_number : MethAt K a.C_Machine "push_number" "Machine.push_number" s_Machine_push_number ["self", "sign"] a.d_Machine_push_number
  d_Machine_combine : MethAt K a.C_Machine "combine" "Machine.combine" s_Machine_combine ["self", "sign"] a.d_Machine_combine
  d_Machine_move : MethAt K a.C_Machine "move" "Machine.move" s_Machine_move ["self", "sign"] a.d_Machine_move
  d_Machine_jump : MethAt K a.C_Machine "jump" "Machine.jump" s_Machine_jump ["self", "sign"] a.d_Machine_jump
  d_Machine_settle : MethAt K a.C_Machine "settle" "Machine.settle" s_Machine_settle ["self", "sign"] a.d_Machine_settle
  d_Machine_perform : MethAt K a.C_Machine "perform" "Machine.perform" s_Machine_perform ["self", "sign"] a.d_Machine_perform
  d_Machine_finish : MethAt K a.C_Machine "finish" "Machine.finish" s_Machine_finish ["self"] a.d_Machine_finish
  d_law_cell : DefAt K mg "_law_cell" s_law_cell ["script", "k"] a.d_law_cell
  d_law_is_integer : DefAt K mg "_law_is_integer" s_law_is_integer ["actual"] a.d_law_is_integer
  d_law_row : DefAt K mg "_law_row" s_law_row ["cell", "count", "size"] a.d_law_row
  d_law_reckon : DefAt K mg "_law_reckon" s_law_reckon ["sign", "left", "right"] a.d_law_reckon
  d_law_need : DefAt K mg "_law_need" s_law_need ["sign"] a.d_law_need
  d_law_act : DefAt K mg "_law_act" s_law_act ["sign", "top", "stack", "store", "state"] a.d_law_act
  d_law_sign : DefAt K mg "_law_sign" s_law_sign ["sign", "given", "amount", "stack", "store", "state"] a.d_law_sign
  d_law_run : DefAt K mg "_law_run" s_law_run ["code", "given", "amount", "store"] a.d_law_run
theorem Txt.m_Run {K : PySem.W.Frag} {mg : Str → Option Value} {a : Ads} (T : Txt K mg a) : Mk K a.C_Run a.d_Run_init := ⟨T.mk_Run, T.d_Run_init.fi, T.d_Run_init.isf, T.kc_Run⟩
theorem Txt.m_Machine {K : PySem.W.Frag} {mg : Str → Option Value} {a : Ads} (T : Txt K mg a) : Mk K a.C_Machine a.d_Machine_init := ⟨T.mk_Machine, T.d_Machine_init.fi, T.d_Machine_init.isf, T.kc_Machine⟩
theorem Txt.me_Machine_push {K : PySem.W.Frag} {mg : Str → Option Value} {a : Ads} (T : Txt K mg a) : Meth K a.C_Machine "push" a.d_Machine_push := ⟨T.d_Machine_push.fi, T.d_Machine_push.isf, T.d_Machine_push.kp⟩
theorem Txt.me_Machine_take {K : PySem.W.Frag} {mg : Str → Option Value} {a : Ads} (T : Txt K mg a) : Meth K a.C_Machine "take" a.d_Machine_take := ⟨T.d_Machine_take.fi, T.d_Machine_take.isf, T.d_Machine_take.kp⟩
theorem Txt.me_Machine_push_number {K : PySem.W.Frag} {mg : Str → Option Value} {a : Ads} (T : Txt K mg a) : Meth K a.C_Machine "push_number" a.d_Machine_push_number := ⟨T.d_Machine_push_number.fi, T.d_Machine_push_number.isf, T.d_Machine_push_number.kp⟩
theorem Txt.me_Machine_combine {K : PySem.W.Frag} {mg : Str → Option Value} {a : Ads} (T : Txt K mg a) : Meth K a.C_Machine "combine" a.d_Machine_combine := ⟨T.d_Machine_combine.fi, T.d_Machine_combine.isf, T.d_Machine_combine.kp⟩
theorem Txt.me_Machine_move {K : PySem.W.Frag} {mg : Str → Option Value} {a : Ads} (T : Txt K mg a) : Meth K a.C_Machine "move" a.d_Machine_move := ⟨T.d_Machine_move.fi, T.d_Machine_move.isf, T.d_Machine_move.kp⟩
theorem Txt.me_Machine_jump {K : PySem.W.Frag} {mg : Str → Option Value} {a : Ads} (T : Txt K mg a) : Meth K a.C_Machine "jump" a.d_Machine_jump := ⟨T.d_Machine_jump.fi, T.d_Machine_jump.isf, T.d_Machine_jump.kp⟩
theorem Txt.me_Machine_settle {K : PySem.W.Frag} {mg : Str → Option Value} {a : Ads} (T : Txt K mg a) : Meth K a.C_Machine "settle" a.d_Machine_settle := ⟨T.d_Machine_settle.fi, T.d_Machine_settle.isf, T.d_Machine_settle.kp⟩
theorem Txt.me_Machine_perform {K : PySem.W.Frag} {mg : Str → Option Value} {a : Ads} (T : Txt K mg a) : Meth K a.C_Machine "perform" a.d_Machine_perform := ⟨T.d_Machine_perform.fi, T.d_Machine_perform.isf, T.d_Machine_perform.kp⟩
theorem Txt.me_Machine_finish {K : PySem.W.Frag} {mg : Str → Option Value} {a : Ads} (T : Txt K mg a) : Meth K a.C_Machine "finish" a.d_Machine_finish := ⟨T.d_Machine_finish.fi, T.d_Machine_finish.isf, T.d_Machine_finish.kp⟩
section
open PyProof.Rows
/-! ### own rules: set(list of ints), k in that set; enumerate(a tuple) -/
theorem any_firstMet (zs : List Int) (k : Int) : (PyProof.Rows.firstMet (fun i => zs.getD i 0) zs.length).any (· == k) = decide (k ∈ zs) := by
  rw [PyProof.Rows.firstMet_any, Bool.eq_iff_iff, List.any_eq_true, decide_eq_true_iff]
  constructor
  · rintro ⟨y, hy, e⟩
    obtain ⟨i, hi, rfl⟩ := List.mem_map.mp hy
    have hi' : i < zs.length := List.mem_range.mp hi
    have e' : zs.getD i 0 = k := by simpa using e
    rw [← e', List.getD_eq_getElem?_getD, List.getElem?_eq_getElem hi']
    exact List.getElem_mem hi'
  · intro hk
    obtain ⟨i, hi, e⟩ := List.getElem_of_mem hk
    refine ⟨k, List.mem_map.mpr ⟨i, List.mem_range.mpr hi, ?_⟩, by simp⟩
    show zs.getD i 0 = k
    rw [List.getD_eq_getElem?_getD, List.getElem?_eq_getElem hi]
    exact e
/-- set(xs), xs a list of ints -/
def rSetOfL (K : PySem.W.Frag) : List V → Hp → VK → Prop := fun vs H Q => ∃ (l : Addr) (zs : List Int), vs = [V.ref l] ∧ SqL K H l (zs.map V.int) ∧ zs.length ≤ 1000 ∧
  ∀ (p : Addr) (n : Nat), H p = Option.none → Q (.ref p) (upd H p (.set (fun k => decide (k ∈ zs)) n))
theorem cr_set {X : Cx} (calm : X.calm = true) : CallR X (.type "set") (rSetOfL X.K) := by
  intro pins sh σ H vs us Q I rel hyp
  obtain ⟨l, zs, rfl, hl, few, q⟩ := hyp
  rw [Vals.ref1 rel]
  obtain ⟨its, rv, pl, _⟩ := I.list hl
  have isI := ints_of_vals rv
  have same : its.toArray.size = zs.length := by
    have e := rv.length
    rw [List.length_map] at e
    rw [List.size_toArray]
    exact e.symm
  refine PySem.call_set_list (items := its.toArray) (ns := zs) (I.ok.hd calm) pl.isList (by simpa using isI) (by rw [same]; unfold scanBound; omega) fun h' tk S kp => ?_
  have fresh : H sh.heap.objs.size = Option.none := I.hok.fresh (Nat.le_refl _)
  have e : (fun k => (PyProof.Rows.firstMet (fun i => zs.getD i 0) its.toArray.size).any (· == k)) = fun k => decide (k ∈ zs) := by
    funext k
    rw [same]
    exact any_firstMet zs k
  rw [e] at S
  exact ⟨.ref sh.heap.objs.size, upd H sh.heap.objs.size (.set (fun k => decide (k ∈ zs)) _), I.laid (t' := tk) (fun b o ho => kp b o (Heap.lt_size ho) ho) (Nat.le_refl _) S, rfl, q _ _ fresh⟩
/-- k in such a set -/
def rInSt (neg : Bool) : R2 := fun x y H Q => ∃ (k : Int) (b : Addr) (S : Int → Bool) (n : Nat), x = V.int k ∧ y = V.ref b ∧ H b = some (.set S n) ∧ Q (.bl (if neg then !S k else S k)) H
theorem op_in_set {X : Cx} : OpR X (compareOp .In) (rInSt false) := by
  intro pins sh σ H x y v u Q I r1 r2 hyp
  obtain ⟨k, b, S, n, rfl, rfl, hb, q⟩ := hyp
  obtain ⟨tk, rfl⟩ := r1
  cases r2
  have hS : sh.heap.SetOf (intKind X.prog X.w) b S n := I.hok b _ hb
  exact PySem.wpAny_inSet_of (PySem.intKind_is _ _ _ _) rfl hS ⟨.bl (S k), H, I.tok _, rfl, q⟩
/-- the pairs of enumerate over the tuple at a -/
def Itu (K : PySem.W.Frag) (a : Addr) : It where
  go i H := ∃ (ys : List V) (y : V), SqT K H a ys ∧ ys[i]? = some y
  yld i H v H' := ∃ (p : Addr) (y : V), v = .ref p ∧ H p = Option.none ∧ H' = upd H p (.tup [.int (i : Nat), y]) ∧ ∀ ys, SqT K H a ys → ys[i]? = some y
  stop i H := ∃ ys : List V, SqT K H a ys ∧ ys.length = i
theorem turn_enumT {P : Program} {w : World} {K : PySem.W.Frag} {elts : List Expr} {kk : Nat} {tpos : Pos} (a en it : Addr) (na : a ≠ it) (ne : en ≠ it) (nea : en ≠ a) :
    Turn P w K (.Tuple elts kk tpos) (Itu K a) [en, it] en (fun i h => (∃ old, IsEnum h en it ((i : Nat) : Int) old) ∧ h.IsTupleIter it a i) where
  mem := List.mem_cons_self
  obj := by
    rintro i h ⟨⟨old, he⟩, ⟨o, ho, hc, hd⟩⟩ b hb
    rcases List.mem_cons.mp hb with rfl | hb
    · exact ⟨_, he, fun v z => nomatch z⟩
    · rw [List.mem_singleton.mp hb]
      exact ⟨o, ho, fun v z => by rw [hd] at z; cases z⟩
  keep := by
    rintro i h h' ⟨⟨old, he⟩, hi⟩ kp
    exact ⟨⟨old, kp en List.mem_cons_self _ he⟩, hi.at fun o z => kp it (List.mem_cons_of_mem _ List.mem_cons_self) o z⟩
  item := by
    intro X hP hw hK calm i pins sh σ H E I fp st hg
    subst hP hw hK
    obtain ⟨⟨old, he⟩, hit⟩ := st
    obtain ⟨ys, y, hy, hix⟩ := hg
    obtain ⟨its, rv, tp, _⟩ := I.tuple hy
    obtain ⟨u, hu, ru⟩ := rv.get hix
    have hT : sh.heap.IsTuple a its.toArray := tp
    have hlen : i < its.toArray.size := by
      rw [List.size_toArray]
      exact (List.getElem?_eq_some_iff.mp hu).1
    have len : en < sh.heap.objs.size := Heap.lt_size he
    have lit : it < sh.heap.objs.size := by
      obtain ⟨_, z, _⟩ := hit
      exact Heap.lt_size z
    refine wpAny_pyNext_enum_itemD (Draws.tuple (by simp [I.ok.hd calm]) it a na its.toArray) he ⟨hit, hT⟩ hlen ne (by simp [ne, nea]) fun x h' tk hx ho hst hnew hsz kp => ?_
    have ex : x = u := by
      rw [List.getElem?_toArray, hu] at hx
      exact (Option.some.inj hx).symm
    subst ex
    refine ⟨_, rfl, wpAny_letOwnedTupleGo_enum (s := { sh with heap := h', toks := tk + 1 }) ho fun h2 he2 sb => ?_⟩
    have new2 : h2.get? sh.heap.objs.size = some { cls := .type "tuple", data := .seq #[.int i tk, x] } := (sb.2 _ (Nat.ne_of_gt len)).trans hnew
    have okN : ObjOk X.prog X.w (upd H sh.heap.objs.size (.tup [.int (i : Nat), y])) h2 sh.heap.objs.size (.tup [.int (i : Nat), y]) := by
      refine ⟨(by show 2 ≤ sizeLine; decide), [.int i tk, x], .cons ⟨_, rfl⟩ (.cons ru .nil), ?_⟩
      exact ⟨_, new2, rfl, _, rfl⟩
    have I2 : Inv X pins σ (upd H sh.heap.objs.size (.tup [.int (i : Nat), y])) { sh with heap := h2, toks := tk + 1 } := by
      refine I.turnedNew (ch := [en, it]) (fun b ob hb z => ?_) fp (Nat.le_refl _) okN
      have b1 : b ≠ en := fun q => hb (by rw [q]; exact List.mem_cons_self)
      have b2 : b ≠ it := fun q => hb (by rw [q]; exact List.mem_cons_of_mem _ List.mem_cons_self)
      exact (sb.2 b b1).trans (kp b ob b1 b2 z)
    refine ⟨.ref sh.heap.objs.size, _, I2, rfl, ⟨_, y, rfl, I.hok.fresh (Nat.le_refl _), rfl, fun zs hz => ?_⟩, ⟨⟨x, ?_⟩, hst.1.at fun o z => (sb.2 it (Ne.symm ne)).trans z⟩, fun b hb => ?_⟩
    · rw [I.tuple_inj hz hy]
      exact hix
    · have e1 : ((i + 1 : Nat) : Int) = (i : Int) + 1 := by omega
      rw [e1]
      exact he2
    · have lb : b < sh.heap.objs.size := by
        rcases List.mem_cons.mp hb with rfl | hb
        · exact len
        · rw [List.mem_singleton.mp hb]
          exact lit
      rw [upd_ne (Nat.ne_of_lt lb)]
      exact (fp b hb).1
  done := by
    intro X hP hw hK calm i pins sh σ H E I fp st hg
    subst hP hw hK
    obtain ⟨⟨old, he⟩, hit⟩ := st
    obtain ⟨ys, hy, rfl⟩ := hg
    obtain ⟨its, rv, tp, _⟩ := I.tuple hy
    have hT : sh.heap.IsTuple a its.toArray := tp
    have e : ys.length = its.toArray.size := by
      rw [List.size_toArray]
      exact rv.length
    rw [e] at hit
    obtain ⟨g0, g1, g2, g3, g4, g5⟩ := fp it (List.mem_cons_of_mem _ List.mem_cons_self)
    exact wpAny_pyNext_enum_endD (Draws.tuple (by simp [I.ok.hd calm]) it a na its.toArray) he ⟨hit, hT⟩ fun h' eb => ⟨rfl, I.turned (t' := sh.toks) (fun b o hb z => eb b o hb z) g0 g1 g3 g4 g5⟩
  self := by
    rintro A i s Q E ⟨⟨_, he⟩, _⟩ h
    exact wpAny_pyIter_enum he h
theorem meets_enum1 {v : Value} {o : Obj} {Z : Heap → Prop} (B : Begins v o Z) :
    Meets (Builtin.«enumerate.__new__» ⟨[.type "enumerate", v], []⟩) (fun _ R s => Z s.heap ∧
      R (.ok (.ret (.ref (s.heap.push o).objs.size))) { s with heap := (s.heap.push o).push { cls := .type "enumerate", data := .fields #[.none, .bool false, .ref s.heap.objs.size, rawInt 0, .none, .none] } }) :=
  .of_wp fun prog w A R s hyp => by
    obtain ⟨hp, g, d, tk, os⟩ := s
    obtain ⟨hz, hyp⟩ := hyp
    have sube := sub_enumerate
    have step : ∀ {A' : Around} {E' : Value → Shared → Prop} {Q' : Value → Shared → Prop}, Q' (.ref hp.objs.size) ⟨hp.push o, g, d, tk, os⟩ → wpAny (model prog w) A' (pyIter v) Q' E' ⟨hp, g, d, tk, os⟩ :=
      fun z => B.iter prog w _ _ ⟨hp, g, d, tk, os⟩ _ hz z
    wp_walk using step
    refine wpAny_stack_any fun st => wpAny_pure ?_
    split
    · rename_i c _ _ _ _ _
      cases (c == Value.type "enumerate") <;> (wp_walk using step; exact ⟨_, rfl, hyp⟩)
    · wp_walk using step
      exact ⟨_, rfl, hyp⟩
theorem call_enum1 {prog : Program} {w : World} {A : Around} {E : Value → Shared → Prop} {s : Shared} {v : Value} {o : Obj} {Z : Heap → Prop} {Q : Value → Shared → Prop} (B : Begins v o Z) (hz : Z s.heap)
    (fin : ∀ h', IsEnum h' (s.heap.objs.size + 1) s.heap.objs.size 0 .none → h'.get? s.heap.objs.size = some o → (∀ b u, s.heap.get? b = some u → h'.get? b = some u) → Q (.ref (s.heap.objs.size + 1)) { s with heap := h' }) :
    wpAny (model prog w) A (call (.type "enumerate") [v]) Q E s := by
  have size1 : (s.heap.push o).objs.size = s.heap.objs.size + 1 := Heap.size_push ..
  refine callType_new F.called_enumerate (by decide) (F.typeCall_enumerate_1 _) (F.newCall_enumerate_1 _) (fun obj => F.args_object_init_2 obj _) F.entry_enumerate_new (meets_enum1 B) ⟨hz, ?_⟩
  rw [size1]
  have isE : IsEnum ((s.heap.push o).push { cls := .type "enumerate", data := .fields #[.none, .bool false, .ref s.heap.objs.size, rawInt 0, .none, .none] }) (s.heap.objs.size + 1) s.heap.objs.size 0 .none := by
    have z := Heap.get?_push_size (s.heap.push o) (o := { cls := .type "enumerate", data := .fields #[.none, .bool false, .ref s.heap.objs.size, rawInt 0, .none, .none] }) rfl
    rwa [size1] at z
  exact ⟨⟨_, isE, rfl⟩, fin _ isE (Heap.get?_push_of_some _ (Heap.get?_push_size _ B.free)) fun b u z => Heap.get?_push_of_some _ (Heap.get?_push_of_some _ z)⟩
def iEnumT (K : PySem.W.Frag) (ta : TA) : TI := fun σ H R => ta σ H fun vs H1 => ∃ (a : Addr) (ys : List V), vs = [.ref a] ∧ SqT K H1 a ys ∧ R (Itu K a) H1
theorem pi_enumT {X : Cx} {e : Expr} {ta : TA} {p pos tpos : Pos} {elts : List Expr} {kk : Nat} (gl : Gl X "enumerate") (no : X.mg "enumerate" = none) (pa : PA X [e] ta) (plain : starEach [e] X.env = [(false, eval e X.env)] := by rfl) :
    PI X (.Tuple elts kk tpos) (.Call (.Name "enumerate" p) [e] [] pos) (iEnumT X.K ta) := by
  constructor
  intro pins s σ H R I hyp
  refine PyProof.Rows.Call_ (ld_blt I gl no boot_enumerate (PyProof.Rows.callWith_type1 (thn (pa.run pos pins s σ H _ I hyp) fun us s1 got => ?_) plain rfl))
  obtain ⟨vs, H1, I1, rel, a, ys, rfl, hy, q⟩ := got
  rw [Vals.ref1 rel]
  obtain ⟨its, rv, tp, _⟩ := I1.tuple hy
  have hT : s1.heap.IsTuple a its.toArray := tp
  have la : a < s1.heap.objs.size := by
    obtain ⟨_, z, _⟩ := hT
    exact Heap.lt_size z
  refine call_enum1 (begins_tuple a its.toArray) hT fun h' isE hit kp => wpAny_pyIter_enum isE ?_
  have I2 : Inv X pins σ H1 { s1 with heap := h' } := I1.kept (t' := s1.toks) kp
  refine ⟨s1.heap.objs.size + 1, [s1.heap.objs.size + 1, s1.heap.objs.size], _, _, H1, rfl, I2, turn_enumT a (s1.heap.objs.size + 1) s1.heap.objs.size (Nat.ne_of_lt la) (Nat.succ_ne_self _) (Nat.ne_of_gt (Nat.lt_succ_of_lt la)), ⟨⟨.none, isE⟩, _, hit, rfl, rfl⟩, fun b hb => ?_, q⟩
  have le : s1.heap.objs.size ≤ b := by
    rcases List.mem_cons.mp hb with rfl | hb
    · exact Nat.le_succ _
    · rw [List.mem_singleton.mp hb]
      exact Nat.le_refl _
  exact I1.fpOk le (I1.hok.fresh le)
/-- the forms that one uses: a word by the turn -/
theorem for_enumT {K : PySem.W.Frag} {a : Addr} {ys : List V} {g : TG} {tb : TS} {D : Ends} {σ : L2.St} {H : Hp} (Pv : Nat → L2.St → Hp → Prop) (h0 : Pv 0 σ H) (src : ∀ i σ H, i ≤ ys.length → Pv i σ H → SqT K H a ys)
    (turn : ∀ i y σ H p, ys[i]? = some y → Pv i σ H → H p = Option.none → g (.ref p) σ (upd H p (.tup [.int (i : Nat), y])) fun σ2 H2 => tb { D with nx := Pv (i + 1), ct := Pv (i + 1), bk := D.nx } σ2 H2) (fin : ∀ σ H, Pv ys.length σ H → D.nx σ H) :
    ∃ W : Nat → Nat → L2.St → Hp → Prop, (∃ m, W 0 m σ H) ∧ ∀ i m σ H, W i m σ H →
      ((Itu K a).stop i H ∧ D.nx σ H) ∨ ((Itu K a).go i H ∧ ∃ N : L2.St → Hp → Prop, (∀ σ' H', N σ' H' → ∃ m', m' < m ∧ W (i + 1) m' σ' H') ∧ ∀ x H', (Itu K a).yld i H x H' → g x σ H' fun σ2 H2 => tb { D with nx := N, ct := N, bk := D.nx } σ2 H2) := by
  refine ⟨fun i m σ H => m + i = ys.length ∧ Pv i σ H, ⟨ys.length, Nat.add_zero _, h0⟩, ?_⟩
  rintro i m σ H ⟨em, pv⟩
  have s := src i σ H (by omega) pv
  rcases Nat.lt_or_ge i ys.length with lt | ge
  · refine .inr ⟨⟨ys, ys[i], s, List.getElem?_eq_getElem lt⟩, Pv (i + 1), fun σ' H' z => ⟨m - 1, by omega, by omega, z⟩, ?_⟩
    rintro x H' ⟨p, y, rfl, hp, rfl, hy⟩
    exact turn i y σ H p (hy ys s) pv hp
  · have e : i = ys.length := by omega
    subst e
    exact .inl ⟨⟨ys, s, rfl⟩, fin σ H pv⟩
theorem lc_enumT {K : PySem.W.Frag} {a : Addr} {ys : List V} {g : TG} {tt : TT} {te : TE} {vs : List Nat} {σ : L2.St} {H1 : Hp} {D : Addr} {Qd : Hp → Prop} (Pv : Nat → Hp → Prop) (h0 : Pv 0 (upd H1 D (.lst []))) (src : ∀ i H, i ≤ ys.length → Pv i H → SqT K H a ys)
    (turn : ∀ i y H p, ys[i]? = some y → Pv i H → H p = Option.none → g (.ref p) (wipe σ vs) (upd H p (.tup [.int (i : Nat), y])) fun σ2 H2 => wipe σ2 vs = wipe σ vs ∧ tt σ2 H2 fun b H3 =>
      if b = true then te σ2 H3 fun y H4 => ∃ acc, H4 D = some (.lst acc) ∧ acc.length < sizeLine ∧ Pv (i + 1) (upd H4 D (.lst (acc ++ [y]))) else Pv (i + 1) H3) (fin : ∀ H, Pv ys.length H → Qd H) :
    ∃ W : Nat → Nat → Hp → Prop, (∃ m, W 0 m (upd H1 D (.lst []))) ∧ ∀ i m H, W i m H →
      ((Itu K a).stop i H ∧ Qd H) ∨ ((Itu K a).go i H ∧ ∃ Nx : Hp → Prop, (∀ H', Nx H' → ∃ m', m' < m ∧ W (i + 1) m' H') ∧ ∀ x H', (Itu K a).yld i H x H' → g x (wipe σ vs) H' fun σ2 H2 => wipe σ2 vs = wipe σ vs ∧ tt σ2 H2 fun b H3 =>
        if b = true then te σ2 H3 fun y H4 => ∃ acc, H4 D = some (.lst acc) ∧ acc.length < sizeLine ∧ Nx (upd H4 D (.lst (acc ++ [y]))) else Nx H3) := by
  refine ⟨fun i m H => m + i = ys.length ∧ Pv i H, ⟨ys.length, Nat.add_zero _, h0⟩, ?_⟩
  rintro i m H ⟨em, pv⟩
  have s := src i H (by omega) pv
  rcases Nat.lt_or_ge i ys.length with lt | ge
  · refine .inr ⟨⟨ys, ys[i], s, List.getElem?_eq_getElem lt⟩, Pv (i + 1), fun H' z => ⟨m - 1, by omega, by omega, z⟩, ?_⟩
    rintro x H' ⟨p, y, rfl, hp, rfl, hy⟩
    exact turn i y H p (hy ys s) pv hp
  · have e : i = ys.length := by omega
    subst e
    exact .inl ⟨⟨ys, s, rfl⟩, fin H pv⟩
/-- sum(t), t a tuple of ints -/
def rSumT (K : PySem.W.Frag) : List V → Hp → VK → Prop := fun vs H Q => ∃ (a : Addr) (zs : List Int), vs = [V.ref a] ∧ SqT K H a (zs.map V.int) ∧ Q (.int zs.sum) H
theorem cr_sumT {X : Cx} (calm : X.calm = true) : CallR X (.builtin "sum") (rSumT X.K) := by
  intro pins sh σ H vs us Q I rel hyp
  obtain ⟨a, zs, rfl, hz, q⟩ := hyp
  rw [Vals.ref1 rel]
  obtain ⟨its, rv, tp, _⟩ := I.tuple hz
  have hT : sh.heap.IsTuple a its.toArray := tp
  have isI : IntsAre its zs := Vals.ints rv
  obtain ⟨xs, ex⟩ := isI.allInts.items
  have en : numsOf (intItems xs).toList = zs := by
    rw [← ex]
    exact isI.numsOf
  rw [nums_intItems] at en
  rw [ex] at hT
  refine PySem.W.ktm_sumG (I.ok.hd calm) hT fun h' tk t' kp => ?_
  rw [preSum_eq, List.take_of_length_le (by simp), en]
  exact ⟨.int zs.sum, H, I.kept kp, ⟨_, rfl⟩, q⟩
/-- enumerate over a list, by a word -/
theorem for_enumL {K : PySem.W.Frag} {a : Addr} {ys : List V} {g : TG} {tb : TS} {D : Ends} {σ : L2.St} {H : Hp} (Pv : Nat → L2.St → Hp → Prop) (h0 : Pv 0 σ H) (src : ∀ i σ H, i ≤ ys.length → Pv i σ H → SqL K H a ys)
    (turn : ∀ i y σ H p, ys[i]? = some y → Pv i σ H → H p = Option.none → g (.ref p) σ (upd H p (.tup [.int (i : Nat), y])) fun σ2 H2 => tb { D with nx := Pv (i + 1), ct := Pv (i + 1), bk := D.nx } σ2 H2) (fin : ∀ σ H, Pv ys.length σ H → D.nx σ H) :
    ∃ W : Nat → Nat → L2.St → Hp → Prop, (∃ m, W 0 m σ H) ∧ ∀ i m σ H, W i m σ H →
      ((Ite K a).stop i H ∧ D.nx σ H) ∨ ((Ite K a).go i H ∧ ∃ N : L2.St → Hp → Prop, (∀ σ' H', N σ' H' → ∃ m', m' < m ∧ W (i + 1) m' σ' H') ∧ ∀ x H', (Ite K a).yld i H x H' → g x σ H' fun σ2 H2 => tb { D with nx := N, ct := N, bk := D.nx } σ2 H2) := by
  refine ⟨fun i m σ H => m + i = ys.length ∧ Pv i σ H, ⟨ys.length, Nat.add_zero _, h0⟩, ?_⟩
  rintro i m σ H ⟨em, pv⟩
  have s := src i σ H (by omega) pv
  rcases Nat.lt_or_ge i ys.length with lt | ge
  · refine .inr ⟨⟨ys, ys[i], s, List.getElem?_eq_getElem lt⟩, Pv (i + 1), fun σ' H' z => ⟨m - 1, by omega, by omega, z⟩, ?_⟩
    rintro x H' ⟨p, y, rfl, hp, rfl, hy⟩
    exact turn i y σ H p (hy ys s) pv hp
  · have e : i = ys.length := by omega
    subst e
    exact .inl ⟨⟨ys, s, Nat.le_refl _⟩, fin σ H pv⟩
/-- k in xs, xs a list of ints -/
theorem inV_ints (zs : List Int) (k : Int) : inV (V.int k) (zs.map V.int) = decide (k ∈ zs) := by
  induction zs with
  | nil => rfl
  | cons a r ih =>
    have e : inV (V.int k) ((a :: r).map V.int) = (eqV (V.int a) (V.int k) || inV (V.int k) (r.map V.int)) := rfl
    rw [e, ih]
    by_cases h : a = k
    · subst h
      simp [eqV]
    · have h' : ¬ k = a := fun z => h z.symm
      simp [eqV, h, h']
theorem flat_ints (zs : List Int) : (zs.map V.int).all flatV = true := by
  rw [List.all_eq_true]
  intro x hx
  obtain ⟨z, _, rfl⟩ := List.mem_map.mp hx
  rfl
end

/-! ### x in a dict of the module, x a text -/
section
open PyProof.Rows
/-- b: whether the dict has the key -/
def KHas (K : PySem.W.Frag) (w : World) (a : Addr) (x : Str) (b : Bool) : Prop := ∃ es n r, K.lookup a = some ⟨.type "dict", none, .dict es n, #[]⟩ ∧ PySem.W.KeysLit w.params es.toList ∧ (a == sysModules) = false ∧ PySem.W.nsIn K a x = some r ∧ b = r.isSome
theorem op_inKd {X : Cx} : OpR X (compareOp .In) (fun x y H Q => ∃ p z b, x = .str z ∧ y = .ref p ∧ KHas X.K X.w p z b ∧ Q (.bl b) H) := by
  intro pins s σ H x y v u Q I rx ry h
  obtain ⟨p, z, b, rfl, rfl, ⟨es, n, r, hl, hk, low, e, rfl⟩, q⟩ := h
  obtain ⟨t, rfl⟩ := rx
  obtain rfl : u = Value.ref p := ry
  refine wpAny_in_of (strKind_is X.prog X.w z t) low (PySem.W.mapOf_K (prog := X.prog) (w := X.w) I.kIn hl hk) ?_
  rw [PySem.W.find_K hl e]
  exact ⟨.bl _, H, I.tok _, rfl, q⟩
theorem op_notInKd {X : Cx} : OpR X (compareOp .NotIn) (fun x y H Q => ∃ p z b, x = .str z ∧ y = .ref p ∧ KHas X.K X.w p z b ∧ Q (.bl (!b)) H) := by
  intro pins s σ H x y v u Q I rx ry h
  obtain ⟨p, z, b, rfl, rfl, ⟨es, n, r, hl, hk, low, e, rfl⟩, q⟩ := h
  obtain ⟨t, rfl⟩ := rx
  obtain rfl : u = Value.ref p := ry
  refine wpAny_notIn_of (strKind_is X.prog X.w z t) low (PySem.W.mapOf_K (prog := X.prog) (w := X.w) I.kIn hl hk) ?_
  rw [PySem.W.find_K hl e]
  exact ⟨.bl _, H, I.tok _, rfl, q⟩
end
section
open PyProof.Rows
theorem nsIn_dict {K : PySem.W.Frag} {P : Params} {a : Addr} {es : Array DictEntry} {n : Nat} (hl : K.lookup a = some ⟨.type "dict", none, .dict es n, #[]⟩) (hk : PySem.W.KeysLit P es.toList) (x : Str) :
    PySem.W.nsIn K a x = some ((es.toList.find? fun d => d.key.isStr x).map (·.val)) := by
  unfold PySem.W.nsIn
  rw [hl]
  cases e : es.toList.find? fun d => d.key.isStr x with
  | some d => simp [e]
  | none =>
    have nr : (es.toList.any fun d => d.refKey) = false := by
      rw [List.any_eq_false]
      intro d hd
      obtain ⟨y, t, e1, _⟩ := hk.all d hd
      unfold DictEntry.refKey
      rw [e1]
      simp
    simp [e, nr]
/-- a dict of the module: its keys, texts, and what stands there -/
structure KTab (K : PySem.W.Frag) (w : World) (a : Addr) (kvs : List (Str × Addr)) : Prop where
  at_ : ∃ es n, K.lookup a = some ⟨.type "dict", none, .dict es n, #[]⟩ ∧ PySem.W.KeysLit w.params es.toList ∧ ∀ x : Str, (es.toList.find? fun d => d.key.isStr x).map (·.val) = (kvs.lookup x).map Value.ref
  low : (a == sysModules) = false
theorem KTab.has {K : PySem.W.Frag} {w : World} {a : Addr} {kvs : List (Str × Addr)} (h : KTab K w a kvs) (x : Str) : KHas K w a x (kvs.lookup x).isSome := by
  obtain ⟨es, n, hl, hk, e⟩ := h.at_
  refine ⟨es, n, _, hl, hk, h.low, nsIn_dict hl hk x, ?_⟩
  rw [e]
  cases kvs.lookup x <;> rfl
theorem KTab.get {K : PySem.W.Frag} {w : World} {a : Addr} {kvs : List (Str × Addr)} (h : KTab K w a kvs) {x : Str} {b : Addr} (hx : kvs.lookup x = some b) : KDct K w a x (.ref b) := by
  obtain ⟨es, n, hl, hk, e⟩ := h.at_
  have q := nsIn_dict hl hk x
  rw [e, hx] at q
  exact ⟨es, n, _, hl, hk, q, rfl⟩
theorem isStr_eq {x y : Str} {t : Tok} : (Value.str y t).isStr x = decide (x = y) := by
  show (y == x) = _
  by_cases h : x = y
  · rw [h, decide_eq_true rfl, beq_self_eq_true]
  · rw [decide_eq_false h, beq_eq_false_iff_ne.mpr fun e => h e.symm]
def TabEs : List DictEntry → List (Str × Addr) → Prop
  | [], [] => True
  | d :: l, kv :: r => (∃ t, d.key = .str kv.1 t ∧ d.val = .ref kv.2) ∧ TabEs l r
  | _, _ => False
theorem find_tab (x : Str) : ∀ {l : List DictEntry} {kvs : List (Str × Addr)}, TabEs l kvs → (l.find? fun d => d.key.isStr x).map (·.val) = (kvs.lookup x).map Value.ref
  | [], [], _ => rfl
  | d :: l, (k, b) :: r, h => by
    obtain ⟨⟨t, e1, e2⟩, hr⟩ := h
    have ih := find_tab x hr
    by_cases c : x = k
    · have c1 : d.key.isStr x = true := by rw [e1, isStr_eq, decide_eq_true c]
      rw [List.find?_cons_of_pos (p := fun d : DictEntry => d.key.isStr x) c1, c]
      simp [List.lookup, e2]
    · have c1 : ¬ d.key.isStr x = true := by rw [e1, isStr_eq, decide_eq_false c]; exact Bool.false_ne_true
      rw [List.find?_cons_of_neg (p := fun d : DictEntry => d.key.isStr x) c1, ih]
      have c2 : (x == k) = false := beq_eq_false_iff_ne.mpr c
      simp [List.lookup, c2]
theorem ktab_mk {K : PySem.W.Frag} {w : World} {a : Addr} {es : Array DictEntry} {n : Nat} {kvs : List (Str × Addr)} (hl : K.lookup a = some ⟨.type "dict", none, .dict es n, #[]⟩) (hk : PySem.W.KeysLit w.params es.toList) (low : (a == sysModules) = false) (he : TabEs es.toList kvs) : KTab K w a kvs :=
  ⟨⟨es, n, hl, hk, fun x => find_tab x he⟩, low⟩
end

/-! ### own errors without an own __init__: caught, asked -/
structure XcC (K : PySem.W.Frag) (D : Addr) : Prop where
  cl : (PySem.W.clsIn K D).isSome = true
  ga : PySem.W.findIn K (.ref D) "__getattribute__" = some (some (.builtin "BaseException.__getattribute__"))
  gt : PySem.W.findIn K (.ref D) "__getattr__" = some Option.none
  sub : PySem.W.subIn K (.ref D) (.type "BaseException") = some true
  has : PySem.W.hasDictIn K D = true
  cls : PySem.W.findIn K (.ref D) "__class__" = some (some (.builtin "object.__class__"))
  get : PySem.W.specialIn K (.builtin "object.__class__") "__get__" = some (some (.builtin "getset_descriptor.__get__"))
  tk : PySem.W.takesIn K (.builtin "object.__class__") = some true
  obj : PySem.W.mroIn K D (.type "object") = some true
def rIsN (K : PySem.W.Frag) (a : Addr) (cls : Value) (d : Option Addr) : List V → Hp → VK → Prop := fun xs H Q => ∃ (D : Addr) (c : V) (cv : Value) (b : Bool), xs = [.ref a, c] ∧ cls = .ref D ∧ d = Option.none ∧ XcC K D ∧ ClsV c cv ∧ PySem.W.kitOne K (.ref D) cv = some b ∧ Q (.bl b) H
theorem call_isN {X : Cx} {a : Addr} {cls : Value} {d : Option Addr} {oe : Obj} {pn : List (Addr × Obj)} (hz : Zc cls d oe) (hf : ∃ vs, oe.data = .fields vs) : CallR (X.suite a ((a, oe) :: pn)) (.builtin "isinstance") (rIsN X.K a cls d) := by
  intro pins sh σ H xs us Q I rel hyp
  obtain ⟨D, c, cv, b, rfl, rfl, rfl, C, hcv, e, q⟩ := hyp
  obtain ⟨u1, u2, rfl, r1, r2⟩ := vals2 rel
  have e2 := hcv.eq r2
  subst e2
  cases r1
  obtain ⟨got, _⟩ := I.pin (a, oe) (List.mem_append_left _ List.mem_cons_self)
  obtain ⟨vs, hv⟩ := hf
  have J : PySem.W.InstAt sh.heap a oe D Option.none := by
    obtain ⟨oc, odd, oda, osl⟩ := oe
    obtain ⟨h1, h2⟩ := hz
    dsimp only at h1 h2 hv
    subst h1 h2 hv
    exact ⟨got, rfl, rfl, trivial⟩
  exact PySem.W.kia_one (PySem.W.kitx_exc C.cl C.ga C.gt C.sub C.cls C.get C.tk C.obj) I.kIn J e (fun z => nomatch z) fun tk => ⟨.bl b, H, I.kept (t' := tk) fun _ _ z => z, rfl, q⟩

/-- e.f where the written part is told -/
theorem pe_fldK {X : Cx} {K : PySem.W.Frag} {e : Expr} {f : Str} {ta : TE} {pos : Pos} (hK : X.K = K) (he : PE X e ta) (hb : attributeBase e f X.env (eval e X.env) = eval e X.env) : PE X (.Attribute e f pos) (tFld K ta f) := by
  subst hK
  exact pe_fld he hb
/-- list(xs) where the written part is told -/
def rListOf (K : PySem.W.Frag) : List V → Hp → VK → Prop := fun zs H Q => ∃ (p : Addr) (ys : List V), zs = [V.ref p] ∧ (SqL K H p ys ∨ SqT K H p ys) ∧ (∀ l : Addr, H l = none → Q (.ref l) (upd H l (.lst ys)))
theorem cr_listK {X : Cx} {K : PySem.W.Frag} (hK : X.K = K) : CallR X (.type "list") (rListOf K) := by
  subst hK
  exact call_list_of
/-- len of a list or tuple where the written part is told -/
def rLenOf (K : PySem.W.Frag) : List V → Hp → VK → Prop := fun zs H Q => ∃ (p : Addr) (ys : List V), zs = [V.ref p] ∧ (SqL K H p ys ∨ SqT K H p ys) ∧ Q (.int (ys.length : Int)) H
theorem cr_lenK {X : Cx} {K : PySem.W.Frag} (hK : X.K = K) : CallR X (.builtin "len") (rLenOf K) := by
  subst hK
  exact call_len_seq
/-- o.m(e, ..), m of a built-in type, where the written part is told -/
theorem pe_bmK {X : Cx} {K : PySem.W.Frag} {T id : String} {name : Str} {r : V → List V → Hp → VK → Prop} {o e : Expr} {es : List Expr} {to : TE} {t : TA} {apos cpos : Pos} (hK : X.K = K) (pa : PySem.PlainAttrs T) (slot : PySem.Slot T name id) (hty : typeOf (.builtin id) = pure (.type "method_descriptor")) (hm : MtR X id r) (ho : PE X o to) (ha : PA X (e :: es) t)
    (hbase : attributeBase o name X.env (eval o X.env) = eval o X.env := by rfl)
    (hfew : ((backTo cpos (starEach (e :: es) X.env)).all (fun x => !x.1) && (backToKw cpos (keywordEach [] X.env)).all (fun x => x.1.isSome)
      && decide ((e :: es).length + ([] : List Keyword).length + (if ([] : List Keyword).isEmpty then 0 else 1) < 30)) = true := by rfl)
    (hline : (apos.endLine == cpos.line) = true := by rfl) (hs : starEach (e :: es) X.env = (false, eval e X.env) :: starEach es X.env := by rfl) (hplain : (backTo cpos (starEach es X.env)).any (·.1) = false := by rfl) :
    PE X (.Call (.Attribute o name apos) (e :: es) [] cpos) (tBM K T r to t) := by
  subst hK
  exact pe_bm pa slot hty hm ho ha hbase hfew hline hs hplain

/-! ### a def called while any exception is handled -/
structure FnW (P : Program) (w : World) (K : PySem.W.Frag) (mg : Str → Option Value) (base : Heap) (k : Nat) (f : Addr) (fd : FuncData) (ps : List Str) (sp : Sp) : Prop where
  len : ∀ vs H Q E, sp vs H Q E → vs.length = ps.length
  run : ∀ (A : Around) (out : List Env) (s : Shared) (H : Hp) (ar : Args) (us : List Value) (vs : List V) (Q : VK) (E : XK) (p : Addr × Obj), L2H.RoomH k A → L2H.PinOk out H s p → Env0 P w K mg base A out s H →
    BindsTo s fd ar (ps.zip us) → Vals vs us → sp vs H Q E → codeAny (model P w) A (.call (.ref f) ar) (CR CX0 out P w H s Q E) s
theorem fun_okW {P : Program} {w : World} {K : PySem.W.Frag} {mg : Str → Option Value} {base : Heap} {x qual : Str} {st : Stmt} {f : Addr} {fd : FuncData} {N ps : List Str} {k : Nat} {sp : Sp} (F : Fun K x qual st f fd) (S : FnScope N ps (defScope st))
    (len : ∀ vs H Q E, sp vs H Q E → vs.length = ps.length)
    (body : ∀ (cdv : Value) (A : Around) (out : List Env) (s : Shared) (H : Hp) (vs : List V) (Q : VK) (E : XK) (p : Addr × Obj), L2H.RoomH k (A.deeper (PyProof.Rows.envOfC qual (defScope st) s.heap.objs.size f cdv)) → sp vs H Q E →
      ∃ t, PSs (L2H.cxH CX0 P w K mg base N qual (defScope st) f cdv A out s H E p) (defBody st) t ∧ t { nx := fun _ H' => Q .non H', rt := Q } (start N vs) H) : FnW P w K mg base (k + 1) f fd ps sp := by
  obtain ⟨oc, od, kV, doc, pm, an, cdv, ct, osl, rfl, lk, hcd⟩ := F.ex
  constructor
  · exact len
  intro A out s H ar us vs Q E p room pin env bind vals want
  have up : ∀ b o, base.get? b = some o → s.heap.get? b = some o := fun b o z => (env.bs b o z).1
  have KX : K.In s.heap := env.mod.kin.keeps up
  have places : ∀ y ∈ ps.zip us, (defScope st).names.lookup y.1 = some .local ∨ ((defScope st).names.lookup y.1 = some .cell ∧ ((cellsFrom (s.heap.objs.size + 1) (defScope st).names []).lookup y.1).isSome = true) := by
    rintro ⟨n, v⟩ hy
    exact (S.par n (List.of_mem_zip hy).1).imp id fun q => ⟨q, PySem.W.cellsFrom_some _ _ _ (.inl q)⟩
  refine codeAny_call_function room.depth (KX _ _ lk) rfl S.co S.gen rfl (PySem.W.codeRec_of KX hcd) (bind _ _ _ _ ?_)
  refine wpAny_newFunctionEnv_cells S.kind places fun e he s1 x => ?_
  cases he
  refine ⟨(env.mod.nolimit.keeps up).keeps x.toInCall.keep, codeAny_func ?_⟩
  obtain ⟨t, ht, hq⟩ := body cdv A out s H vs Q E p (room.deeper _) want
  refine wpAny_mono (ht.run [] s1 _ H _ (L2H.inv_startH S pin env (len _ _ _ _ want) vals x) hq) (fun fl s' got => ?_) fun _ _ z => z
  cases fl with
  | next =>
    obtain ⟨_, H2, J, q⟩ := got
    exact ⟨V.non, H2, J.os, J.bare, J.base, J.hok, rfl, q⟩
  | ret u =>
    obtain ⟨v, _, H2, J, rv, q⟩ := got
    exact ⟨v, H2, J.os, J.bare, J.base, J.hok, rv, q⟩
  | brk => exact got.elim fun _ z => z.elim fun _ z => z.2.elim
  | cont => exact got.elim fun _ z => z.elim fun _ z => z.2.elim
theorem pe_callW {X : Cx} {k : Nat} {f : Addr} {fd : FuncData} {ps : List Str} {sp : Sp} {x : Str} {q pos : Pos} {e : Expr} {es : List Expr} {t : TA} {p : Addr × Obj} (F : FnW X.prog X.w X.K X.mg X.base k f fd ps sp) (room : L2H.RoomH k X.A) (hp : p ∈ X.pn) (hg : Gl X x) (hm : X.mg x = some (.ref f)) (hk : PySem.W.keepIn X.K (.ref f) = true)
    (hb : Binds X.K fd ps []) (ha : PA X (e :: es) t) (hdb : (x == ("__debug__" : Str)) = false := by decide) (he : starEach (e :: es) X.env = (false, eval e X.env) :: starEach es X.env := by rfl) (hpl : (backTo pos (starEach es X.env)).any (·.1) = false := by rfl) :
    PE X (.Call (.Name x q) (e :: es) [] pos) (tCallS sp (fun _ => E0) t) := by
  constructor
  intro pins s σ H Q I want
  refine wpAny_Call_Name_kw (ld_glob I hg hm ?_ hdb)
  refine PySem.W.callWith_K (h₀ := X.base) I.ok.mod.kin hk (thn (ha.run pos pins s σ H _ I want) fun us s1 got => ?_) he hpl
  obtain ⟨vs, H1, I1, vals, ask⟩ := got
  refine ⟨I1.kIn, ?_⟩
  have same : us.length = ps.length := vals.length.symm.trans (F.len _ _ _ _ ask)
  have bind := hb s1 us I1.kIn ((congrArg List.length (List.append_nil us)).trans same)
  rw [List.append_nil] at bind
  have at1 := I1.pin p (List.mem_append_left _ hp)
  have pin : L2H.PinOk X.stack H1 s1 p := by
    refine ⟨at1.1, at1.2.1, fun hmm => ?_, at1.2.2.2.2⟩
    rcases List.mem_cons.mp (I1.stkSub p.1 hmm) with z | z
    · exact at1.2.2.1 z
    · exact at1.2.2.2.1 z
  refine wpAny_call (codeAny_mono (F.run X.A X.stack s1 H1 ⟨us, []⟩ us vs Q E0 p room pin I1.env0 bind vals ask) fun r s2 fin => ?_)
  cases r with
  | error z => exact (fin : False).elim
  | ok fl =>
    cases fl with
    | ret u => exact I1.after fin
    | next => exact (fin : False).elim
    | brk => exact (fin : False).elim
    | cont => exact (fin : False).elim

structure TxtE (w : World) (K : PySem.W.Frag) (mg : Str → Option Value) (a : Ads) : Prop where
  g_OF_TWO : mg "OF_TWO" = some (.ref a.P_OF_TWO)
  tab_OF_TWO : KTab K w a.P_OF_TWO [("a", a.d_plus), ("s", a.d_minus), ("m", a.d_times), ("t", a.d_append_digit), ("c", a.d_is_less), ("e", a.d_is_equal)]
  g_Failed : mg "Failed" = some (.ref a.C_Failed)
  x_Failed : PySem.W.excIn K a.C_Failed [.type "ValueError", .type "Exception", .type "BaseException", .type "object"] "ValueError.__new__" = true
  kc_Failed : PySem.W.keepIn K (.ref a.C_Failed) = true
  b_Failed : PySem.W.subIn K (.ref a.C_Failed) (.type "BaseException") = some true
  t_Failed : PySem.W.typeIn K (.ref a.C_Failed) = some (.type "type")
  xc_Failed : XcC K a.C_Failed
  exm_Failed_Failed : PySem.W.exmOne K (.ref a.C_Failed) (.ref a.C_Failed) = some true

/-! ### a program's run -/
structure Mc where
  stk : List Nat
  kv : List (Nat × Nat)
  pl : Nat
  pd : Nat
  st : Nat
structure Gv where
  code : Str
  given : Nat
  amount : Nat
def kvV (kv : List (Nat × Nat)) : List (Key × V) := kv.map fun x => (Sum.inl (x.1 : Int), V.int (x.2 : Int))
def getN (kv : List (Nat × Nat)) (k : Nat) : Nat := ((kv.find? fun x => decide (x.1 = k)).map (·.2)).getD 0
def putN (kv : List (Nat × Nat)) (k v : Nat) : List (Nat × Nat) := if (kv.any fun x => decide (x.1 = k)) = true then kv.map (fun x => if x.1 = k then (x.1, v) else x) else kv ++ [(k, v)]
theorem key_dec (i k : Nat) : decide ((Sum.inl (i : Int) : Key) = Sum.inl (k : Int)) = decide (i = k) := by
  by_cases h : i = k
  · rw [decide_eq_true h, decide_eq_true (by rw [h])]
  · rw [decide_eq_false h, decide_eq_false (fun e => h (by have := Sum.inl.inj e; omega))]
theorem val_kv (k : Nat) : ∀ kv : List (Nat × Nat), valV (kvV kv) (Sum.inl (k : Int)) = (kv.find? fun x => decide (x.1 = k)).map fun x => V.int (x.2 : Int)
  | [] => rfl
  | (i, v) :: r => by
    have ih := val_kv k r
    unfold valV kvV at ih ⊢
    rw [List.map_cons, List.find?_cons, List.find?_cons]
    have e : decide ((Sum.inl (i : Int) : Key) = Sum.inl (k : Int)) = decide (i = k) := key_dec i k
    simp only [e]
    by_cases h : i = k
    · simp [h]
    · simp only [decide_eq_false h]
      exact ih
theorem get_kv (kv : List (Nat × Nat)) (k : Nat) : (valV (kvV kv) (Sum.inl (k : Int))).getD (V.int 0) = V.int (getN kv k : Nat) := by
  rw [val_kv]
  unfold getN
  cases kv.find? fun x => decide (x.1 = k) <;> rfl
theorem put_kv (kv : List (Nat × Nat)) (k v : Nat) : putK (kvV kv) (Sum.inl (k : Int)) (V.int (v : Int)) = kvV (putN kv k v) := by
  have e : ((kvV kv).any fun x => decide (x.1 = (Sum.inl (k : Int) : Key))) = kv.any fun x => decide (x.1 = k) := by
    unfold kvV
    rw [List.any_map]
    congr 1
    funext x
    exact key_dec x.1 k
  unfold putK putN
  rw [e]
  split
  · unfold kvV
    rw [List.map_map, List.map_map]
    refine List.map_congr_left fun x _ => ?_
    show (if (Sum.inl (x.1 : Int) : Key) = Sum.inl (k : Int) then _ else _) = _
    by_cases h : x.1 = k
    · rw [if_pos (by rw [h])]
      simp [Function.comp, h]
    · rw [if_neg (fun e => h (by have := Sum.inl.inj e; omega))]
      simp [Function.comp, h]
  · unfold kvV
    rw [List.map_append]
    rfl
theorem len_kv (kv : List (Nat × Nat)) : (kvV kv).length = kv.length := List.length_map ..
theorem len_put (kv : List (Nat × Nat)) (k v : Nat) : (putN kv k v).length ≤ kv.length + 1 := by
  unfold putN
  split
  · rw [List.length_map]
    omega
  · rw [List.length_append]
    exact Nat.le_refl _
/-- two values made one -/
def work (c l r : Nat) : Nat := if c = 97 then l + r else if c = 115 then l - r else if c = 109 then l * r else if c = 116 then 10 * l + r else if c = 99 then (if l < r then 1 else 0) else if l = r then 1 else 0
def pushM (v : Nat) (m : Mc) : Option Mc := if 16 ≤ m.stk.length then none else some { m with stk := m.stk ++ [v % 1000000] }
def takeM (m : Mc) : Option (Nat × Mc) := m.stk.getLast?.map fun t => (t, { m with stk := m.stk.dropLast })
def numberM (G : Gv) (c : Nat) (m : Mc) : Option Mc := if c = 103 then pushM G.given m else if c = 105 then pushM G.amount m else pushM m.stk.length m
def combineM (c : Nat) (m : Mc) : Option Mc := (takeM m).bind fun x => (takeM x.2).bind fun y => pushM (work c y.1 x.1) y.2
def moveM (c : Nat) (m : Mc) : Option Mc := (takeM m).bind fun x => if c = 104 then (pushM x.1 x.2).bind (pushM x.1) else if c = 108 then pushM (getN x.2.kv x.1) x.2 else (takeM x.2).map fun y => { y.2 with kv := putN y.2.kv x.1 y.1 }
def jumpM (c : Nat) (m : Mc) : Option Mc := (takeM m).bind fun x => if c = 106 then some { x.2 with pl := x.1 } else (takeM x.2).map fun y => if y.1 = 0 then { y.2 with pl := x.1 } else y.2
def settleM (c : Nat) (m : Mc) : Option Mc := (takeM m).bind fun x => if c = 121 then some { x.2 with pd := x.2.pd + x.1 } else if x.1 = 0 then none else some x.2
def performM (G : Gv) (c : Nat) (m : Mc) : Option Mc :=
  if 48 ≤ c ∧ c ≤ 57 then pushM (c - 48) m
  else if c = 103 ∨ c = 105 ∨ c = 110 then numberM G c m
  else if c = 97 ∨ c = 115 ∨ c = 109 ∨ c = 116 ∨ c = 99 ∨ c = 101 then combineM c m
  else if c = 104 ∨ c = 108 ∨ c = 117 then moveM c m
  else if c = 106 ∨ c = 102 then jumpM c m
  else settleM c m
theorem take_cat (s : List Nat) (t : Nat) (kv : List (Nat × Nat)) (pl pd st : Nat) : takeM ⟨s ++ [t], kv, pl, pd, st⟩ = some (t, ⟨s, kv, pl, pd, st⟩) := by
  simp [takeM]
/-- what all machines keep -/
def Fit (m : Mc) : Prop := m.stk.length ≤ 16 ∧ m.kv.length ≤ 900 ∧ ∀ v ∈ m.stk, v < 1000000
theorem Fit.take {m : Mc} (f : Fit m) {x : Nat × Mc} (e : takeM m = some x) : Fit x.2 ∧ x.1 < 1000000 ∧ x.2.st = m.st ∧ x.2.kv = m.kv ∧ x.2.pl = m.pl ∧ x.2.pd = m.pd ∧ x.2.stk.length + 1 = m.stk.length ∧ m.stk = x.2.stk ++ [x.1] := by
  obtain ⟨stk, kv, pl, pd, st⟩ := m
  rcases List.eq_nil_or_concat stk with rfl | ⟨s, t, rfl⟩
  · cases e
  · rw [List.concat_eq_append] at e f ⊢
    rw [take_cat] at e
    obtain rfl := Option.some.inj e
    obtain ⟨f1, f2, f3⟩ := f
    have f1 : (s ++ [t]).length ≤ 16 := f1
    rw [List.length_append, List.length_singleton] at f1
    exact ⟨⟨by show s.length ≤ 16; omega, f2, fun v hv => f3 v (List.mem_append_left _ hv)⟩, f3 t (by simp), rfl, rfl, rfl, rfl, by simp, rfl⟩
theorem Fit.push {m m' : Mc} (f : Fit m) {v : Nat} (e : pushM v m = some m') : Fit m' ∧ m'.st = m.st ∧ m'.kv = m.kv ∧ m'.pl = m.pl ∧ m'.pd = m.pd ∧ m'.stk = m.stk ++ [v % 1000000] := by
  unfold pushM at e
  split at e
  · cases e
  · rename_i h
    obtain rfl := Option.some.inj e
    refine ⟨⟨?_, f.2.1, fun x hx => ?_⟩, rfl, rfl, rfl, rfl, rfl⟩
    · show (m.stk ++ [v % 1000000]).length ≤ 16
      rw [List.length_append, List.length_singleton]
      omega
    · rcases List.mem_append.mp hx with hx | hx
      · exact f.2.2 x hx
      · rw [List.mem_singleton.mp hx]
        exact Nat.mod_lt _ (by decide)
/-- a machine in the heap -/
def MAt (C : Addr) (H : Hp) (p D L : Addr) (G : Gv) (m : Mc) : Prop := ∃ dx, H p = some (.ins C dx [("code", .str G.code), ("given", .int (G.given : Nat)), ("amount", .int (G.amount : Nat)), ("store", .ref D), ("stack", .ref L), ("place", .int (m.pl : Nat)), ("paid", .int (m.pd : Nat)), ("steps", .int (m.st : Nat))]) ∧
  H D = some (.dK (kvV m.kv)) ∧ H L = some (.lst (m.stk.map fun n => V.int (n : Nat)))
def Oth (p D L : Addr) (H H' : Hp) : Prop := ∀ b o, b ≠ p → b ≠ D → b ≠ L → H b = some o → H' b = some o
theorem Oth.rfl {p D L : Addr} {H : Hp} : Oth p D L H H := fun _ _ _ _ _ e => e
theorem Oth.trans {p D L : Addr} {H H1 H2 : Hp} (h : Oth p D L H H1) (k : Oth p D L H1 H2) : Oth p D L H H2 := fun b o n1 n2 n3 e => k b o n1 n2 n3 (h b o n1 n2 n3 e)
theorem MAt.ne {C : Addr} {H : Hp} {p D L : Addr} {G : Gv} {m : Mc} (h : MAt C H p D L G m) : p ≠ D ∧ p ≠ L ∧ D ≠ L := by
  obtain ⟨dx, h1, h2, h3⟩ := h
  refine ⟨fun e => ?_, fun e => ?_, fun e => ?_⟩
  · rw [e, h2] at h1; cases h1
  · rw [e, h3] at h1; cases h1
  · rw [e, h3] at h2; cases h2
/-- what a method of the machine tells -/
def Res (C CE p D L : Addr) (G : Gv) (H : Hp) (m : Mc) (r : Option Mc) (Q : VK) (E : XK) : Prop :=
  (∀ m' H', r = some m' → MAt C H' p D L G m' → Oth p D L H H' → Q .non H') ∧ (r = none → ∀ m' H', MAt C H' p D L G m' → m'.st = m.st → Oth p D L H H' → E (.ref CE) none H')
theorem Res.on {C CE p D L : Addr} {G : Gv} {H H1 : Hp} {m m1 : Mc} {r : Option Mc} {Q : VK} {E : XK} (h : Res C CE p D L G H m r Q E) (s : m1.st = m.st) (o : Oth p D L H H1) : Res C CE p D L G H1 m1 r Q E :=
  ⟨fun m' H' e h1 o1 => h.1 m' H' e h1 (o.trans o1), fun e m' H' h1 s1 o1 => h.2 e m' H' h1 (s1.trans s) (o.trans o1)⟩
def spPush (C CE : Addr) : Sp := fun vs H Q E => ∃ (p D L : Addr) (G : Gv) (m : Mc) (v : Nat), vs = [.ref p, .int (v : Nat)] ∧ MAt C H p D L G m ∧ Fit m ∧ Res C CE p D L G H m (pushM v m) Q E
def spTake (C CE : Addr) : Sp := fun vs H Q E => ∃ (p D L : Addr) (G : Gv) (m : Mc), vs = [.ref p] ∧ MAt C H p D L G m ∧ Fit m ∧
  (∀ t m' H', takeM m = some (t, m') → MAt C H' p D L G m' → Oth p D L H H' → Q (.int (t : Nat)) H') ∧ (takeM m = none → ∀ m' H', MAt C H' p D L G m' → m'.st = m.st → Oth p D L H H' → E (.ref CE) none H')
def spSign (C CE : Addr) (op : Gv → Nat → Mc → Option Mc) (ok : Nat → Prop) : Sp := fun vs H Q E => ∃ (p D L : Addr) (G : Gv) (m : Mc) (c : Nat), vs = [.ref p, .str ⟨#[c]⟩] ∧ ok c ∧ MAt C H p D L G m ∧ Fit m ∧ Res C CE p D L G H m (op G c m) Q E
def spWork (c : Nat) : Sp := fun vs H Q _ => ∃ l r : Nat, vs = [.int (l : Nat), .int (r : Nat)] ∧ l < 1000000 ∧ r < 1000000 ∧ Q (.int (work c l r : Nat)) H
def spMInit (C : Addr) : Sp := fun vs H Q _ => ∃ (p dx d : Addr) (G : Gv) (kv : List (Nat × Nat)), vs = [.ref p, .str G.code, .int (G.given : Nat), .int (G.amount : Nat), .ref d] ∧ H p = some (.ins C dx []) ∧ Rd H d (.dK (kvV kv)) ∧
  ∀ D L H', H D = none → H L = none → MAt C H' p D L G ⟨[], kv, 0, 0, 0⟩ → (∀ b o, b ≠ p → H b = some o → H' b = some o) → Q .non H'
def spRun0 (C : Addr) : Sp := fun vs H Q _ => ∃ (j dx : Addr) (w s p n : V), vs = [.ref j, w, s, p, n] ∧ H j = some (.ins C dx []) ∧ ∀ H', H' j = some (.ins C dx [("well", w), ("store", s), ("paid", p), ("steps", n)]) → (∀ b o, b ≠ j → H b = some o → H' b = some o) → Q .non H'
/-! ### a call of what a local holds -/
section
variable {X : Cx} {k i : Nat} {x : Str} {q pos : Pos} {e : Expr} {es : List Expr} {t : TA}
def tCallV (P : Program) (w : World) (K : PySem.W.Frag) (mg : Str → Option Value) (base : Heap) (k i : Nat) (t : TA) : TE := fun σ H Q => ∃ f fd ps sp, σ[i]? = some (some (.ref f)) ∧ FnOk P w K mg base CX0 k f fd ps sp ∧ Binds K fd ps [] ∧ PySem.W.keepIn K (.ref f) = true ∧ t σ H fun vs H1 => sp vs H1 Q E0
theorem pe_callV (hr : Room k X.A) (hN : X.N[i]? = some x) (hv : Vis X.env.scope x) (ha : PA X (e :: es) t) (hd : (x == ("__debug__" : Str)) = false := by decide) (hcd : (x == ("__classdict__" : Str)) = false := by decide)
    (he : starEach (e :: es) X.env = (false, eval e X.env) :: starEach es X.env := by rfl) (hpl : (backTo pos (starEach es X.env)).any (·.1) = false := by rfl) :
    PE X (.Call (.Name x q) (e :: es) [] pos) (tCallV X.prog X.w X.K X.mg X.base k i t) := by
  refine ⟨fun pins s σ H Q I h => ?_⟩
  obtain ⟨f, fd, ps, sp, hs, F, hb, hk, h⟩ := h
  refine wpAny_Call_Name_kw (thn ((pe_var (pos := q) hN hv hd hcd).run pins s σ H (fun v H1 => v = .ref f ∧ H1 = H) I ⟨_, hs, rfl, rfl⟩) fun u s0 ⟨v, H0, I0, rv, ev, eh⟩ => ?_)
  subst ev eh
  obtain rfl : u = Value.ref f := rv
  refine PySem.W.callWith_K (h₀ := X.base) I0.ok.mod.kin hk (thn (ha.run pos pins s0 σ H0 _ I0 h) fun us s1 ⟨vs, H1, I1, r, q⟩ => ⟨I1.kIn, ?_⟩) he hpl
  exact run_fnS (E := fun _ => E0) F hr hb (fun _ _ _ _ _ _ c => False.elim c) I1 r q
end
/-! ### an object made while any exception is handled -/
section
variable {X : Cx} {k : Nat} {f C : Addr} {fd : FuncData} {ps : List Str} {sp : Sp} {x : Str} {q pos : Pos} {e : Expr} {es : List Expr} {t : TA} {p : Addr × Obj}
theorem L2H.RoomH.make {k : Nat} {A : Around} (r : L2H.RoomH (k + 1) A) (C : Addr) (us : List Value) (kw : List (Str × Value)) : L2H.RoomH k (A.under (.builtin "type.__call__" ⟨.ref C :: us, kw⟩)) :=
  ⟨by have := r.dp; rw [make_depth]; omega, by have := r.un; rw [make_units]; omega⟩
theorem pe_makeW (M : Mk X.K C f) (F : FnW X.prog X.w X.K X.mg X.base k f fd ps sp) (room : L2H.RoomH (k + 1) X.A) (hp : p ∈ X.pn) (hg : Gl X x) (hm : X.mg x = some (.ref C)) (hb : Binds X.K fd ps [])
    (ha : PA X (e :: es) t) (hdb : (x == ("__debug__" : Str)) = false := by decide) (he : starEach (e :: es) X.env = (false, eval e X.env) :: starEach es X.env := by rfl) (hpl : (backTo pos (starEach es X.env)).any (·.1) = false := by rfl) :
    PE X (.Call (.Name x q) (e :: es) [] pos) (tMake C sp [] E0 t) := by
  refine ⟨fun pins s σ H Q I h => ?_⟩
  refine wpAny_Call_Name_kw (ld_glob I hg hm ?_ hdb)
  refine PySem.W.callWith_K (h₀ := X.base) I.ok.mod.kin M.kp (thn (ha.run pos pins s σ H _ I h) fun us s1 ⟨vs, H1, I1, r, q⟩ => ⟨I1.kIn, ?_⟩) he hpl
  have hq := q (s1.heap.objs.size + 1) s1.heap.objs.size (I1.hok.fresh (Nat.le_succ _)) (I1.hok.fresh (Nat.le_refl _)) (Nat.ne_of_lt (Nat.lt_succ_self _))
  have I2 := L2.Inv.made (C := C) I1
  rw [List.append_nil] at hq
  have r2 : Vals (V.ref (s1.heap.objs.size + 1) :: vs) (Value.ref (s1.heap.objs.size + 1) :: us) := .cons rfl r
  have hl : (Value.ref (s1.heap.objs.size + 1) :: us).length = ps.length := by
    have e := r2.length
    rw [F.len _ _ _ _ hq] at e
    exact e.symm
  have bind := hb _ (Value.ref (s1.heap.objs.size + 1) :: us) I2.kIn (by rw [List.append_nil]; exact hl)
  rw [List.append_nil] at bind
  have at1 := I2.pin p (List.mem_append_left _ hp)
  have pin := L2H.PinOk.mk (outer := X.stack) (p := p) at1.1 at1.2.1 (fun hmm => by
    rcases List.mem_cons.mp (I2.stkSub p.1 hmm) with z | z
    · exact at1.2.2.1 z
    · exact at1.2.2.2.1 z) at1.2.2.2.2
  refine wpAny_call (make_map (f := f) I1.kIn M.makes M.init (beq_iff_eq.mp M.fn) (codeAny_mono (F.run _ X.stack _ _ ⟨Value.ref (s1.heap.objs.size + 1) :: us, []⟩ (Value.ref (s1.heap.objs.size + 1) :: us) _ _ E0 p (room.make C us [])
    pin (I2.env0.make C us []) bind r2 hq) fun r s' hq' => ?_))
  cases r with
  | error e => exact (hq' : False).elim
  | ok fl =>
    cases fl with
    | ret u =>
      obtain ⟨v, H', I3, rv, ev, q3⟩ := I2.after hq'
      subst ev
      exact ⟨rv, ⟨V.ref (s1.heap.objs.size + 1), H', I3, rfl, q3⟩⟩
    | next => exact False.elim hq'
    | brk => exact False.elim hq'
    | cont => exact False.elim hq'
end

section
local macro_rules | `(tactic| walk_at "r1") => `(tactic| first
  | refine ⟨_, rfl, ?_⟩
  | refine ⟨_, _, rfl, rfl, (by show (0 : Int) < _; first | decide | omega), ?_⟩
  | refine ⟨_, _, rfl, rfl, (show CDiv _ _ from ⟨by decide, by decide⟩), ?_⟩
  | refine ⟨_, _, rfl, rfl, (show CMul _ _ from .inl ⟨by decide, by decide⟩), ?_⟩
  | refine ⟨_, _, rfl, rfl, (show CMul _ _ from .inr ⟨by decide, by decide⟩), ?_⟩
  | refine ⟨_, _, rfl, rfl, (show CPow _ _ from ⟨by decide, by decide, by decide⟩), ?_⟩
  | refine ⟨_, _, rfl, rfl, ?_⟩
  | refine ⟨_, _, _, _, rfl, rfl, SqT.of (by assumption), by first | exact at0 _ | exact at1 _ | exact at2 _ | exact at3 _ | exact at4 _ (by assumption), ?_⟩
  | refine ⟨scal_oS _ _, ?_⟩
  | refine .inl ⟨_, rfl, ?_⟩
  | refine ⟨rfl, ?_⟩)
local macro_rules | `(tactic| walk_at "rs") => `(tactic| repeat walk_at "r1")

variable {P : Program} {w : World} {K : PySem.W.Frag} {mg : Str → Option Value} {base : Heap} {a : Ads}
theorem getD_mem {zs : List Int} {i : Nat} (h : i < zs.length) : zs.getD i 0 ∈ zs := by
  rw [List.getD_eq_getElem?_getD, List.getElem?_eq_getElem h]
  exact List.getElem_mem h
theorem at_ints {zs : List Int} {i : Nat} (h : i < zs.length) : (zs.map V.int)[i]? = some (.int (zs.getD i 0)) := by
  rw [List.getElem?_map, List.getD_eq_getElem?_getD, List.getElem?_eq_getElem h]
  rfl

theorem sg_eq (c k : Nat) : ((⟨#[c]⟩ : Str) = ⟨#[k]⟩) ↔ c = k := ⟨fun e => by simpa using e, fun e => by rw [e]⟩
theorem ok_Run_init (T : Txt K mg a) : ∃ fd, FnOk P w K mg base CX0 1 a.d_Run_init fd ["self", "well", "store", "paid", "steps"] (spRun0 a.C_Run) ∧ Binds K fd ["self", "well", "store", "paid", "steps"] [] := by
  obtain ⟨fd, F, b⟩ := T.d_Run_init.F
  refine ⟨fd, F.ok sc_Run_init (fun vs H Q E h => ?_) (fun cdv A outer s H vs Q E hr h => ?_), b⟩
  · obtain ⟨_, _, _, _, _, _, rfl, _⟩ := h
    rfl
  · obtain ⟨j, dx, x1, x2, x3, x4, rfl, hj, k⟩ := h
    refine ⟨_, (pss_cons (ps_fld (pv 0) (pv 1) rfl)
      (pss_cons (ps_fld (pv 0) (pv 2) rfl)
      (pss_cons (ps_fld (pv 0) (pv 3) rfl)
      (pss_one (ps_fld (pv 0) (pv 4) rfl))))), ?_⟩
    walk_at "rs"
    refine ⟨j, _, dx, [], rfl, hj, T.cl_Run, T.a_Run_well, (by show 0 < 1000; decide), ?_⟩
    walk_at "rs"
    refine ⟨j, _, dx, _, rfl, upd_same, T.cl_Run, T.a_Run_store, (by show 1 < 1000; decide), ?_⟩
    rw [upd_upd]
    walk_at "rs"
    refine ⟨j, _, dx, _, rfl, upd_same, T.cl_Run, T.a_Run_paid, (by show 2 < 1000; decide), ?_⟩
    rw [upd_upd]
    walk_at "rs"
    refine ⟨j, _, dx, _, rfl, upd_same, T.cl_Run, T.a_Run_steps, (by show 3 < 1000; decide), ?_⟩
    rw [upd_upd]
    exact k _ (by rw [upd_same]; rfl) fun b o n e => by rw [upd_ne n]; exact e
theorem okW_Run_init (T : Txt K mg a) : ∃ fd, FnW P w K mg base 1 a.d_Run_init fd ["self", "well", "store", "paid", "steps"] (spRun0 a.C_Run) ∧ Binds K fd ["self", "well", "store", "paid", "steps"] [] := by
  obtain ⟨fd, F, b⟩ := T.d_Run_init.F
  refine ⟨fd, fun_okW F sc_Run_init (fun vs H Q E h => ?_) (fun cdv A outer s H vs Q E p hr h => ?_), b⟩
  · obtain ⟨_, _, _, _, _, _, rfl, _⟩ := h
    rfl
  · obtain ⟨j, dx, x1, x2, x3, x4, rfl, hj, k⟩ := h
    refine ⟨_, (pss_cons (ps_fld (pv 0) (pv 1) rfl)
      (pss_cons (ps_fld (pv 0) (pv 2) rfl)
      (pss_cons (ps_fld (pv 0) (pv 3) rfl)
      (pss_one (ps_fld (pv 0) (pv 4) rfl))))), ?_⟩
    walk_at "rs"
    refine ⟨j, _, dx, [], rfl, hj, T.cl_Run, T.a_Run_well, (by show 0 < 1000; decide), ?_⟩
    walk_at "rs"
    refine ⟨j, _, dx, _, rfl, upd_same, T.cl_Run, T.a_Run_store, (by show 1 < 1000; decide), ?_⟩
    rw [upd_upd]
    walk_at "rs"
    refine ⟨j, _, dx, _, rfl, upd_same, T.cl_Run, T.a_Run_paid, (by show 2 < 1000; decide), ?_⟩
    rw [upd_upd]
    walk_at "rs"
    refine ⟨j, _, dx, _, rfl, upd_same, T.cl_Run, T.a_Run_steps, (by show 3 < 1000; decide), ?_⟩
    rw [upd_upd]
    exact k _ (by rw [upd_same]; rfl) fun b o n e => by rw [upd_ne n]; exact e
theorem ok_Machine_init (T : Txt K mg a) : ∃ fd, FnOk P w K mg base CX0 1 a.d_Machine_init fd ["self", "code", "given", "amount", "store"] (spMInit a.C_Machine) ∧ Binds K fd ["self", "code", "given", "amount", "store"] [] := by
  obtain ⟨fd, F, b⟩ := T.d_Machine_init.F
  refine ⟨fd, F.ok sc_Machine_init (fun vs H Q E h => ?_) (fun cdv A outer s H vs Q E hr h => ?_), b⟩
  · obtain ⟨_, _, _, _, _, rfl, _⟩ := h
    rfl
  · obtain ⟨p, dx, d, G, kv, rfl, hp, hd, k⟩ := h
    have pd : d ≠ p := fun e => by
      rw [e] at hd
      rcases hd with e | ⟨o, e⟩ <;> (rw [hp] at e; cases e)
    refine ⟨_, (pss_cons (ps_fld (pv 0) (pv 1) rfl)
      (pss_cons (ps_fld (pv 0) (pv 2) rfl)
      (pss_cons (ps_fld (pv 0) (pv 3) rfl)
      (pss_cons (ps_fld (pv 0) (pe_callTy call_dictD (by rfl) T.n_dict (by decide +kernel) (pa_cons (pv 4) pa_nil)) rfl)
      (pss_cons (ps_fld (pv 0) (pe_lst pa_nil) rfl)
      (pss_cons (ps_fld (pv 0) pe_int rfl)
      (pss_cons (ps_fld (pv 0) pe_int rfl)
      (pss_one (ps_fld (pv 0) pe_int rfl))))))))), ?_⟩
    walk_at "rs"
    refine ⟨p, _, dx, [], rfl, hp, T.cl_Machine, T.a_Machine_code, (by show 0 < 1000; decide), ?_⟩
    walk_at "rs"
    refine ⟨p, _, dx, _, rfl, upd_same, T.cl_Machine, T.a_Machine_given, (by show 1 < 1000; decide), ?_⟩
    rw [upd_upd]
    walk_at "rs"
    refine ⟨p, _, dx, _, rfl, upd_same, T.cl_Machine, T.a_Machine_amount, (by show 2 < 1000; decide), ?_⟩
    rw [upd_upd]
    walk_at "rs"
    refine ⟨d, _, rfl, hd.imp (fun e => by rw [upd_ne pd]; exact e) (fun ⟨o, e⟩ => ⟨o, by rw [upd_ne pd]; exact e⟩), fun D hD => ?_⟩
    have nD : D ≠ p := fun e => by rw [e, upd_same] at hD; cases hD
    rw [upd_ne nD] at hD
    walk_at "rs"
    refine ⟨p, _, dx, _, rfl, (by rw [upd_ne (fun e => nD e.symm)]; exact upd_same), T.cl_Machine, T.a_Machine_store, (by show 3 < 1000; decide), ?_⟩
    walk_at "rs"
    refine ⟨(by show 0 ≤ sizeLine; decide), fun L hL => ?_⟩
    have nL : L ≠ p := fun e => by rw [e, upd_same] at hL; cases hL
    rw [upd_ne nL] at hL
    have nLD : L ≠ D := fun e => by rw [e, upd_same] at hL; cases hL
    rw [upd_ne nLD, upd_ne nL] at hL
    walk_at "rs"
    refine ⟨p, _, dx, _, rfl, (by rw [upd_ne (fun e => nL e.symm)]; exact upd_same), T.cl_Machine, T.a_Machine_stack, (by show 4 < 1000; decide), ?_⟩
    walk_at "rs"
    refine ⟨p, _, dx, _, rfl, upd_same, T.cl_Machine, T.a_Machine_place, (by show 5 < 1000; decide), ?_⟩
    rw [upd_upd]
    walk_at "rs"
    refine ⟨p, _, dx, _, rfl, upd_same, T.cl_Machine, T.a_Machine_paid, (by show 6 < 1000; decide), ?_⟩
    rw [upd_upd]
    walk_at "rs"
    refine ⟨p, _, dx, _, rfl, upd_same, T.cl_Machine, T.a_Machine_steps, (by show 7 < 1000; decide), ?_⟩
    rw [upd_upd]
    refine k D L _ hD hL ⟨dx, (by rw [upd_same]; rfl), ?_, ?_⟩ fun b o n e => ?_
    · rw [upd_ne nD, upd_ne (fun e => nLD e.symm), upd_ne nD]
      exact upd_same
    · rw [upd_ne nL]
      exact upd_same
    · rw [upd_ne n, upd_ne (fun q => by rw [q, hL] at e; cases e), upd_ne n, upd_ne (fun q => by rw [q, hD] at e; cases e), upd_ne n]
      exact e
theorem ok_Machine_push (TE : TxtE w K mg a) (T : Txt K mg a) : ∃ fd, FnOk P w K mg base (L2.CX P w) 1 a.d_Machine_push fd ["self", "value"] (spPush a.C_Machine a.C_Failed) ∧ Binds K fd ["self", "value"] [] := by
  obtain ⟨fd, F, b⟩ := T.d_Machine_push.F
  refine ⟨fd, F.okX sc_Machine_push (fun vs H Q E h => ?_) (fun cdv A outer s H vs Q E hr h => ?_), b⟩
  · obtain ⟨_, _, _, _, _, _, rfl, _⟩ := h
    rfl
  · obtain ⟨p, D, L, G, m, v, rfl, hm, hf, k1, k2⟩ := h
    obtain ⟨npD, npL, nDL⟩ := hm.ne
    obtain ⟨dx, hp, hD, hL⟩ := id hm
    have hl : (m.stk.map fun n => V.int (n : Nat)).length = m.stk.length := List.length_map ..
    refine ⟨_, (pss_cons (ps_if (pt_cmpR op_ge (pe_callB call_len_seq (by rfl) T.n_len PySem.boot_len (pa_cons (pe_fld (pv 0) rfl) pa_nil)) (pe_glob (v := (.int 16)) rfl T.c_MOST_VALUES.choose_spec ⟨_, rfl⟩) (nomark _))
      (pss_one (ps_raise rfl (takes_of rfl rfl rfl rfl) (pmk_own PySem.F.excBase_ValueError TE.x_Failed TE.g_Failed TE.kc_Failed (raises_own TE.b_Failed TE.t_Failed) rfl)))
      pss_nil)
      (pss_one (ps_expr (pe_bm PySem.F.plainAttrs_list PySem.F.slot_list_append PySem.F.type_list_append mt_append (pe_fld (pv 0) rfl) (pa_cons (pe_op op_mod (pv 1) (pe_glob (v := (.int 1000000)) rfl T.c_MODULUS.choose_spec ⟨_, rfl⟩)) pa_nil))))), ?_⟩
    walk_at "rs"
    refine ⟨p, _, dx, _, .ref L, rfl, hp, T.cl_Machine, T.a_Machine_stack, rfl, ?_⟩
    walk_at "rs"
    refine ⟨L, _, rfl, .inl (SqL.of hL), ?_⟩
    walk_at "rs"
    rw [hl]
    refine ite2 (fun c => ?_) (fun c => ?_)
    · have c : 16 ≤ m.stk.length := by
        have := of_decide_eq_true c
        omega
      exact k2 (if_pos c) m H hm rfl .rfl
    · have c : ¬ 16 ≤ m.stk.length := fun h => c (decide_eq_true (by omega))
      walk_at "rs"
      refine ⟨p, _, dx, _, .ref L, rfl, hp, T.cl_Machine, T.a_Machine_stack, rfl, ?_⟩
      refine ⟨.inl ⟨rfl, _, SqL.of hL⟩, ?_⟩
      walk_at "rs"
      refine ⟨L, _, _, rfl, rfl, hL, by rw [hl]; exact small1000 (by omega), ?_⟩
      refine k1 { m with stk := m.stk ++ [v % 1000000] } _ (if_neg c) ⟨dx, ?_, ?_, ?_⟩ fun b o n1 n2 n3 e => ?_
      · rw [upd_ne npL]
        exact hp
      · rw [upd_ne nDL]
        exact hD
      · rw [upd_same]
        simp
      · rw [upd_ne n3]
        exact e
theorem ok_Machine_take (TE : TxtE w K mg a) (T : Txt K mg a) : ∃ fd, FnOk P w K mg base (L2.CX P w) 1 a.d_Machine_take fd ["self"] (spTake a.C_Machine a.C_Failed) ∧ Binds K fd ["self"] [] := by
  obtain ⟨fd, F, b⟩ := T.d_Machine_take.F
  refine ⟨fd, F.okX sc_Machine_take (fun vs H Q E h => ?_) (fun cdv A outer s H vs Q E hr h => ?_), b⟩
  · obtain ⟨_, _, _, _, _, rfl, _⟩ := h
    rfl
  · obtain ⟨p, D, L, G, m, rfl, hm, hf, k1, k2⟩ := h
    obtain ⟨npD, npL, nDL⟩ := hm.ne
    obtain ⟨dx, hp, hD, hL⟩ := id hm
    have hl : (m.stk.map fun n => V.int (n : Nat)).length = m.stk.length := List.length_map ..
    refine ⟨_, (pss_cons (ps_if (pt_cmpR op_eq (pe_callB call_len_seq (by rfl) T.n_len PySem.boot_len (pa_cons (pe_fld (pv 0) rfl) pa_nil)) pe_int (nomark _))
      (pss_one (ps_raise rfl (takes_of rfl rfl rfl rfl) (pmk_own PySem.F.excBase_ValueError TE.x_Failed TE.g_Failed TE.kc_Failed (raises_own TE.b_Failed TE.t_Failed) rfl)))
      pss_nil)
      (pss_one (ps_ret (pe_bm0 PySem.F.plainAttrs_list PySem.F.slot_list_pop PySem.F.type_list_pop mt_pop (pe_fld (pv 0) rfl))))), ?_⟩
    walk_at "rs"
    refine ⟨p, _, dx, _, .ref L, rfl, hp, T.cl_Machine, T.a_Machine_stack, rfl, ?_⟩
    walk_at "rs"
    refine ⟨L, _, rfl, .inl (SqL.of hL), ?_⟩
    walk_at "rs"
    rw [hl]
    obtain ⟨stk, kv, pl, pd, st⟩ := m
    rcases List.eq_nil_or_concat stk with rfl | ⟨s, t, rfl⟩
    · refine ite2 (fun c => ?_) (fun c => absurd (decide_eq_true rfl) c)
      exact k2 rfl _ H hm rfl .rfl
    · rw [List.concat_eq_append] at *
      refine ite2 (fun c => absurd (of_decide_eq_true c) (by simp; omega)) (fun c => ?_)
      walk_at "rs"
      refine ⟨p, _, dx, _, .ref L, rfl, hp, T.cl_Machine, T.a_Machine_stack, rfl, ?_⟩
      refine ⟨.inl ⟨rfl, _, SqL.of hL⟩, ?_⟩
      walk_at "rs"
      refine ⟨L, _, .int (t : Nat), rfl, rfl, hL, by simp, ?_⟩
      refine k1 t ⟨s, kv, pl, pd, st⟩ _ (take_cat ..) ⟨dx, ?_, ?_, ?_⟩ fun b o n1 n2 n3 e => ?_
      · rw [upd_ne npL]
        exact hp
      · rw [upd_ne nDL]
        exact hD
      · rw [upd_same]
        simp
      · rw [upd_ne n3]
        exact e

theorem ok_plus (T : Txt K mg a) : ∃ fd, FnOk P w K mg base CX0 1 a.d_plus fd ["left", "right"] (spWork 97) ∧ Binds K fd ["left", "right"] [] := by
  obtain ⟨fd, F, b⟩ := T.d_plus.F
  refine ⟨fd, F.ok sc_plus (fun vs H Q E h => ?_) (fun cdv A outer s H vs Q E hr h => ?_), b⟩
  · obtain ⟨_, _, rfl, _⟩ := h
    rfl
  · obtain ⟨l, r, rfl, hl, hr', k⟩ := h
    refine ⟨_, (pss_one (ps_ret (pe_op op_add (pv 0) (pv 1)))), ?_⟩
    walk_at "rs"
    have e : ((work 97 l r : Nat) : Int) = (l : Int) + (r : Int) := by
      show ((l + r : Nat) : Int) = _
      omega
    rw [e] at k
    exact k
theorem ok_minus (T : Txt K mg a) : ∃ fd, FnOk P w K mg base CX0 1 a.d_minus fd ["left", "right"] (spWork 115) ∧ Binds K fd ["left", "right"] [] := by
  obtain ⟨fd, F, b⟩ := T.d_minus.F
  refine ⟨fd, F.ok sc_minus (fun vs H Q E h => ?_) (fun cdv A outer s H vs Q E hr h => ?_), b⟩
  · obtain ⟨_, _, rfl, _⟩ := h
    rfl
  · obtain ⟨l, r, rfl, hl, hr', k⟩ := h
    refine ⟨_, (pss_one (ps_ret (pe_callB (call_max2 rfl) (by rfl) T.n_max (by decide +kernel) (pa_cons pe_int (pa_cons (pe_op op_sub (pv 0) (pv 1)) pa_nil))))), ?_⟩
    walk_at "rs"
    have e : ((work 115 l r : Nat) : Int) = if (l : Int) - (r : Int) > 0 then (l : Int) - (r : Int) else 0 := by
      show ((l - r : Nat) : Int) = _
      split <;> omega
    rw [e] at k
    exact ⟨_, _, rfl, k⟩
theorem ok_times (T : Txt K mg a) : ∃ fd, FnOk P w K mg base CX0 1 a.d_times fd ["left", "right"] (spWork 109) ∧ Binds K fd ["left", "right"] [] := by
  obtain ⟨fd, F, b⟩ := T.d_times.F
  refine ⟨fd, F.ok sc_times (fun vs H Q E h => ?_) (fun cdv A outer s H vs Q E hr h => ?_), b⟩
  · obtain ⟨_, _, rfl, _⟩ := h
    rfl
  · obtain ⟨l, r, rfl, hl, hr', k⟩ := h
    refine ⟨_, (pss_one (ps_ret (pe_op op_mul (pv 0) (pv 1)))), ?_⟩
    walk_at "rs"
    refine ⟨(show CMul _ _ from .inl ⟨by omega, by omega⟩), ?_⟩
    have e : ((work 109 l r : Nat) : Int) = (l : Int) * (r : Int) := by
      show ((l * r : Nat) : Int) = _
      push_cast
      rfl
    rw [e] at k
    exact k
theorem ok_append_digit (T : Txt K mg a) : ∃ fd, FnOk P w K mg base CX0 1 a.d_append_digit fd ["left", "right"] (spWork 116) ∧ Binds K fd ["left", "right"] [] := by
  obtain ⟨fd, F, b⟩ := T.d_append_digit.F
  refine ⟨fd, F.ok sc_append_digit (fun vs H Q E h => ?_) (fun cdv A outer s H vs Q E hr h => ?_), b⟩
  · obtain ⟨_, _, rfl, _⟩ := h
    rfl
  · obtain ⟨l, r, rfl, hl, hr', k⟩ := h
    refine ⟨_, (pss_one (ps_ret (pe_op op_add (pe_op op_mul pe_int (pv 0)) (pv 1)))), ?_⟩
    walk_at "rs"
    have e : ((work 116 l r : Nat) : Int) = (10 : Int) * (l : Int) + (r : Int) := by
      show ((10 * l + r : Nat) : Int) = _
      omega
    rw [e] at k
    exact k
theorem ok_is_less (T : Txt K mg a) : ∃ fd, FnOk P w K mg base CX0 1 a.d_is_less fd ["left", "right"] (spWork 99) ∧ Binds K fd ["left", "right"] [] := by
  obtain ⟨fd, F, b⟩ := T.d_is_less.F
  refine ⟨fd, F.ok sc_is_less (fun vs H Q E h => ?_) (fun cdv A outer s H vs Q E hr h => ?_), b⟩
  · obtain ⟨_, _, rfl, _⟩ := h
    rfl
  · obtain ⟨l, r, rfl, hl, hr', k⟩ := h
    refine ⟨_, (pss_one (ps_ret (pe_ifExp (pt_cmpR op_lt (pv 0) (pv 1) (nomark _)) pe_int pe_int))), ?_⟩
    walk_at "rs"
    have e : work 99 l r = if l < r then 1 else 0 := rfl
    rw [e] at k
    refine ite2 (fun c => ?_) (fun c => ?_)
    · have c : l < r := by
        have := of_decide_eq_true c
        omega
      rw [if_pos c] at k
      exact k
    · have c : ¬ l < r := fun h => c (decide_eq_true (by omega))
      rw [if_neg c] at k
      exact k
theorem ok_is_equal (T : Txt K mg a) : ∃ fd, FnOk P w K mg base CX0 1 a.d_is_equal fd ["left", "right"] (spWork 101) ∧ Binds K fd ["left", "right"] [] := by
  obtain ⟨fd, F, b⟩ := T.d_is_equal.F
  refine ⟨fd, F.ok sc_is_equal (fun vs H Q E h => ?_) (fun cdv A outer s H vs Q E hr h => ?_), b⟩
  · obtain ⟨_, _, rfl, _⟩ := h
    rfl
  · obtain ⟨l, r, rfl, hl, hr', k⟩ := h
    refine ⟨_, (pss_one (ps_ret (pe_ifExp (pt_cmpR op_eq (pv 0) (pv 1) (nomark _)) pe_int pe_int))), ?_⟩
    walk_at "rs"
    have e : work 101 l r = if l = r then 1 else 0 := rfl
    rw [e] at k
    refine ite2 (fun c => ?_) (fun c => ?_)
    · have c : l = r := by
        have := of_decide_eq_true c
        have := V.int.inj this
        omega
      rw [if_pos c] at k
      exact k
    · have c : ¬ l = r := fun h => c (decide_eq_true (by rw [h]))
      rw [if_neg c] at k
      exact k

theorem works (TE : TxtE w K mg a) (T : Txt K mg a) {c : Nat} (h : c = 97 ∨ c = 115 ∨ c = 109 ∨ c = 116 ∨ c = 99 ∨ c = 101) : ∃ f fd, KDct K w a.P_OF_TWO ⟨#[c]⟩ (.ref f) ∧ FnOk P w K mg base CX0 1 f fd ["left", "right"] (spWork c) ∧ Binds K fd ["left", "right"] [] ∧ PySem.W.keepIn K (.ref f) = true := by
  rcases h with rfl | rfl | rfl | rfl | rfl | rfl
  · obtain ⟨fd, F, b⟩ := ok_plus (P := P) (w := w) (base := base) T
    exact ⟨_, fd, TE.tab_OF_TWO.get rfl, F, b, T.d_plus.kp⟩
  · obtain ⟨fd, F, b⟩ := ok_minus (P := P) (w := w) (base := base) T
    exact ⟨_, fd, TE.tab_OF_TWO.get rfl, F, b, T.d_minus.kp⟩
  · obtain ⟨fd, F, b⟩ := ok_times (P := P) (w := w) (base := base) T
    exact ⟨_, fd, TE.tab_OF_TWO.get rfl, F, b, T.d_times.kp⟩
  · obtain ⟨fd, F, b⟩ := ok_append_digit (P := P) (w := w) (base := base) T
    exact ⟨_, fd, TE.tab_OF_TWO.get rfl, F, b, T.d_append_digit.kp⟩
  · obtain ⟨fd, F, b⟩ := ok_is_less (P := P) (w := w) (base := base) T
    exact ⟨_, fd, TE.tab_OF_TWO.get rfl, F, b, T.d_is_less.kp⟩
  · obtain ⟨fd, F, b⟩ := ok_is_equal (P := P) (w := w) (base := base) T
    exact ⟨_, fd, TE.tab_OF_TWO.get rfl, F, b, T.d_is_equal.kp⟩
theorem of_two {c : Nat} {x1 x2 x3 x4 x5 x6 : Addr} : (([("a", x1), ("s", x2), ("m", x3), ("t", x4), ("c", x5), ("e", x6)] : List (Str × Addr)).lookup ⟨#[c]⟩).isSome = decide (c = 97 ∨ c = 115 ∨ c = 109 ∨ c = 116 ∨ c = 99 ∨ c = 101) := by
  have e : ∀ k : Nat, ((⟨#[c]⟩ : Str) == ⟨#[k]⟩) = decide (c = k) := fun k => by
    by_cases h : c = k
    · rw [h, decide_eq_true rfl, beq_self_eq_true]
    · rw [decide_eq_false h, beq_eq_false_iff_ne.mpr fun e => h ((sg_eq c k).mp e)]
  have e1 := e 97
  have e2 := e 115
  have e3 := e 109
  have e4 := e 116
  have e5 := e 99
  have e6 := e 101
  rw [show (⟨#[97]⟩ : Str) = "a" from rfl] at e1
  rw [show (⟨#[115]⟩ : Str) = "s" from rfl] at e2
  rw [show (⟨#[109]⟩ : Str) = "m" from rfl] at e3
  rw [show (⟨#[116]⟩ : Str) = "t" from rfl] at e4
  rw [show (⟨#[99]⟩ : Str) = "c" from rfl] at e5
  rw [show (⟨#[101]⟩ : Str) = "e" from rfl] at e6
  simp only [List.lookup, e1, e2, e3, e4, e5, e6]
  by_cases h1 : c = 97
  · simp [h1]
  by_cases h2 : c = 115
  · simp [h2]
  by_cases h3 : c = 109
  · simp [h3]
  by_cases h4 : c = 116
  · simp [h4]
  by_cases h5 : c = 99
  · simp [h5]
  by_cases h6 : c = 101
  · simp [h6]
  simp [h1, h2, h3, h4, h5, h6]
theorem in_signs (c : Nat) (ks : List Nat) : inV (V.str ⟨#[c]⟩) (ks.map fun k => V.str ⟨#[k]⟩) = decide (c ∈ ks) := by
  unfold inV
  rw [List.any_map, Bool.eq_iff_iff, List.any_eq_true, decide_eq_true_iff]
  constructor
  · rintro ⟨k, hk, e⟩
    have e : decide ((⟨#[k]⟩ : Str) = ⟨#[c]⟩) = true := e
    rw [(sg_eq k c).mp (of_decide_eq_true e)] at hk
    exact hk
  · intro h
    exact ⟨c, h, decide_eq_true rfl⟩

theorem ok_Machine_push_number (TE : TxtE w K mg a) (T : Txt K mg a) : ∃ fd, FnOk P w K mg base (L2.CX P w) 2 a.d_Machine_push_number fd ["self", "sign"] (spSign a.C_Machine a.C_Failed numberM fun _ => True) ∧ Binds K fd ["self", "sign"] [] := by
  obtain ⟨fd, F, b⟩ := T.d_Machine_push_number.F
  obtain ⟨fd_Machine_push, G_Machine_push, b_Machine_push⟩ := ok_Machine_push (P := P) (w := w) (base := base) TE T
  refine ⟨fd, F.okX sc_Machine_push_number (fun vs H Q E h => ?_) (fun cdv A outer s H vs Q E hr h => ?_), b⟩
  · obtain ⟨_, _, _, _, _, _, rfl, _⟩ := h
    rfl
  · obtain ⟨p, D, L, G, m, c, rfl, -, hm, hf, k⟩ := h
    obtain ⟨dx, hp, hD, hL⟩ := id hm
    refine ⟨_, (pss_one (ps_if (pt_cmpR op_eq (pv 1) pe_str (nomark _))
      (pss_one (ps_expr (pe_meth (pv 0) T.cl_Machine T.me_Machine_push G_Machine_push (hr.mono (by decide)) b_Machine_push .nil (L2.passes_call (W := fun c d _ H => E c d H) (E := E) (L2.takes_of rfl rfl rfl rfl) (fun _ _ _ _ h => h)) (pa_cons (pe_fld (pv 0) rfl) pa_nil))))
      (pss_one (ps_if (pt_cmpR op_eq (pv 1) pe_str (nomark _))
        (pss_one (ps_expr (pe_meth (pv 0) T.cl_Machine T.me_Machine_push G_Machine_push (hr.mono (by decide)) b_Machine_push .nil (L2.passes_call (W := fun c d _ H => E c d H) (E := E) (L2.takes_of rfl rfl rfl rfl) (fun _ _ _ _ h => h)) (pa_cons (pe_fld (pv 0) rfl) pa_nil))))
        (pss_one (ps_expr (pe_meth (pv 0) T.cl_Machine T.me_Machine_push G_Machine_push (hr.mono (by decide)) b_Machine_push .nil (L2.passes_call (W := fun c d _ H => E c d H) (E := E) (L2.takes_of rfl rfl rfl rfl) (fun _ _ _ _ h => h)) (pa_cons (pe_callB call_len_seq (by rfl) T.n_len PySem.boot_len (pa_cons (pe_fld (pv 0) rfl) pa_nil)) pa_nil)))))))), ?_⟩
    unfold numberM at k
    walk_at "rs"
    refine ite2 (fun c1 => ?_) (fun c1 => ?_)
    · have c1 : c = 103 := (sg_eq c 103).mp (V.str.inj (of_decide_eq_true c1))
      rw [if_pos c1] at k
      walk_at "rs"
      refine ⟨p, dx, _, rfl, hp, rfl, ?_⟩
      walk_at "rs"
      refine ⟨p, _, dx, _, .int (G.given : Nat), rfl, hp, T.cl_Machine, T.a_Machine_given, rfl, ?_⟩
      exact ⟨p, D, L, G, m, _, rfl, hm, hf, k⟩
    · have c1 : c ≠ 103 := fun e => c1 (decide_eq_true (congrArg V.str ((sg_eq c 103).mpr e)))
      rw [if_neg c1] at k
      walk_at "rs"
      refine ite2 (fun c2 => ?_) (fun c2 => ?_)
      · have c2 : c = 105 := (sg_eq c 105).mp (V.str.inj (of_decide_eq_true c2))
        rw [if_pos c2] at k
        walk_at "rs"
        refine ⟨p, dx, _, rfl, hp, rfl, ?_⟩
        walk_at "rs"
        refine ⟨p, _, dx, _, .int (G.amount : Nat), rfl, hp, T.cl_Machine, T.a_Machine_amount, rfl, ?_⟩
        exact ⟨p, D, L, G, m, _, rfl, hm, hf, k⟩
      · have c2 : c ≠ 105 := fun e => c2 (decide_eq_true (congrArg V.str ((sg_eq c 105).mpr e)))
        rw [if_neg c2] at k
        have hl : (m.stk.map fun n => V.int (n : Nat)).length = m.stk.length := List.length_map ..
        walk_at "rs"
        refine ⟨p, dx, _, rfl, hp, rfl, ?_⟩
        walk_at "rs"
        refine ⟨p, _, dx, _, .ref L, rfl, hp, T.cl_Machine, T.a_Machine_stack, rfl, ?_⟩
        refine ⟨L, _, rfl, .inl (SqL.of hL), ?_⟩
        exact ⟨p, D, L, G, m, _, by rw [hl]; rfl, hm, hf, k⟩
theorem ok_Machine_combine (TE : TxtE w K mg a) (T : Txt K mg a) : ∃ fd, FnOk P w K mg base (L2.CX P w) 2 a.d_Machine_combine fd ["self", "sign"] (spSign a.C_Machine a.C_Failed (fun _ => combineM) fun c => c = 97 ∨ c = 115 ∨ c = 109 ∨ c = 116 ∨ c = 99 ∨ c = 101) ∧ Binds K fd ["self", "sign"] [] := by
  obtain ⟨fd, F, b⟩ := T.d_Machine_combine.F
  obtain ⟨fd_Machine_take, G_Machine_take, b_Machine_take⟩ := ok_Machine_take (P := P) (w := w) (base := base) TE T
  obtain ⟨fd_Machine_push, G_Machine_push, b_Machine_push⟩ := ok_Machine_push (P := P) (w := w) (base := base) TE T
  refine ⟨fd, F.okX sc_Machine_combine (fun vs H Q E h => ?_) (fun cdv A outer s H vs Q E hr h => ?_), b⟩
  · obtain ⟨_, _, _, _, _, _, rfl, _⟩ := h
    rfl
  · obtain ⟨p, D, L, G, m, c, rfl, hc, hm, hf, k⟩ := h
    obtain ⟨dx, hp, hD, hL⟩ := id hm
    obtain ⟨wf, wfd, wk, wF, wb, wkp⟩ := works (P := P) (base := base) TE T hc
    refine ⟨_, (pss_cons (ps_set (i := 2) sc_Machine_combine.nd rfl (Or.inl rfl) (pe_ix ix_kdict (pe_glob (v := .ref a.P_OF_TWO) rfl TE.g_OF_TWO rfl) (pv 1) (fun _ _ => rfl)))
      (pss_cons (ps_set (i := 3) sc_Machine_combine.nd rfl (Or.inl rfl) (pe_meth0 (pv 0) T.cl_Machine T.me_Machine_take G_Machine_take (hr.mono (by decide)) b_Machine_take .nil (L2.passes_call (W := fun c d _ H => E c d H) (E := E) (L2.takes_of rfl rfl rfl rfl) (fun _ _ _ _ h => h))))
      (pss_cons (ps_set (i := 4) sc_Machine_combine.nd rfl (Or.inl rfl) (pe_meth0 (pv 0) T.cl_Machine T.me_Machine_take G_Machine_take (hr.mono (by decide)) b_Machine_take .nil (L2.passes_call (W := fun c d _ H => E c d H) (E := E) (L2.takes_of rfl rfl rfl rfl) (fun _ _ _ _ h => h))))
      (pss_one (ps_expr (pe_meth (pv 0) T.cl_Machine T.me_Machine_push G_Machine_push (hr.mono (by decide)) b_Machine_push .nil (L2.passes_call (W := fun c d _ H => E c d H) (E := E) (L2.takes_of rfl rfl rfl rfl) (fun _ _ _ _ h => h)) (pa_cons (pe_callV (k := 1) (i := 2) (hr.mono (by decide)) rfl (Or.inl rfl) (pa_cons (pv 4) (pa_cons (pv 3) pa_nil))) pa_nil))))))), ?_⟩
    replace k : Res a.C_Machine a.C_Failed p D L G H m (combineM c m) Q E := k
    unfold combineM at k
    walk_at "rs"
    refine ⟨_, _, _, rfl, rfl, wk, ?_⟩
    walk_at "rs"
    refine ⟨p, dx, _, rfl, hp, rfl, ?_⟩
    refine ⟨p, D, L, G, m, rfl, hm, hf, fun t1 m1 H1 e1 hm1 o1 => ?_, fun e m' H' h1 s1 o1 => k.2 (by rw [e]; rfl) m' H' h1 s1 o1⟩
    obtain ⟨hf1, lt1, st1, -⟩ := hf.take e1
    rw [e1] at k
    have k := k.on st1 o1
    obtain ⟨dx1, hp1, -⟩ := id hm1
    walk_at "rs"
    refine ⟨p, dx1, _, rfl, hp1, rfl, ?_⟩
    refine ⟨p, D, L, G, m1, rfl, hm1, hf1, fun t2 m2 H2 e2 hm2 o2 => ?_, fun e m' H' h1 s1 o1 => k.2 (by show (takeM m1).bind _ = _; rw [e]; rfl) m' H' h1 s1 o1⟩
    obtain ⟨hf2, lt2, st2, -⟩ := hf1.take e2
    have k : Res a.C_Machine a.C_Failed p D L G H1 m1 ((takeM m1).bind fun y => pushM (work c y.1 t1) y.2) Q E := k
    rw [e2] at k
    have k := k.on st2 o2
    obtain ⟨dx2, hp2, -⟩ := id hm2
    walk_at "rs"
    refine ⟨p, dx2, _, rfl, hp2, rfl, ?_⟩
    walk_at "rs"
    refine ⟨wf, wfd, _, _, rfl, wF, wb, wkp, ?_⟩
    walk_at "rs"
    exact ⟨t2, t1, rfl, lt2, lt1, p, D, L, G, m2, _, rfl, hm2, hf2, k⟩
theorem ok_Machine_move (TE : TxtE w K mg a) (T : Txt K mg a) : ∃ fd, FnOk P w K mg base (L2.CX P w) 2 a.d_Machine_move fd ["self", "sign"] (spSign a.C_Machine a.C_Failed (fun _ => moveM) fun _ => True) ∧ Binds K fd ["self", "sign"] [] := by
  obtain ⟨fd, F, b⟩ := T.d_Machine_move.F
  obtain ⟨fd_Machine_take, G_Machine_take, b_Machine_take⟩ := ok_Machine_take (P := P) (w := w) (base := base) TE T
  obtain ⟨fd_Machine_push, G_Machine_push, b_Machine_push⟩ := ok_Machine_push (P := P) (w := w) (base := base) TE T
  refine ⟨fd, F.okX sc_Machine_move (fun vs H Q E h => ?_) (fun cdv A outer s H vs Q E hr h => ?_), b⟩
  · obtain ⟨_, _, _, _, _, _, rfl, _⟩ := h
    rfl
  · obtain ⟨p, D, L, G, m, c, rfl, hc, hm, hf, k⟩ := h
    obtain ⟨dx, hp, hD, hL⟩ := id hm
    refine ⟨_, (pss_cons (ps_set (i := 2) sc_Machine_move.nd rfl (Or.inl rfl) (pe_meth0 (pv 0) T.cl_Machine T.me_Machine_take G_Machine_take (hr.mono (by decide)) b_Machine_take .nil (L2.passes_call (W := fun c d _ H => E c d H) (E := E) (L2.takes_of rfl rfl rfl rfl) (fun _ _ _ _ h => h))))
      (pss_one (ps_if (pt_cmpR op_eq (pv 1) pe_str (nomark _))
      (pss_cons (ps_expr (pe_meth (pv 0) T.cl_Machine T.me_Machine_push G_Machine_push (hr.mono (by decide)) b_Machine_push .nil (L2.passes_call (W := fun c d _ H => E c d H) (E := E) (L2.takes_of rfl rfl rfl rfl) (fun _ _ _ _ h => h)) (pa_cons (pv 2) pa_nil)))
        (pss_one (ps_expr (pe_meth (pv 0) T.cl_Machine T.me_Machine_push G_Machine_push (hr.mono (by decide)) b_Machine_push .nil (L2.passes_call (W := fun c d _ H => E c d H) (E := E) (L2.takes_of rfl rfl rfl rfl) (fun _ _ _ _ h => h)) (pa_cons (pv 2) pa_nil)))))
      (pss_one (ps_if (pt_cmpR op_eq (pv 1) pe_str (nomark _))
        (pss_one (ps_expr (pe_meth (pv 0) T.cl_Machine T.me_Machine_push G_Machine_push (hr.mono (by decide)) b_Machine_push .nil (L2.passes_call (W := fun c d _ H => E c d H) (E := E) (L2.takes_of rfl rfl rfl rfl) (fun _ _ _ _ h => h)) (pa_cons (pe_dget2 (hu_of hr) (pe_fld (pv 0) rfl) (pv 2) pe_int ⟨rfl, rfl, rfl, rfl⟩) pa_nil))))
        (pss_one (ps_dput (hu_of hr) (pe_fld (pv 0) rfl) (pv 2) (pe_meth0 (pv 0) T.cl_Machine T.me_Machine_take G_Machine_take (hr.mono (by decide)) b_Machine_take .nil (L2.passes_call (W := fun c d _ H => E c d H) (E := E) (L2.takes_of rfl rfl rfl rfl) (fun _ _ _ _ h => h))) rfl))))))), ?_⟩
    replace k : Res a.C_Machine a.C_Failed p D L G H m (moveM c m) Q E := k
    unfold moveM at k
    walk_at "rs"
    refine ⟨p, dx, _, rfl, hp, rfl, ?_⟩
    refine ⟨p, D, L, G, m, rfl, hm, hf, fun t1 m1 H1 e1 hm1 o1 => ?_, fun e m' H' h1 s1 o1 => k.2 (by rw [e]; rfl) m' H' h1 s1 o1⟩
    obtain ⟨hf1, lt1, st1, -⟩ := hf.take e1
    rw [e1] at k
    have k := k.on st1 o1
    have k : Res a.C_Machine a.C_Failed p D L G H1 m1 (if c = 104 then (pushM t1 m1).bind (pushM t1) else if c = 108 then pushM (getN m1.kv t1) m1 else (takeM m1).map fun y => { y.2 with kv := putN y.2.kv t1 y.1 }) Q E := k
    obtain ⟨dx1, hp1, hD1, hL1⟩ := id hm1
    walk_at "rs"
    refine ite2 (fun c1 => ?_) (fun c1 => ?_)
    · have c1 : c = 104 := (sg_eq c 104).mp (V.str.inj (of_decide_eq_true c1))
      rw [if_pos c1] at k
      walk_at "rs"
      refine ⟨p, dx1, _, rfl, hp1, rfl, ?_⟩
      walk_at "rs"
      refine ⟨p, D, L, G, m1, t1, rfl, hm1, hf1, fun m2 H2 e2 hm2 o2 => ?_, fun e m' H' h1 s1 o1 => k.2 (by rw [e]; rfl) m' H' h1 s1 o1⟩
      obtain ⟨hf2, st2, -⟩ := hf1.push e2
      rw [e2] at k
      have k := k.on st2 o2
      obtain ⟨dx2, hp2, -⟩ := id hm2
      walk_at "rs"
      refine ⟨p, dx2, _, rfl, hp2, rfl, ?_⟩
      walk_at "rs"
      exact ⟨p, D, L, G, m2, t1, rfl, hm2, hf2, k⟩
    · have c1 : c ≠ 104 := fun e => c1 (decide_eq_true (congrArg V.str ((sg_eq c 104).mpr e)))
      rw [if_neg c1] at k
      walk_at "rs"
      refine ite2 (fun c2 => ?_) (fun c2 => ?_)
      · have c2 : c = 108 := (sg_eq c 108).mp (V.str.inj (of_decide_eq_true c2))
        rw [if_pos c2] at k
        walk_at "rs"
        refine ⟨p, dx1, _, rfl, hp1, rfl, ?_⟩
        walk_at "rs"
        refine ⟨p, _, dx1, _, .ref D, rfl, hp1, T.cl_Machine, T.a_Machine_store, rfl, ?_⟩
        refine ⟨D, rfl, .inl ⟨_, .of hD1⟩, ?_⟩
        walk_at "rs"
        refine ⟨_, DGet.k (k := Sum.inl (t1 : Int)) hD1, ?_⟩
        rw [get_kv]
        exact ⟨p, D, L, G, m1, _, rfl, hm1, hf1, k⟩
      · have c2 : c ≠ 108 := fun e => c2 (decide_eq_true (congrArg V.str ((sg_eq c 108).mpr e)))
        rw [if_neg c2] at k
        walk_at "rs"
        refine ⟨p, dx1, _, rfl, hp1, rfl, ?_⟩
        refine ⟨p, D, L, G, m1, rfl, hm1, hf1, fun t2 m2 H2 e2 hm2 o2 => ?_, fun e m' H' h1 s1 o1 => k.2 (by rw [e]; rfl) m' H' h1 s1 o1⟩
        obtain ⟨hf2, lt2, st2, -⟩ := hf1.take e2
        rw [e2] at k
        have k := k.on st2 o2
        obtain ⟨npD, npL, nDL⟩ := hm2.ne
        obtain ⟨dx2, hp2, hD2, hL2⟩ := id hm2
        walk_at "rs"
        refine ⟨p, _, dx2, _, .ref D, rfl, hp2, T.cl_Machine, T.a_Machine_store, rfl, ?_⟩
        walk_at "rs"
        refine ⟨D, _, rfl, DPut.k (k := Sum.inl (t1 : Int)) hD2 (by rw [len_kv]; exact small1000 (by have : m2.kv.length ≤ 900 := hf2.2.1; omega)), ?_⟩
        refine k.1 _ _ rfl ⟨dx2, ?_, ?_, ?_⟩ fun b o n1 n2 n3 e => ?_
        · rw [upd_ne npD]
          exact hp2
        · rw [upd_same, put_kv]
        · rw [upd_ne (fun e => nDL e.symm)]
          exact hL2
        · rw [upd_ne n2]
          exact e
theorem ok_Machine_jump (TE : TxtE w K mg a) (T : Txt K mg a) : ∃ fd, FnOk P w K mg base (L2.CX P w) 2 a.d_Machine_jump fd ["self", "sign"] (spSign a.C_Machine a.C_Failed (fun _ => jumpM) fun _ => True) ∧ Binds K fd ["self", "sign"] [] := by
  obtain ⟨fd, F, b⟩ := T.d_Machine_jump.F
  obtain ⟨fd_Machine_take, G_Machine_take, b_Machine_take⟩ := ok_Machine_take (P := P) (w := w) (base := base) TE T
  refine ⟨fd, F.okX sc_Machine_jump (fun vs H Q E h => ?_) (fun cdv A outer s H vs Q E hr h => ?_), b⟩
  · obtain ⟨_, _, _, _, _, _, rfl, _⟩ := h
    rfl
  · obtain ⟨p, D, L, G, m, c, rfl, hc, hm, hf, k⟩ := h
    obtain ⟨dx, hp, hD, hL⟩ := id hm
    refine ⟨_, (pss_cons (ps_set (i := 2) sc_Machine_jump.nd rfl (Or.inl rfl) (pe_meth0 (pv 0) T.cl_Machine T.me_Machine_take G_Machine_take (hr.mono (by decide)) b_Machine_take .nil (L2.passes_call (W := fun c d _ H => E c d H) (E := E) (L2.takes_of rfl rfl rfl rfl) (fun _ _ _ _ h => h))))
      (pss_one (ps_if (PW.pt (pw_or (pt_cmpR op_eq (pv 1) pe_str (nomark _)) (pw_or1 (pt_cmpR op_eq (pe_meth0 (pv 0) T.cl_Machine T.me_Machine_take G_Machine_take (hr.mono (by decide)) b_Machine_take .nil (L2.passes_call (W := fun c d _ H => E c d H) (E := E) (L2.takes_of rfl rfl rfl rfl) (fun _ _ _ _ h => h))) pe_int (nomark _)))))
      (pss_one (ps_fld (pv 0) (pv 2) rfl))
      pss_nil))), ?_⟩
    replace k : Res a.C_Machine a.C_Failed p D L G H m (jumpM c m) Q E := k
    unfold jumpM at k
    walk_at "rs"
    refine ⟨p, dx, _, rfl, hp, rfl, ?_⟩
    refine ⟨p, D, L, G, m, rfl, hm, hf, fun t1 m1 H1 e1 hm1 o1 => ?_, fun e m' H' h1 s1 o1 => k.2 (by rw [e]; rfl) m' H' h1 s1 o1⟩
    obtain ⟨hf1, lt1, st1, -⟩ := hf.take e1
    rw [e1] at k
    have k := k.on st1 o1
    have k : Res a.C_Machine a.C_Failed p D L G H1 m1 (if c = 106 then some { m1 with pl := t1 } else (takeM m1).map fun y => if y.1 = 0 then { y.2 with pl := t1 } else y.2) Q E := k
    obtain ⟨npD, npL, nDL⟩ := hm1.ne
    obtain ⟨dx1, hp1, hD1, hL1⟩ := id hm1
    walk_at "rs"
    have put : ∀ (m2 : Mc) (H2 : Hp), MAt a.C_Machine H2 p D L G m2 → ∃ dx2, H2 p = some (.ins a.C_Machine dx2 [("code", .str G.code), ("given", .int (G.given : Nat)), ("amount", .int (G.amount : Nat)), ("store", .ref D), ("stack", .ref L), ("place", .int (m2.pl : Nat)), ("paid", .int (m2.pd : Nat)), ("steps", .int (m2.st : Nat))]) ∧
        MAt a.C_Machine (upd H2 p (.ins a.C_Machine dx2 [("code", .str G.code), ("given", .int (G.given : Nat)), ("amount", .int (G.amount : Nat)), ("store", .ref D), ("stack", .ref L), ("place", .int (t1 : Nat)), ("paid", .int (m2.pd : Nat)), ("steps", .int (m2.st : Nat))])) p D L G { m2 with pl := t1 } := fun m2 H2 h2 => by
      obtain ⟨n1, n2, n3⟩ := h2.ne
      obtain ⟨dx2, hp2, hD2, hL2⟩ := h2
      exact ⟨dx2, hp2, dx2, upd_same, by rw [upd_ne (fun e => n1 e.symm)]; exact hD2, by rw [upd_ne (fun e => n2 e.symm)]; exact hL2⟩
    refine ite2 (fun c1 => ?_) (fun c1 => ?_)
    · have c1 : c = 106 := (sg_eq c 106).mp (V.str.inj (of_decide_eq_true c1))
      rw [if_pos c1] at k
      obtain ⟨dx2, hp2, hm2⟩ := put m1 H1 hm1
      walk_at "rs"
      refine ⟨p, _, dx2, _, rfl, hp2, T.cl_Machine, T.a_Machine_place, (by show 8 < 1000; decide), ?_⟩
      exact k.1 _ _ rfl hm2 fun b o n1 n2 n3 e => by rw [upd_ne n1]; exact e
    · have c1 : c ≠ 106 := fun e => c1 (decide_eq_true (congrArg V.str ((sg_eq c 106).mpr e)))
      rw [if_neg c1] at k
      walk_at "rs"
      refine ⟨p, dx1, _, rfl, hp1, rfl, ?_⟩
      refine ⟨p, D, L, G, m1, rfl, hm1, hf1, fun t2 m2 H2 e2 hm2 o2 => ?_, fun e m' H' h1 s1 o1 => k.2 (by rw [e]; rfl) m' H' h1 s1 o1⟩
      obtain ⟨hf2, lt2, st2, -⟩ := hf1.take e2
      rw [e2] at k
      have k := k.on st2 o2
      have k : Res a.C_Machine a.C_Failed p D L G H2 m2 (some (if t2 = 0 then { m2 with pl := t1 } else m2)) Q E := k
      obtain ⟨dx2, hp2, hm3⟩ := put m2 H2 hm2
      walk_at "rs"
      refine ite2 (fun c2 => ?_) (fun c2 => ?_)
      · have c2 : t2 = 0 := by
          have := V.int.inj (of_decide_eq_true c2)
          omega
        rw [if_pos c2] at k
        walk_at "rs"
        refine ⟨p, _, dx2, _, rfl, hp2, T.cl_Machine, T.a_Machine_place, (by show 8 < 1000; decide), ?_⟩
        exact k.1 _ _ rfl hm3 fun b o n1 n2 n3 e => by rw [upd_ne n1]; exact e
      · have c2 : ¬ t2 = 0 := fun h => c2 (decide_eq_true (by rw [h]; rfl))
        rw [if_neg c2] at k
        exact k.1 _ _ rfl hm2 .rfl
theorem ok_Machine_settle (TE : TxtE w K mg a) (T : Txt K mg a) : ∃ fd, FnOk P w K mg base (L2.CX P w) 2 a.d_Machine_settle fd ["self", "sign"] (spSign a.C_Machine a.C_Failed (fun _ => settleM) fun _ => True) ∧ Binds K fd ["self", "sign"] [] := by
  obtain ⟨fd, F, b⟩ := T.d_Machine_settle.F
  obtain ⟨fd_Machine_take, G_Machine_take, b_Machine_take⟩ := ok_Machine_take (P := P) (w := w) (base := base) TE T
  refine ⟨fd, F.okX sc_Machine_settle (fun vs H Q E h => ?_) (fun cdv A outer s H vs Q E hr h => ?_), b⟩
  · obtain ⟨_, _, _, _, _, _, rfl, _⟩ := h
    rfl
  · obtain ⟨p, D, L, G, m, c, rfl, hc, hm, hf, k⟩ := h
    obtain ⟨dx, hp, hD, hL⟩ := id hm
    refine ⟨_, (pss_cons (ps_set (i := 2) sc_Machine_settle.nd rfl (Or.inl rfl) (pe_meth0 (pv 0) T.cl_Machine T.me_Machine_take G_Machine_take (hr.mono (by decide)) b_Machine_take .nil (L2.passes_call (W := fun c d _ H => E c d H) (E := E) (L2.takes_of rfl rfl rfl rfl) (fun _ _ _ _ h => h))))
      (pss_one (ps_if (pt_cmpR op_eq (pv 1) pe_str (nomark _))
      (pss_one (ps_fldaug (pv 0) (pv 2) in_add))
      (pss_one (ps_if (pt_cmpR op_eq (pv 2) pe_int (nomark _))
        (pss_one (ps_raise rfl (takes_of rfl rfl rfl rfl) (pmk_own PySem.F.excBase_ValueError TE.x_Failed TE.g_Failed TE.kc_Failed (raises_own TE.b_Failed TE.t_Failed) rfl)))
        pss_nil))))), ?_⟩
    replace k : Res a.C_Machine a.C_Failed p D L G H m (settleM c m) Q E := k
    unfold settleM at k
    walk_at "rs"
    refine ⟨p, dx, _, rfl, hp, rfl, ?_⟩
    refine ⟨p, D, L, G, m, rfl, hm, hf, fun t1 m1 H1 e1 hm1 o1 => ?_, fun e m' H' h1 s1 o1 => k.2 (by rw [e]; rfl) m' H' h1 s1 o1⟩
    obtain ⟨hf1, lt1, st1, -⟩ := hf.take e1
    rw [e1] at k
    have k := k.on st1 o1
    have k : Res a.C_Machine a.C_Failed p D L G H1 m1 (if c = 121 then some { m1 with pd := m1.pd + t1 } else if t1 = 0 then none else some m1) Q E := k
    obtain ⟨npD, npL, nDL⟩ := hm1.ne
    obtain ⟨dx1, hp1, hD1, hL1⟩ := id hm1
    walk_at "rs"
    refine ite2 (fun c1 => ?_) (fun c1 => ?_)
    · have c1 : c = 121 := (sg_eq c 121).mp (V.str.inj (of_decide_eq_true c1))
      rw [if_pos c1] at k
      walk_at "rs"
      refine ⟨p, _, dx1, _, .int (m1.pd : Nat), rfl, hp1, T.cl_Machine, T.a_Machine_paid, rfl, ?_⟩
      walk_at "rs"
      refine ⟨dx1, _, hp1, (by show 8 < 1000; decide), ?_⟩
      refine k.1 _ _ rfl ⟨dx1, upd_same, by rw [upd_ne (fun e => npD e.symm)]; exact hD1, by rw [upd_ne (fun e => npL e.symm)]; exact hL1⟩ fun b o n1 n2 n3 e => by rw [upd_ne n1]; exact e
    · have c1 : c ≠ 121 := fun e => c1 (decide_eq_true (congrArg V.str ((sg_eq c 121).mpr e)))
      rw [if_neg c1] at k
      walk_at "rs"
      refine ite2 (fun c2 => ?_) (fun c2 => ?_)
      · have c2 : t1 = 0 := by
          have := V.int.inj (of_decide_eq_true c2)
          omega
        rw [if_pos c2] at k
        exact k.2 rfl m1 H1 hm1 rfl .rfl
      · have c2 : ¬ t1 = 0 := fun h => c2 (decide_eq_true (by rw [h]; rfl))
        rw [if_neg c2] at k
        exact k.1 _ _ rfl hm1 .rfl

theorem MAt.new {C : Addr} {H : Hp} {p D L t : Addr} {G : Gv} {m : Mc} {o : HO} (h : MAt C H p D L G m) (n : H t = none) : MAt C (upd H t o) p D L G m := by
  obtain ⟨dx, h1, h2, h3⟩ := h
  exact ⟨dx, by rw [upd_ne (ne_of_none h1 n)]; exact h1, by rw [upd_ne (ne_of_none h2 n)]; exact h2, by rw [upd_ne (ne_of_none h3 n)]; exact h3⟩
theorem Oth.new {H : Hp} {p D L t : Addr} {o : HO} (n : H t = none) : Oth p D L H (upd H t o) := fun b u _ _ _ e => by
  rw [upd_ne (ne_of_none e n)]
  exact e
theorem ok_Machine_perform (TE : TxtE w K mg a) (T : Txt K mg a) : ∃ fd, FnOk P w K mg base (L2.CX P w) 3 a.d_Machine_perform fd ["self", "sign"] (spSign a.C_Machine a.C_Failed performM fun _ => True) ∧ Binds K fd ["self", "sign"] [] := by
  obtain ⟨fd, F, b⟩ := T.d_Machine_perform.F
  obtain ⟨fd_Machine_push, G_Machine_push, b_Machine_push⟩ := ok_Machine_push (P := P) (w := w) (base := base) TE T
  obtain ⟨fd_Machine_push_number, G_Machine_push_number, b_Machine_push_number⟩ := ok_Machine_push_number (P := P) (w := w) (base := base) TE T
  obtain ⟨fd_Machine_combine, G_Machine_combine, b_Machine_combine⟩ := ok_Machine_combine (P := P) (w := w) (base := base) TE T
  obtain ⟨fd_Machine_move, G_Machine_move, b_Machine_move⟩ := ok_Machine_move (P := P) (w := w) (base := base) TE T
  obtain ⟨fd_Machine_jump, G_Machine_jump, b_Machine_jump⟩ := ok_Machine_jump (P := P) (w := w) (base := base) TE T
  obtain ⟨fd_Machine_settle, G_Machine_settle, b_Machine_settle⟩ := ok_Machine_settle (P := P) (w := w) (base := base) TE T
  refine ⟨fd, F.okX sc_Machine_perform (fun vs H Q E h => ?_) (fun cdv A outer s H vs Q E hr h => ?_), b⟩
  · obtain ⟨_, _, _, _, _, _, rfl, _⟩ := h
    rfl
  · obtain ⟨p, D, L, G, m, c, rfl, hc, hm, hf, k⟩ := h
    obtain ⟨dx, hp, hD, hL⟩ := id hm
    have dig : c ∈ (Str.ofString "0123456789").cps.toList ↔ 48 ≤ c ∧ c ≤ 57 := by
      rw [show (Str.ofString "0123456789").cps.toList = [48, 49, 50, 51, 52, 53, 54, 55, 56, 57] by decide +kernel]
      simp only [List.mem_cons, List.not_mem_nil, or_false]
      omega
    refine ⟨_, (pss_one (ps_if (pt_cmpR op_in_sign (pv 1) (pe_glob (v := (.str "0123456789")) rfl T.c_DIGITS.choose_spec ⟨_, rfl⟩) (by rfl))
      (pss_one (ps_expr (pe_meth (pv 0) T.cl_Machine T.me_Machine_push G_Machine_push (hr.mono (by decide)) b_Machine_push .nil (L2.passes_call (W := fun c d _ H => E c d H) (E := E) (L2.takes_of rfl rfl rfl rfl) (fun _ _ _ _ h => h)) (pa_cons (pe_callTy call_int_str (by rfl) T.n_int (by decide +kernel) (pa_cons (pv 1) pa_nil)) pa_nil))))
      (pss_one (ps_if (pt_cmpR op_in_seq (pv 1) (pe_tup (pa_cons pe_str (pa_cons pe_str (pa_cons pe_str pa_nil)))) (by rfl))
        (pss_one (ps_expr (pe_meth (pv 0) T.cl_Machine T.me_Machine_push_number G_Machine_push_number (hr.mono (by decide)) b_Machine_push_number .nil (L2.passes_call (W := fun c d _ H => E c d H) (E := E) (L2.takes_of rfl rfl rfl rfl) (fun _ _ _ _ h => h)) (pa_cons (pv 1) pa_nil))))
        (pss_one (ps_if (pt_cmpR op_inKd (pv 1) (pe_glob (v := .ref a.P_OF_TWO) rfl TE.g_OF_TWO rfl) (by rfl))
          (pss_one (ps_expr (pe_meth (pv 0) T.cl_Machine T.me_Machine_combine G_Machine_combine (hr.mono (by decide)) b_Machine_combine .nil (L2.passes_call (W := fun c d _ H => E c d H) (E := E) (L2.takes_of rfl rfl rfl rfl) (fun _ _ _ _ h => h)) (pa_cons (pv 1) pa_nil))))
          (pss_one (ps_if (pt_cmpR op_in_seq (pv 1) (pe_tup (pa_cons pe_str (pa_cons pe_str (pa_cons pe_str pa_nil)))) (by rfl))
            (pss_one (ps_expr (pe_meth (pv 0) T.cl_Machine T.me_Machine_move G_Machine_move (hr.mono (by decide)) b_Machine_move .nil (L2.passes_call (W := fun c d _ H => E c d H) (E := E) (L2.takes_of rfl rfl rfl rfl) (fun _ _ _ _ h => h)) (pa_cons (pv 1) pa_nil))))
            (pss_one (ps_if (pt_cmpR op_in_seq (pv 1) (pe_tup (pa_cons pe_str (pa_cons pe_str pa_nil))) (by rfl))
              (pss_one (ps_expr (pe_meth (pv 0) T.cl_Machine T.me_Machine_jump G_Machine_jump (hr.mono (by decide)) b_Machine_jump .nil (L2.passes_call (W := fun c d _ H => E c d H) (E := E) (L2.takes_of rfl rfl rfl rfl) (fun _ _ _ _ h => h)) (pa_cons (pv 1) pa_nil))))
              (pss_one (ps_expr (pe_meth (pv 0) T.cl_Machine T.me_Machine_settle G_Machine_settle (hr.mono (by decide)) b_Machine_settle .nil (L2.passes_call (W := fun c d _ H => E c d H) (E := E) (L2.takes_of rfl rfl rfl rfl) (fun _ _ _ _ h => h)) (pa_cons (pv 1) pa_nil)))))))))))))), ?_⟩
    unfold performM at k
    walk_at "rs"
    refine ite2 (fun c1 => ?_) (fun c1 => ?_)
    · have c1 := dig.mp (of_decide_eq_true c1)
      rw [if_pos c1] at k
      walk_at "rs"
      refine ⟨p, dx, _, rfl, hp, rfl, ?_⟩
      walk_at "rs"
      have hall : NumText.AllDigits [c] := fun n hn => by
        rw [List.mem_singleton.mp hn]
        exact c1
      refine ⟨_, _, rfl, PySem.intText_digits (x := ⟨#[c]⟩) hall (fun e => nomatch e) (by show 1 ≤ _; decide), (by show 1 ≤ 640; decide), ?_⟩
      refine ⟨p, D, L, G, m, c - 48, ?_, hm, hf, k⟩
      show [V.ref p, V.int ((NumText.digitsVal [c] : Nat) : Int)] = _
      rw [show NumText.digitsVal [c] = c - 48 by simp [NumText.digitsVal]]
    rw [if_neg (fun h => c1 (decide_eq_true (dig.mpr h)))] at k
    walk_at "rs"
    refine ⟨(by show 3 ≤ sizeLine; decide), fun t1 n1 => ?_⟩
    have hm1 := hm.new (o := .tup ([103, 105, 110].map fun k => V.str ⟨#[k]⟩)) n1
    replace k := k.on (m1 := m) rfl (Oth.new (o := .tup ([103, 105, 110].map fun k => V.str ⟨#[k]⟩)) n1)
    clear hm hp hD hL
    refine ⟨t1, [103, 105, 110].map fun k => V.str ⟨#[k]⟩, rfl, .inr (SqT.of upd_same), rfl, rfl, ?_⟩
    replace hm1 : MAt a.C_Machine (upd H t1 (.tup [.str "g", .str "i", .str "n"])) p D L G m := hm1
    obtain ⟨dx, hp, hD, hL⟩ := id hm1
    walk_at "rs"
    refine ite2 (fun c2 => ?_) (fun c2 => ?_)
    · replace c2 : inV (V.str ⟨#[c]⟩) ([103, 105, 110].map fun k => V.str ⟨#[k]⟩) = true := c2
      rw [in_signs, decide_eq_true_iff] at c2
      rw [if_pos (by simpa using c2)] at k
      walk_at "rs"
      refine ⟨p, dx, _, rfl, hp, rfl, ?_⟩
      walk_at "rs"
      exact ⟨p, D, L, G, m, c, rfl, trivial, hm1, hf, k⟩
    replace c2 : ¬ inV (V.str ⟨#[c]⟩) ([103, 105, 110].map fun k => V.str ⟨#[k]⟩) = true := c2
    rw [in_signs, decide_eq_true_iff] at c2
    rw [if_neg (by simpa using c2)] at k
    walk_at "rs"
    refine ⟨_, _, _, rfl, rfl, TE.tab_OF_TWO.has _, ?_⟩
    walk_at "rs"
    rw [of_two]
    refine ite2 (fun c3 => ?_) (fun c3 => ?_)
    · have c3 := of_decide_eq_true c3
      rw [if_pos c3] at k
      walk_at "rs"
      refine ⟨p, dx, _, rfl, hp, rfl, ?_⟩
      walk_at "rs"
      exact ⟨p, D, L, G, m, c, rfl, c3, hm1, hf, k⟩
    rw [if_neg (fun h => c3 (decide_eq_true h))] at k
    walk_at "rs"
    refine ⟨(by show 3 ≤ sizeLine; decide), fun t2 n2 => ?_⟩
    have hm2 := hm1.new (o := .tup ([104, 108, 117].map fun k => V.str ⟨#[k]⟩)) n2
    replace k := Res.on (m1 := m) k rfl (Oth.new (o := .tup ([104, 108, 117].map fun k => V.str ⟨#[k]⟩)) n2)
    clear hm1 hp hD hL
    refine ⟨t2, [104, 108, 117].map fun k => V.str ⟨#[k]⟩, rfl, .inr (SqT.of upd_same), rfl, rfl, ?_⟩
    obtain ⟨dx, hp, hD, hL⟩ := id hm2
    walk_at "rs"
    refine ite2 (fun c4 => ?_) (fun c4 => ?_)
    · replace c4 : inV (V.str ⟨#[c]⟩) ([104, 108, 117].map fun k => V.str ⟨#[k]⟩) = true := c4
      rw [in_signs, decide_eq_true_iff] at c4
      rw [if_pos (by simpa using c4)] at k
      walk_at "rs"
      refine ⟨p, dx, _, rfl, hp, rfl, ?_⟩
      walk_at "rs"
      exact ⟨p, D, L, G, m, c, rfl, trivial, hm2, hf, k⟩
    replace c4 : ¬ inV (V.str ⟨#[c]⟩) ([104, 108, 117].map fun k => V.str ⟨#[k]⟩) = true := c4
    rw [in_signs, decide_eq_true_iff] at c4
    rw [if_neg (by simpa using c4)] at k
    walk_at "rs"
    refine ⟨(by show 2 ≤ sizeLine; decide), fun t3 n3 => ?_⟩
    have hm3 := hm2.new (o := .tup ([106, 102].map fun k => V.str ⟨#[k]⟩)) n3
    replace k := Res.on (m1 := m) k rfl (Oth.new (o := .tup ([106, 102].map fun k => V.str ⟨#[k]⟩)) n3)
    clear hm2 hp hD hL
    refine ⟨t3, [106, 102].map fun k => V.str ⟨#[k]⟩, rfl, .inr (SqT.of upd_same), rfl, rfl, ?_⟩
    obtain ⟨dx, hp, hD, hL⟩ := id hm3
    walk_at "rs"
    refine ite2 (fun c5 => ?_) (fun c5 => ?_)
    · replace c5 : inV (V.str ⟨#[c]⟩) ([106, 102].map fun k => V.str ⟨#[k]⟩) = true := c5
      rw [in_signs, decide_eq_true_iff] at c5
      rw [if_pos (by simpa using c5)] at k
      walk_at "rs"
      refine ⟨p, dx, _, rfl, hp, rfl, ?_⟩
      walk_at "rs"
      exact ⟨p, D, L, G, m, c, rfl, trivial, hm3, hf, k⟩
    replace c5 : ¬ inV (V.str ⟨#[c]⟩) ([106, 102].map fun k => V.str ⟨#[k]⟩) = true := c5
    rw [in_signs, decide_eq_true_iff] at c5
    rw [if_neg (by simpa using c5)] at k
    walk_at "rs"
    refine ⟨p, dx, _, rfl, hp, rfl, ?_⟩
    walk_at "rs"
    exact ⟨p, D, L, G, m, c, rfl, trivial, hm3, hf, k⟩
/-- the run -/
def finM (G : Gv) : Nat → Mc → Option Mc × Nat
  | 0, m => (none, m.st)
  | n + 1, m => match (TL.tl G.code)[m.pl]? with
    | none => (some m, m.st)
    | some c => if m.st = 200 then (none, 200) else match performM G c { m with st := m.st + 1, pl := m.pl + 1 } with
      | none => (none, m.st + 1)
      | some m' => finM G n m'
theorem Fit.perform {G : Gv} {c : Nat} {m m' : Mc} (f : Fit m) (few : m.kv.length ≤ 899) (e : performM G c m = some m') : Fit m' ∧ m'.st = m.st ∧ m'.kv.length ≤ m.kv.length + 1 := by
  have pu : ∀ {v : Nat} {m1 m2 : Mc}, Fit m1 → m1.st = m.st → m1.kv = m.kv → pushM v m1 = some m2 → Fit m2 ∧ m2.st = m.st ∧ m2.kv.length ≤ m.kv.length + 1 := fun f1 s1 k1 e1 => by
    obtain ⟨g1, g2, g3, -⟩ := f1.push e1
    exact ⟨g1, g2.trans s1, by rw [g3, k1]; omega⟩
  have ta : ∀ {m1 m2 : Mc} {g : Nat × Mc → Option Mc}, Fit m1 → m1.st = m.st → m1.kv = m.kv → (takeM m1).bind g = some m2 → ∃ x, takeM m1 = some x ∧ g x = some m2 ∧ Fit x.2 ∧ x.1 < 1000000 ∧ x.2.st = m.st ∧ x.2.kv = m.kv := fun {m1 m2 g} f1 s1 k1 e1 => by
    cases h : takeM m1 with
    | none => rw [h] at e1; cases e1
    | some x =>
      rw [h] at e1
      obtain ⟨g1, g2, g3, g4, -⟩ := f1.take h
      exact ⟨x, rfl, e1, g1, g2, g3.trans s1, g4.trans k1⟩
  unfold performM at e
  split at e
  · exact pu f rfl rfl e
  split at e
  · unfold numberM at e
    split at e
    · exact pu f rfl rfl e
    split at e
    · exact pu f rfl rfl e
    · exact pu f rfl rfl e
  split at e
  · unfold combineM at e
    obtain ⟨x, hx, e, f1, -, s1, k1⟩ := ta f rfl rfl e
    obtain ⟨y, hy, e, f2, -, s2, k2⟩ := ta f1 s1 k1 e
    exact pu f2 s2 k2 e
  split at e
  · unfold moveM at e
    obtain ⟨x, hx, e, f1, l1, s1, k1⟩ := ta f rfl rfl e
    split at e
    · cases h : pushM x.1 x.2 with
      | none => rw [h] at e; cases e
      | some m2 =>
        rw [h] at e
        obtain ⟨g1, g2, g3, -⟩ := f1.push h
        exact pu g1 (g2.trans s1) (g3.trans k1) e
    split at e
    · exact pu f1 s1 k1 e
    · cases h : takeM x.2 with
      | none => rw [h] at e; cases e
      | some y =>
        rw [h] at e
        obtain ⟨g1, g2, g3, g4, -⟩ := f1.take h
        obtain rfl := Option.some.inj e
        have := len_put y.2.kv x.1 y.1
        rw [g4, k1] at this
        refine ⟨⟨g1.1, ?_, g1.2.2⟩, g3.trans s1, ?_⟩
        · show (putN y.2.kv x.1 y.1).length ≤ 900
          rw [g4, k1]
          omega
        · show (putN y.2.kv x.1 y.1).length ≤ _
          rw [g4, k1]
          exact this
  split at e
  · unfold jumpM at e
    obtain ⟨x, hx, e, f1, l1, s1, k1⟩ := ta f rfl rfl e
    split at e
    · obtain rfl := Option.some.inj e
      exact ⟨f1, s1, by show x.2.kv.length ≤ _; rw [k1]; omega⟩
    · cases h : takeM x.2 with
      | none => rw [h] at e; cases e
      | some y =>
        rw [h] at e
        obtain ⟨g1, g2, g3, g4, -⟩ := f1.take h
        have e := Option.some.inj e
        have e : (if y.1 = 0 then { y.2 with pl := x.1 } else y.2) = m' := e
        split at e
        · subst e
          exact ⟨g1, g3.trans s1, by show y.2.kv.length ≤ _; rw [g4, k1]; omega⟩
        · subst e
          exact ⟨g1, g3.trans s1, by rw [g4, k1]; omega⟩
  · unfold settleM at e
    obtain ⟨x, hx, e, f1, l1, s1, k1⟩ := ta f rfl rfl e
    split at e
    · obtain rfl := Option.some.inj e
      exact ⟨f1, s1, by show x.2.kv.length ≤ _; rw [k1]; omega⟩
    split at e
    · cases e
    · obtain rfl := Option.some.inj e
      exact ⟨f1, s1, by rw [k1]; omega⟩
def spFin (C CE : Addr) : Sp := fun vs H Q E => ∃ (p D L : Addr) (G : Gv) (m : Mc), vs = [.ref p] ∧ MAt C H p D L G m ∧ Fit m ∧ m.st = 0 ∧ m.kv.length ≤ 600 ∧ G.code.length ≤ 5000 ∧
  (∀ m' n H', finM G 201 m = (some m', n) → MAt C H' p D L G m' → Fit m' → Oth p D L H H' → Q .non H') ∧ (∀ n, finM G 201 m = (none, n) → ∀ m' H', MAt C H' p D L G m' → m'.st = n → Oth p D L H H' → E (.ref CE) none H')
theorem ok_Machine_finish (TE : TxtE w K mg a) (T : Txt K mg a) : ∃ fd, FnOk P w K mg base (L2.CX P w) 4 a.d_Machine_finish fd ["self"] (spFin a.C_Machine a.C_Failed) ∧ Binds K fd ["self"] [] := by
  obtain ⟨fd, F, b⟩ := T.d_Machine_finish.F
  obtain ⟨fd_Machine_perform, G_Machine_perform, b_Machine_perform⟩ := ok_Machine_perform (P := P) (w := w) (base := base) TE T
  refine ⟨fd, F.okX sc_Machine_finish (fun vs H Q E h => ?_) (fun cdv A outer s H vs Q E hr h => ?_), b⟩
  · obtain ⟨_, _, _, _, _, rfl, _⟩ := h
    rfl
  · obtain ⟨p, D, L, G, m, rfl, hm, hf, h0, few, lc, k1, k2⟩ := h
    obtain ⟨r, er⟩ : ∃ r, r = finM G 201 m := ⟨_, rfl⟩
    rw [← er] at k1 k2
    refine ⟨_, (pss_one (ps_while (passes_of rfl) (pt_cmpR op_lt (pe_fld (pv 0) rfl) (pe_callB call_len_str (by rfl) T.n_len PySem.boot_len (pa_cons (pe_fld (pv 0) rfl) pa_nil)) (nomark _))
      (pss_cons (ps_if (pt_cmpR op_eq (pe_fld (pv 0) rfl) (pe_glob (v := (.int 200)) rfl T.c_MOST_STEPS.choose_spec ⟨_, rfl⟩) (nomark _))
        (pss_one (ps_raise rfl (takes_of rfl rfl rfl rfl) (pmk_own PySem.F.excBase_ValueError TE.x_Failed TE.g_Failed TE.kc_Failed (raises_own TE.b_Failed TE.t_Failed) rfl)))
        pss_nil)
        (pss_cons (ps_set (i := 1) sc_Machine_finish.nd rfl (Or.inl rfl) (pe_ix ix_str (pe_fld (pv 0) rfl) (pe_fld (pv 0) rfl) (fun _ _ => rfl)))
        (pss_cons (ps_fldaug (pv 0) pe_int in_add)
        (pss_cons (ps_fldaug (pv 0) pe_int in_add)
        (pss_one (ps_expr (pe_meth (pv 0) T.cl_Machine T.me_Machine_perform G_Machine_perform (hr.mono (by decide)) b_Machine_perform .nil (L2.passes_call (W := fun c d _ H => E c d H) (E := E) (L2.takes_of rfl rfl rfl rfl) (fun _ _ _ _ h => h)) (pa_cons (pv 1) pa_nil)))))))))), ?_⟩
    refine ⟨fun n σ H2 => ∃ (m2 : Mc) (v : Option V), n = 201 - m2.st ∧ σ = [some (.ref p), v] ∧ MAt a.C_Machine H2 p D L G m2 ∧ Fit m2 ∧ m2.st ≤ 200 ∧ m2.kv.length ≤ 600 + m2.st ∧ Oth p D L H H2 ∧ r = finM G (201 - m2.st) m2,
      ⟨_, m, _, rfl, rfl, hm, hf, by omega, by omega, .rfl, by rw [h0]; exact er⟩, ?_⟩
    rintro n σ H2 ⟨m2, v, rfl, rfl, hm2, hf2, st2, few2, o2, e2⟩
    obtain ⟨npD, npL, nDL⟩ := hm2.ne
    obtain ⟨dx, hp, hD, hL⟩ := id hm2
    obtain ⟨f, ef⟩ : ∃ f, 201 - m2.st = f + 1 := ⟨200 - m2.st, by omega⟩
    rw [ef, finM] at e2
    walk_at "rs"
    refine ⟨p, _, dx, _, .int (m2.pl : Nat), rfl, hp, T.cl_Machine, T.a_Machine_place, rfl, ?_⟩
    walk_at "rs"
    refine ⟨p, _, dx, _, .str G.code, rfl, hp, T.cl_Machine, T.a_Machine_code, rfl, ?_⟩
    walk_at "rs"
    refine ⟨(by rw [sizeLine_eq]; omega), ?_⟩
    walk_at "rs"
    refine ite2 (fun c1 => ?_) (fun c1 => ?_)
    · have c1 : m2.pl < G.code.length := by
        have := of_decide_eq_true c1
        omega
      obtain ⟨c, eg⟩ : ∃ c, (TL.tl G.code)[m2.pl]? = some c := ⟨_, List.getElem?_eq_getElem (by rw [← TL.len_tl]; exact c1)⟩
      rw [eg] at e2
      replace e2 : r = if m2.st = 200 then (none, 200) else match performM G c { m2 with st := m2.st + 1, pl := m2.pl + 1 } with
        | none => (none, m2.st + 1)
        | some m' => finM G f m' := e2
      refine ⟨fun σ' H' => ∃ (m3 : Mc) (v : Option V), σ' = [some (.ref p), v] ∧ MAt a.C_Machine H' p D L G m3 ∧ Fit m3 ∧ m3.st = m2.st + 1 ∧ m3.st ≤ 200 ∧ m3.kv.length ≤ 600 + m3.st ∧ Oth p D L H H' ∧ r = finM G f m3, ?_, ?_⟩
      · rintro σ' H' ⟨m3, v, rfl, h1, h2, h3, h4, h5, h6, h7⟩
        exact ⟨201 - m3.st, by omega, m3, v, rfl, rfl, h1, h2, h4, h5, h6, by rw [h7]; congr 1; omega⟩
      walk_at "rs"
      refine ⟨p, _, dx, _, .int (m2.st : Nat), rfl, hp, T.cl_Machine, T.a_Machine_steps, rfl, ?_⟩
      walk_at "rs"
      refine ite2 (fun c2 => ?_) (fun c2 => ?_)
      · have c2 : m2.st = 200 := by
          have := V.int.inj (of_decide_eq_true c2)
          omega
        rw [if_pos c2] at e2
        exact k2 _ e2 m2 H2 hm2 c2 o2
      have c2 : ¬ m2.st = 200 := fun h => c2 (decide_eq_true (by rw [h]; rfl))
      rw [if_neg c2] at e2
      walk_at "rs"
      refine ⟨p, _, dx, _, .str G.code, rfl, hp, T.cl_Machine, T.a_Machine_code, rfl, ?_⟩
      walk_at "rs"
      refine ⟨p, _, dx, _, .int (m2.pl : Nat), rfl, hp, T.cl_Machine, T.a_Machine_place, rfl, ?_⟩
      walk_at "rs"
      refine ⟨G.code, m2.pl, c, rfl, rfl, (by rw [sizeLine_eq]; omega), atI_nat eg, ?_⟩
      walk_at "rs"
      refine ⟨p, _, dx, _, .int (m2.st : Nat), rfl, hp, T.cl_Machine, T.a_Machine_steps, rfl, ?_⟩
      walk_at "rs"
      refine ⟨dx, _, hp, (by show 8 < 1000; decide), ?_⟩
      walk_at "rs"
      refine ⟨p, _, dx, _, .int (m2.pl : Nat), rfl, upd_same, T.cl_Machine, T.a_Machine_place, rfl, ?_⟩
      walk_at "rs"
      refine ⟨dx, _, upd_same, (by show 8 < 1000; decide), ?_⟩
      rw [upd_upd]
      have hm3 : MAt a.C_Machine (upd H2 p (.ins a.C_Machine dx [("code", .str G.code), ("given", .int (G.given : Nat)), ("amount", .int (G.amount : Nat)), ("store", .ref D), ("stack", .ref L), ("place", .int ((m2.pl + 1 : Nat) : Int)), ("paid", .int (m2.pd : Nat)), ("steps", .int ((m2.st + 1 : Nat) : Int))])) p D L G { m2 with st := m2.st + 1, pl := m2.pl + 1 } :=
        ⟨dx, upd_same, by rw [upd_ne (fun e => npD e.symm)]; exact hD, by rw [upd_ne (fun e => npL e.symm)]; exact hL⟩
      have o3 : Oth p D L H2 (upd H2 p (.ins a.C_Machine dx [("code", .str G.code), ("given", .int (G.given : Nat)), ("amount", .int (G.amount : Nat)), ("store", .ref D), ("stack", .ref L), ("place", .int ((m2.pl + 1 : Nat) : Int)), ("paid", .int (m2.pd : Nat)), ("steps", .int ((m2.st + 1 : Nat) : Int))])) := fun b o n1 n2 n3 e => by
        rw [upd_ne n1]
        exact e
      walk_at "rs"
      refine ⟨p, dx, _, rfl, upd_same, rfl, ?_⟩
      walk_at "rs"
      refine ⟨p, D, L, G, { m2 with st := m2.st + 1, pl := m2.pl + 1 }, c, rfl, trivial, hm3, hf2, fun m4 H4 e4 h4 o4 => ?_, fun e4 m4 H4 h4 s4 o4 => ?_⟩
      · rw [e4] at e2
        obtain ⟨f4, s4, n4⟩ := Fit.perform (m := { m2 with st := m2.st + 1, pl := m2.pl + 1 }) hf2 (by show m2.kv.length ≤ 899; omega) e4
        replace s4 : m4.st = m2.st + 1 := s4
        replace n4 : m4.kv.length ≤ m2.kv.length + 1 := n4
        exact ⟨m4, _, rfl, h4, f4, s4, by omega, by omega, (o2.trans o3).trans o4, e2⟩
      · rw [e4] at e2
        exact k2 _ e2 m4 H4 h4 s4 ((o2.trans o3).trans o4)
    · have c1 : ¬ m2.pl < G.code.length := fun h => c1 (decide_eq_true (by omega))
      rw [List.getElem?_eq_none (by rw [← TL.len_tl]; omega)] at e2
      exact k1 _ _ H2 e2 hm2 hf2 o2

/-- o.m() within a try: what the method lets out is wished for at the slots -/
def tMethT0 (C : Addr) (m : Str) (sp : Sp) (E : L2.St → XK) (ta : TE) : TE := fun σ H Q => ta σ H fun x H1 => ∃ (j dx : Addr) (fs : List (Str × V)), x = V.ref j ∧ H1 j = some (HO.ins C dx fs) ∧ fs.lookup m = Option.none ∧ sp [x] H1 Q (E σ)
theorem pe_methT0 {X : Cx} {CX : CXT} {k : Nat} {f C : Addr} {fd : FuncData} {ps : List Str} {sp : Sp} {E : L2.St → XK} {m : Str} {apos pos : Pos} {o : Expr} {ta : TE} {pl : Sem Bool} (he : PE X o ta) (c : L2.Cls X.K C) (hm : L2.Meth X.K C m f) (F : FnOk X.prog X.w X.K X.mg X.base CX k f fd ps sp)
    (hr : Room k X.A) (hb : Binds X.K fd ps []) (hx : ∀ σ, PassesAt CX X σ (E σ))
    (text : eval (.Call (.Attribute o m apos) [] [] pos) X.env = (do let ov ← eval o X.env; standAt apos.atName; let (f, first) ← holding [ov] (getMethod ov m pl); callWith pos f first (backTo pos (starEach [] X.env)) (backToKw pos (keywordEach [] X.env))) := by rfl) :
    PE X (.Call (.Attribute o m apos) [] [] pos) (tMethT0 C m sp E ta) := by
  constructor
  intro pins s σ H Q I hyp
  refine PySem.W.methodCall_KW (pl := pl) (thn (he.run pins s σ H _ I hyp) fun u s1 got => ?_) text
  obtain ⟨x, H1, I1, rx, j, dx, fs, ex, ej, nf, q⟩ := got
  subst ex
  have eu : u = Value.ref j := rx
  subst eu
  refine getmeth_ok I1 ej c hm nf ?_
  exact PySem.W.callWith_K0 (first := [Value.ref j]) I1.kIn hm.kp (run_fnS (us := [Value.ref j]) (vs := [V.ref j]) F hr hb (hx σ) I1 (.cons rfl .nil) q)

/-! ### a local set to a dict comprehension -/
section
variable {X : Cx}
theorem ps_setDc {i : Nat} {y : Str} {py : Pos} {kx vx tg iter : Expr} {ifs : List Expr} {scope : Scope} {own : List (Str × Nat)} {pos spos : Pos} {wi : TI} {g : TG} {tt : TT} {tk tv : TE} (hc : X.calm = true) (hN : X.N.Nodup) (hy : X.N[i]? = some y) (hyl : X.env.scope.names.lookup y = some .local)
    (hsw : swapsWith (.DictComp kx vx [⟨tg, iter, ifs, 0⟩] scope pos) (some (.Name y py)) spos.line X.env = pure true) (hi : PI X tg iter wi) (ok : BlkOk X.N X.env.scope scope own)
    (hg : ∀ (s : Shared) (H : Hp) (C : Addr) (cl : List (Str × Addr)) (fp : List Addr), PG (X.blk s H scope (compEnvC scope cl C X.env) fp) tg g) (ht : ∀ (s : Shared) (H : Hp) (C : Addr) (cl : List (Str × Addr)) (fp : List Addr), PTs (X.blk s H scope (compEnvC scope cl C X.env) fp) ifs tt)
    (hk : ∀ (s : Shared) (H : Hp) (C : Addr) (cl : List (Str × Addr)) (fp : List Addr), PE (X.blk s H scope (compEnvC scope cl C X.env) fp) kx tk)
    (hv : ∀ (s : Shared) (H : Hp) (C : Addr) (cl : List (Str × Addr)) (fp : List Addr), PE (X.blk s H scope (compEnvC scope cl C X.env) fp) vx tv) (hs : ∀ x, foldedSetIterable iter X.env x = pure x := by intro _; rfl) :
    PS X (.Assign [.Name y py] (.DictComp kx vx [⟨tg, iter, ifs, 0⟩] scope pos) spos) (tAsg (tDc wi g tt tk tv (own.map (·.2))) (gName i)) := by
  constructor
  intro pins s σ H D I want
  rw [exec_Assign_Name_used _ _ _ _ hsw]
  refine wpAny_bind (wpAny_standAt (wpAny_bind ?_))
  show wpAny _ X.A (do let _ ← comprehension (.DictComp kx vx [⟨tg, iter, ifs, 0⟩] scope pos) scope X.env (firstIterPos [⟨tg, iter, ifs, 0⟩] pos) newDict false (eval iter X.env) (some (assign (.Name y py) X.env))) _ _ s
  replace want : tDc wi g tt tk tv (own.map (·.2)) σ H (fun x H1 => gName i x σ H1 D.nx) := want
  refine wpAny_bind (thn (dc_core (Qf := fun _ s' => SP X pins D .next s') hc hN I hi ok hg ht hk hv hs want fun B C s' m H' I' q names far => ?_) fun _ s' hq => wpAny_pure (wpAny_pure hq))
  show wpAny _ _ (assign (.Name y py) X.env (.ref B)) _ _ _
  refine wpAny_assign_Name (store_ok2 (v := V.ref B) I' hN hy (.inl hyl) rfl (fun s2 I2 same => ?_) (.inr hyl))
  obtain ⟨z, sb, which⟩ := same
  obtain ⟨f0, f1, f2, f3, f4, f5⟩ := far
  have apart : C ≠ z := which.elim (fun e => by rw [e]; exact f1) fun e q => f4 y z e q.symm
  exact ⟨m, names.sameBut sb apart, fun h3 sb3 => ⟨_, H', I2.turned (t' := s2.toks) (fun b o hb e => (sb3.2 b hb).trans e) f0 f1 f3 f4 f5, q⟩⟩
theorem sw_trueD {kx vx : Expr} {gs : List Comprehension} {scope : Scope} {pos py : Pos} {y : Str} {l : Nat} {env : Env} (hk : env.scope.kind = .function) (hy : env.scope.names.lookup y = some .local) (hl : (py.line == pos.line) = true)
    (ha : (scope.names.any fun (n, k) => n == y && (k == .local || k == .cell)) = false) : swapsWith (.DictComp kx vx gs scope pos) (some (.Name y py)) l env = pure true := by
  have ky : env.kindOf y = some .local := hy
  have hb : env.blockKind = .function := by unfold Env.blockKind; rw [hk]; rfl
  unfold swapsWith
  simp only [hb, ky, ha, Expr.pos, hl]
  rfl
end
/-- what stays of a store: keys ys, no 0 -/
def pick (ys : List Nat) (kv : List (Nat × Nat)) : List (Nat × Nat) := (ys.filter fun k => decide (getN kv k ≠ 0)).map fun k => (k, getN kv k)
theorem pick_take {ys : List Nat} {kv : List (Nat × Nat)} {i k : Nat} (h : ys[i]? = some k) : pick (ys.take (i + 1)) kv = if getN kv k ≠ 0 then pick (ys.take i) kv ++ [(k, getN kv k)] else pick (ys.take i) kv := by
  unfold pick
  rw [List.take_add_one, h]
  split
  · rename_i c
    rw [Option.toList, List.filter_append, List.map_append, List.filter_cons_of_pos (by rw [decide_eq_true c])]
    rfl
  · rename_i c
    rw [Option.toList, List.filter_append, List.map_append, List.filter_cons_of_neg (by rw [decide_eq_false c]; exact Bool.false_ne_true)]
    simp
theorem pick_keys {ys : List Nat} {kv : List (Nat × Nat)} {x : Nat × Nat} (h : x ∈ pick ys kv) : x.1 ∈ ys := by
  obtain ⟨k, hk, rfl⟩ := List.mem_map.mp h
  exact (List.mem_filter.mp hk).1
theorem put_new {kv : List (Nat × Nat)} {k v : Nat} (h : ∀ x ∈ kv, x.1 ≠ k) : putN kv k v = kv ++ [(k, v)] := by
  unfold putN
  rw [if_neg]
  intro e
  obtain ⟨x, hx, e⟩ := List.any_eq_true.mp e
  exact h x hx (of_decide_eq_true e)
theorem nodup_take {ys : List Nat} (nd : ys.Nodup) {i k : Nat} (h : ys[i]? = some k) : k ∉ ys.take i := fun hm => by
  obtain ⟨j, hj, e⟩ := List.getElem_of_mem hm
  rw [List.length_take] at hj
  rw [List.getElem_take] at e
  obtain ⟨hi, e2⟩ := List.getElem?_eq_some_iff.mp h
  have := (List.getElem_inj (h₀ := by omega) (h₁ := hi) nd).mp (e.trans e2.symm)
  omega
theorem val_mem {kv : List (Nat × Nat)} {k : Nat} (h : k ∈ kv.map (·.1)) : valV (kvV kv) (Sum.inl (k : Int)) = some (V.int (getN kv k : Nat)) := by
  rw [val_kv]
  unfold getN
  cases e : kv.find? fun x => decide (x.1 = k) with
  | some x => rfl
  | none =>
    obtain ⟨x, hx, ex⟩ := List.mem_map.mp h
    exact absurd (decide_eq_true ex) (List.find?_eq_none.mp e x hx)
/-- a dict comprehension over a list of ints -/
theorem dc_ints {K : PySem.W.Frag} {a D : Addr} {xs : List V} {g : TG} {tt : TT} {tk tv : TE} {vs : List Nat} {σ : St} {H1 : Hp} {Qd : Hp → Prop} (Pv : Nat → Hp → Prop) (h0 : Pv 0 (upd H1 D (.dK []))) (hl : ∀ i H, Pv i H → SqL K H a xs)
    (hs : ∀ i x H, xs[i]? = some x → Pv i H → g x (wipe σ vs) H fun σ2 H2 => wipe σ2 vs = wipe σ vs ∧ tt σ2 H2 fun b H3 =>
      if b = true then tk σ2 H3 fun y H4 => tv σ2 H4 fun z H5 => ∃ kvs k, y = kV k ∧ H5 D = some (.dK kvs) ∧ kvs.length < sizeLine ∧ Pv (i + 1) (upd H5 D (.dK (putK kvs k z))) else Pv (i + 1) H3) (hd : ∀ H, Pv xs.length H → Qd H) :
    ∃ W : Nat → Nat → Hp → Prop, (∃ m, W 0 m (upd H1 D (.dK []))) ∧ ∀ i m H, W i m H →
      ((Itl K a).stop i H ∧ Qd H) ∨ ((Itl K a).go i H ∧ ∃ Nx : Hp → Prop, (∀ H', Nx H' → ∃ m', m' < m ∧ W (i + 1) m' H') ∧ ∀ x H', (Itl K a).yld i H x H' → g x (wipe σ vs) H' fun σ2 H2 => wipe σ2 vs = wipe σ vs ∧ tt σ2 H2 fun b H3 =>
        if b = true then tk σ2 H3 fun y H4 => tv σ2 H4 fun z H5 => ∃ kvs k, y = kV k ∧ H5 D = some (.dK kvs) ∧ kvs.length < sizeLine ∧ Nx (upd H5 D (.dK (putK kvs k z))) else Nx H3) := by
  refine ⟨fun i m H => (m = xs.length - i ∧ i ≤ xs.length) ∧ Pv i H, ⟨_, ⟨rfl, Nat.zero_le _⟩, h0⟩, ?_⟩
  rintro i m H ⟨⟨rfl, le⟩, now⟩
  have there := hl i H now
  rcases Nat.lt_or_ge i xs.length with lt | ge
  · refine .inr ⟨⟨xs, xs[i], there, by simp [lt]⟩, Pv (i + 1), fun H' nx => ⟨xs.length - (i + 1), by omega, ⟨rfl, lt⟩, nx⟩, ?_⟩
    rintro x H' ⟨rfl, what⟩
    exact hs i x _ (what xs there) now
  · obtain rfl : i = xs.length := by omega
    exact .inl ⟨⟨xs, there, Nat.le_refl _⟩, hd H now⟩
theorem made {j dx : Addr} {H3 H5 : Hp} {o1 o2 : HO} (hj : H3 j = none) (hdx : H3 dx = none) (keep : ∀ b o, b ≠ j → (upd (upd H3 dx o1) j o2) b = some o → H5 b = some o) : Same H3 H5 := fun b o e => keep b o (ne_of_none e hj) (by
  rw [upd_ne (ne_of_none e hj), upd_ne (ne_of_none e hdx)]
  exact e)
def spRunM (CR : Addr) : Sp := fun vs H Q _ => ∃ (d : Addr) (G : Gv) (kv : List (Nat × Nat)), vs = [.str G.code, .int (G.given : Nat), .int (G.amount : Nat), .ref d] ∧ H d = some (.dK (kvV kv)) ∧ kv.length ≤ 8 ∧ G.code.length ≤ 5000 ∧
  (∀ m' n, finM G 201 ⟨[], kv, 0, 0, 0⟩ = (some m', n) → m'.kv.length < 64 ∧ (m'.kv.map (·.1)).Nodup ∧ ∀ (j S dx : Addr) (ys : List Nat) H', ys.Perm (m'.kv.map (·.1)) → ys.Pairwise (· ≤ ·) → Same H H' → H S = none → H' S = some (.dK (kvV (pick ys m'.kv))) →
    H' j = some (.ins CR dx [("well", .bl true), ("store", .ref S), ("paid", .int (m'.pd : Nat)), ("steps", .int (m'.st : Nat))]) → Q (.ref j) H') ∧
  (∀ n, finM G 201 ⟨[], kv, 0, 0, 0⟩ = (none, n) → ∀ (j S dx : Addr) H', Same H H' → H S = none → H' S = some (.dK (kvV kv)) → H' j = some (.ins CR dx [("well", .bl false), ("store", .ref S), ("paid", .int 0), ("steps", .int (n : Nat))]) → Q (.ref j) H')
theorem ok_run (TE : TxtE w K mg a) (T : Txt K mg a) : ∃ fd, FnOk P w K mg base CX0 5 a.d_run fd ["code", "given", "amount", "store"] (spRunM a.C_Run) ∧ Binds K fd ["code", "given", "amount", "store"] [] := by
  obtain ⟨fd, F, b⟩ := T.d_run.F
  obtain ⟨fd_Machine_init, G_Machine_init, b_Machine_init⟩ := ok_Machine_init (P := P) (w := w) (base := base) T
  obtain ⟨fd_Run_init, G_Run_init, b_Run_init⟩ := ok_Run_init (P := P) (w := w) (base := base) T
  obtain ⟨fd_Machine_finish, G_Machine_finish, b_Machine_finish⟩ := ok_Machine_finish (P := P) (w := w) (base := base) TE T
  obtain ⟨fdW, GW, bW⟩ := okW_Run_init (P := P) (w := w) (base := base) T
  refine ⟨fd, F.ok sc_run (fun vs H Q E h => ?_) (fun cdv A outer s H vs Q E hr h => ?_), b⟩
  · obtain ⟨_, _, _, rfl, _⟩ := h
    rfl
  · obtain ⟨d, G, kv, rfl, hd, few, lc, k1, k2⟩ := h
    refine ⟨_, (pss_cons (ps_set (i := 4) sc_run.nd rfl (Or.inr rfl) (pe_make T.m_Machine G_Machine_init (hr.mono (by decide)) (by rfl) T.g_Machine b_Machine_init .nil pass0 (pa_cons (pv 0) (pa_cons (pv 1) (pa_cons (pv 2) (pa_cons (pv 3) pa_nil))))))
      (pss_cons (ps_try_only rfl rfl ⟨rfl, by decide, .inl TE.g_Failed⟩ takes0 (fun W pn xe tk po => (pss_one (ps_expr (pe_methT0 (pv 4) T.cl_Machine T.me_Machine_finish G_Machine_finish (hr.mono (by decide)) b_Machine_finish (E := fun σ cls d H => W cls d σ H) (fun σ => passAt tk σ))))) (fun ae oe cls d pn hz hf => (pss_one (ps_ret (pe_makeW (k := 1) (p := (ae, oe)) T.m_Run GW ((L2H.roomH_mark hr _).mono (by decide)) List.mem_cons_self rfl T.g_Run bW (pa_cons pe_bl (pa_cons (pe_callTy call_dictD (by rfl) T.n_dict (by decide +kernel) (pa_cons (pv 3) pa_nil)) (pa_cons pe_int (pa_cons (pe_fldK (K := K) rfl (pv 4) rfl) pa_nil)))))))))
      (pss_cons (ps_setDc (i := 5) (own := [("key", 6)]) (g := (gName 6)) rfl sc_run.nd rfl rfl (sw_trueD rfl rfl rfl (by decide +kernel)) (pi_list (pe_callB (call_sortedDI rfl) (by rfl) T.n_sorted (by decide +kernel) (pa_cons (pe_fld (pv 4) rfl) pa_nil))) (blkOk_by (own := [("key", 6)]) (N := sc_run_N) (sc := defScope s_run) (by decide +kernel)) (fun _ _ _ _ _ => (pg_name (i := 6) sc_run.nd rfl (Or.inl rfl))) (fun _ _ _ _ _ => (pts_one (pt_cmpR op_ne (pe_dget (hu_of hr) (pe_fldK (K := K) rfl (pv 4) rfl) (pv 6) (fun _ _ => rfl)) pe_int (nomark _)))) (fun _ _ _ _ _ => (pv 6)) (fun _ _ _ _ _ => (pe_dget (hu_of hr) (pe_fldK (K := K) rfl (pv 4) rfl) (pv 6) (fun _ _ => rfl))))
      (pss_one (ps_ret (pe_make T.m_Run G_Run_init (hr.mono (by decide)) (by rfl) T.g_Run b_Run_init .nil pass0 (pa_cons pe_bl (pa_cons (pv 5) (pa_cons (pe_fld (pv 4) rfl) (pa_cons (pe_fld (pv 4) rfl) pa_nil)))))))))), ?_⟩
    walk_at "rs"
    intro p dx hp0 hdx0 ndx
    have dne : d ≠ p ∧ d ≠ dx := ⟨ne_of_none hd hp0, ne_of_none hd hdx0⟩
    refine ⟨p, dx, d, G, kv, rfl, upd_same, .inl (by rw [upd_ne dne.1, upd_ne dne.2]; exact hd), fun D L H1 nD nL hm keep => ?_⟩
    refine ⟨rfl, ?_⟩
    have off : ∀ {t : Addr}, (upd (upd H dx (.own p)) p (.ins a.C_Machine dx [])) t = none → H t = none := fun {t} e => by
      by_cases c1 : t = p
      · rw [c1]; exact hp0
      by_cases c2 : t = dx
      · rw [c2]; exact hdx0
      rw [upd_ne c1, upd_ne c2] at e
      exact e
    have nD := off nD
    have nL := off nL
    have s1 : Same H H1 := fun b o e => keep b o (fun q => by rw [q, hp0] at e; cases e) (by rw [upd_ne (fun q => by rw [q, hp0] at e; cases e), upd_ne (fun q => by rw [q, hdx0] at e; cases e)]; exact e)
    have on : ∀ {H' : Hp}, Oth p D L H1 H' → Same H H' := fun {H'} o b u e => o b u (fun q => by rw [q, hp0] at e; cases e) (fun q => by rw [q, nD] at e; cases e) (fun q => by rw [q, nL] at e; cases e) (s1 b u e)
    clear keep off
    walk_at "rs"
    obtain ⟨dx1, hp, hD, hL⟩ := id hm
    refine ⟨p, dx1, _, rfl, hp, rfl, ?_⟩
    refine ⟨p, D, L, G, _, rfl, hm, ⟨by show 0 ≤ 16; decide, by show kv.length ≤ 900; omega, fun v hv => nomatch hv⟩, rfl, by show kv.length ≤ 600; omega, lc, fun m' n H2 e2 h2 f2 o2 => ?_, fun n e2 m' H2 h2 s2 o2 => ?_⟩
    · obtain ⟨small, nd, k1⟩ := k1 m' n e2
      have s2 := on o2
      obtain ⟨dx2, hp2, hD2, hL2⟩ := id h2
      walk_at "rs"
      refine ⟨p, _, dx2, _, .ref D, rfl, hp2, T.cl_Machine, T.a_Machine_store, rfl, ?_⟩
      walk_at "rs"
      have lk : (m'.kv.map fun x => (x.1 : Int)).length = m'.kv.length := List.length_map ..
      refine ⟨D, kvV m'.kv, m'.kv.map fun x => (x.1 : Int), rfl, .of hD2, by unfold kvV; rw [List.map_map, List.map_map]; rfl, by rw [lk]; exact small, fun zs q hperm hpw hq => ?_⟩
      obtain ⟨ys, rfl, yp, yw⟩ : ∃ ys : List Nat, zs = ys.map (fun n : Nat => (n : Int)) ∧ ys.Perm (m'.kv.map (·.1)) ∧ ys.Pairwise (· ≤ ·) := by
        refine ⟨zs.map Int.toNat, ?_, ?_, ?_⟩
        · rw [List.map_map]
          conv => lhs; rw [← List.map_id zs]
          refine List.map_congr_left fun z hz => ?_
          obtain ⟨x, _, rfl⟩ := List.mem_map.mp (hperm.mem_iff.mp hz)
          rfl
        · have := hperm.map Int.toNat
          rw [List.map_map] at this
          exact this
        · rw [List.pairwise_map]
          exact hpw.imp fun h => Int.toNat_le_toNat h
      have hq0 := s2.free hq
      have s3 := same_upd (o := .lst ((ys.map fun n : Nat => (n : Int)).map V.int)) s2 hq0
      have nodys : ys.Nodup := yp.nodup_iff.mpr nd
      have ly : ys.length = m'.kv.length := by rw [yp.length_eq, List.length_map]
      have hp3 : ∀ o, upd H2 q o p = H2 p := fun o => upd_ne (ne_of_none hp2 hq)
      have hD3 : ∀ o, upd H2 q o D = H2 D := fun o => upd_ne (ne_of_none hD2 hq)
      walk_at "rs"
      refine ⟨⟨_, SqL.of upd_same⟩, fun B hB => ?_⟩
      generalize hH3 : upd H2 q (.lst ((ys.map fun n : Nat => (n : Int)).map V.int)) = H3 at s3 hB ⊢
      have hq3 : H3 q = some (.lst ((ys.map fun n : Nat => (n : Int)).map V.int)) := by rw [← hH3]; exact upd_same
      have hp3 : H3 p = H2 p := by rw [← hH3, hp3]
      have hD3 : H3 D = H2 D := by rw [← hH3, hD3]
      rw [hp2] at hp3
      rw [hD2] at hD3
      have hB0 := s3.free hB
      refine dc_ints (K := K) (a := q) (xs := (ys.map fun n : Nat => (n : Int)).map V.int) (fun i H4 => Same H3 H4 ∧ H4 B = some (.dK (kvV (pick (ys.take i) m'.kv)))) ⟨same_new hB, upd_same⟩ (fun i H4 ⟨s4, _⟩ => SqL.of (s4 _ _ hq3)) ?_ ?_
      · rintro i y H4 hy ⟨s4, hB4⟩
        obtain ⟨k, hk, rfl⟩ : ∃ k, ys[i]? = some k ∧ y = V.int (k : Int) := by
          rw [List.getElem?_map, List.getElem?_map] at hy
          cases h : ys[i]? with
          | none => rw [h] at hy; cases hy
          | some k =>
            rw [h] at hy
            exact ⟨k, rfl, (Option.some.inj hy).symm⟩
        have hmem : k ∈ m'.kv.map (·.1) := yp.mem_iff.mp (List.mem_of_getElem? hk)
        have hp4 := s4 _ _ hp3
        have hg4 : DGet H4 D (V.int (k : Int)) (some (V.int (getN m'.kv k : Nat))) := by
          have := DGet.k (k := Sum.inl (k : Int)) (s4 _ _ hD3)
          rw [val_mem hmem] at this
          exact this
        have pt := pick_take (kv := m'.kv) hk
        refine ⟨rfl, ?_⟩
        walk_at "rs"
        refine ⟨p, _, dx2, _, .ref D, rfl, hp4, T.cl_Machine, T.a_Machine_store, rfl, ?_⟩
        walk_at "rs"
        refine ⟨D, _, rfl, hg4, ?_⟩
        walk_at "rs"
        refine ite2 (fun c => ?_) (fun c => ?_)
        · have c : getN m'.kv k ≠ 0 := fun e => by
            rw [e] at c
            simp at c
          rw [if_pos c] at pt
          walk_at "rs"
          refine ⟨p, _, dx2, _, .ref D, rfl, hp4, T.cl_Machine, T.a_Machine_store, rfl, ?_⟩
          walk_at "rs"
          refine ⟨D, _, rfl, hg4, ?_⟩
          have lp : (pick (ys.take i) m'.kv).length ≤ 64 := by
            unfold pick
            rw [List.length_map]
            have h1 := List.length_filter_le (fun k => decide (getN m'.kv k ≠ 0)) (ys.take i)
            have h2 := List.length_take_le' i ys
            omega
          refine ⟨_, Sum.inl (k : Int), rfl, hB4, by rw [len_kv]; exact small1000 (by omega), same_upd s4 hB, ?_⟩
          rw [upd_same, put_kv, put_new (k := k) (fun x hx e => nodup_take nodys hk (by rw [← e]; exact pick_keys hx)), pt]
        · have c : ¬ getN m'.kv k ≠ 0 := fun h => c (by simpa using h)
          rw [if_neg c] at pt
          refine ⟨s4, ?_⟩
          rw [pt]
          exact hB4
      · rintro H4 ⟨s4, hB4⟩
        rw [List.take_of_length_le (by simp)] at hB4
        have s5 := s3.trans s4
        have hp4 := s4 _ _ hp3
        walk_at "rs"
        refine ⟨p, _, dx2, _, .int (m'.pd : Nat), rfl, hp4, T.cl_Machine, T.a_Machine_paid, rfl, ?_⟩
        walk_at "rs"
        refine ⟨p, _, dx2, _, .int (m'.st : Nat), rfl, hp4, T.cl_Machine, T.a_Machine_steps, rfl, ?_⟩
        walk_at "rs"
        intro j dj hj hdj nj
        refine ⟨j, dj, _, _, _, _, rfl, upd_same, fun H5 h5 keep => ?_⟩
        have s6 := made hj hdj keep
        refine ⟨rfl, ?_⟩
        exact k1 j B dj ys H5 yp yw (s5.trans s6) hB0 (s6 _ _ hB4) h5
    · have s3 := on o2
      obtain ⟨dx2, hp2, hD2, hL2⟩ := id h2
      refine ⟨true, TE.exm_Failed_Failed, fun _ ex hex => ?_, fun z => nomatch z⟩
      walk_at "rs"
      refine ⟨d, _, rfl, .inl (s3 _ _ hd), fun S hS => ?_⟩
      have nS := s3.free hS
      have s4 := same_upd (o := .dK (kvV kv)) s3 nS
      walk_at "rs"
      refine ⟨p, _, dx2, _, .int (m'.st : Nat), rfl, by rw [upd_ne (ne_of_none hp2 hS)]; exact hp2, T.cl_Machine, T.a_Machine_steps, rfl, ?_⟩
      walk_at "rs"
      intro j dj hj hdj nj
      refine ⟨j, dj, _, _, _, _, rfl, upd_same, fun H5 h5 keep => ?_⟩
      have s5 := made hj hdj keep
      refine ⟨rfl, ?_⟩
      rw [s2] at h5
      exact k2 n e2 j S dj H5 (s4.trans s5) nS (s5 _ _ upd_same) h5

def spCell (K : PySem.W.Frag) : Sp := fun vs H Q _ => ∃ (a : Addr) (ns : List Int) (k : Int), vs = [.ref a, .int k] ∧ SqL K H a (ns.map V.int) ∧ ns.length ≤ 63 ∧ 0 ≤ k ∧ Q (.int (ns.getD k.toNat 0)) H
def spRow (K : PySem.W.Frag) : Sp := fun vs H Q _ => ∃ (cell count size : Int), vs = [.int cell, .int count, .int size] ∧ 0 ≤ count ∧ count ≤ 1000 ∧ 0 < size ∧ size < 1000 ∧
  ∀ p (row : List Int) H', Same H H' → H' p = some (.lst (row.map V.int)) → row.length = count.toNat → (∀ x ∈ row, 0 ≤ x ∧ x < size) → H p = none → Q (.ref p) H'
def spIsInt (K : PySem.W.Frag) : Sp := fun vs H Q _ => ∃ i : Int, vs = [.int i] ∧ Q (.bl true) H
def spLaw (K : PySem.W.Frag) : Sp := fun vs H Q _ => ∃ (a : Addr) (ns : List Int), vs = [.ref a] ∧ SqL K H a (ns.map V.int) ∧ ns.length ≤ 63 ∧ ∀ H', Q (.bl true) H'
theorem ok_law_cell (T : Txt K mg a) : ∃ fd, FnOk P w K mg base CX0 1 a.d_law_cell fd ["script", "k"] (spCell K) ∧ Binds K fd ["script", "k"] [] := by
  obtain ⟨fd, F, b⟩ := T.d_law_cell.F
  refine ⟨fd, F.ok sc_law_cell (fun vs H Q E h => ?_) (fun cdv A outer s H vs Q E hr h => ?_), b⟩
  · obtain ⟨a, ns, k, rfl, _⟩ := h
    rfl
  · obtain ⟨l, ns, k, rfl, hS, hl, hk, q⟩ := h
    refine ⟨_, (pss_cons (ps_if (pt_cmpR op_lt (pv 1) (pe_callB call_len_seq (by rfl) T.n_len PySem.boot_len (pa_cons (pv 0) pa_nil)) (nomark _))
      (pss_one (ps_ret (pe_ix ix_list (pv 0) (pv 1) (fun _ _ => rfl))))
      pss_nil)
      (pss_one (ps_ret pe_int))), ?_⟩
    refine ⟨_, rfl, _, rfl, l, _, rfl, .inl hS, _, _, rfl, rfl, _, rfl, ?_⟩
    refine ite2 (fun hlt => ?_) (fun hge => ?_)
    · have hlt : k < ((ns.map V.int).length : Int) := of_decide_eq_true hlt
      rw [List.length_map] at hlt
      have hj : k.toNat < ns.length := by omega
      have e : ns.getD k.toNat 0 = ns[k.toNat] := by rw [List.getD_eq_getElem?_getD, List.getElem?_eq_getElem hj]; rfl
      rw [e] at q
      refine ⟨_, rfl, _, rfl, l, _, k, .int ns[k.toNat], rfl, rfl, hS, at_of (j := k.toNat) (by omega) (by rw [List.getElem?_map, List.getElem?_eq_getElem hj]; rfl), q⟩
    · have hge : ¬ k < ((ns.map V.int).length : Int) := fun e => hge (decide_eq_true e)
      rw [List.length_map] at hge
      have e : ns.getD k.toNat 0 = 0 := by rw [List.getD_eq_getElem?_getD, List.getElem?_eq_none (by omega)]; rfl
      rw [e] at q
      exact q

theorem ok_law_is_integer (T : Txt K mg a) : ∃ fd, FnOk P w K mg base CX0 1 a.d_law_is_integer fd ["actual"] (spIsInt K) ∧ Binds K fd ["actual"] [] := by
  obtain ⟨fd, F, b⟩ := T.d_law_is_integer.F
  refine ⟨fd, F.ok sc_law_is_integer (fun vs H Q E h => ?_) (fun cdv A outer s H vs Q E hr h => ?_), b⟩
  · obtain ⟨_, rfl, _⟩ := h
    rfl
  · obtain ⟨i, rfl, k⟩ := h
    refine ⟨_, (pss_one (ps_ret (pe_and (pe_callB call_isi (by rfl) T.n_isinstance (by decide +kernel) (pa_cons (pv 0) (pa_cons (pe_bltn (v := .ty "int") (u := .type "int") (by rfl) T.n_int (by decide +kernel) rfl) pa_nil))) (pe_one (pe_not (pe_callB call_isi (by rfl) T.n_isinstance (by decide +kernel) (pa_cons (pv 0) (pa_cons (pe_bltn (v := .ty "bool") (u := .type "bool") (by rfl) T.n_bool (by decide +kernel) rfl) pa_nil)))))))), ?_⟩
    walk_at "rs"
    refine ⟨_, _, .type "int", .type "int", true, rfl, .ty _, .base (.int _), kit_ty (by decide +kernel), ?_⟩
    walk_at "rs"
    refine ⟨_, _, .type "int", .type "bool", false, rfl, .ty _, .base (.int _), kit_ty (by decide +kernel), ?_⟩
    walk_at "rs"
    exact k

theorem ok_law_row (T : Txt K mg a) : ∃ fd, FnOk P w K mg base CX0 1 a.d_law_row fd ["cell", "count", "size"] (spRow K) ∧ Binds K fd ["cell", "count", "size"] [] := by
  obtain ⟨fd, F, b⟩ := T.d_law_row.F
  refine ⟨fd, F.ok sc_law_row (fun vs H Q E h => ?_) (fun cdv A outer s H vs Q E hr h => ?_), b⟩
  · obtain ⟨_, _, _, rfl, _⟩ := h
    rfl
  · obtain ⟨cell, count, size, rfl, c0, c1, z0, z1, k⟩ := h
    refine ⟨_, (pss_cons (ps_set (i := 3) sc_law_row.nd rfl (Or.inl rfl) (pv 0))
      (pss_cons (ps_set (i := 4) sc_law_row.nd rfl (Or.inl rfl) (pe_lst pa_nil))
      (pss_cons (ps_for PassesOwn.never rfl (pi_range1 rfl T.n_range (pa_cons (pv 1) pa_nil)) (pg_name (i := 5) sc_law_row.nd rfl (Or.inl rfl))
      (pss_one (ps_if (pt_cmpR op_ge (pv 0) (pe_op op_pow pe_int pe_int) (nomark _))
        (pss_cons (ps_expr (pe_bm PySem.F.plainAttrs_list PySem.F.slot_list_append PySem.F.type_list_append mt_append (pv 4) (pa_cons (pe_op op_mod (pe_callTy call_int1 (by rfl) T.n_int (by decide +kernel) (pa_cons (pv 3) pa_nil)) (pv 2)) pa_nil)))
          (pss_one (ps_set (i := 3) sc_law_row.nd rfl (Or.inl rfl) (pe_op op_fdivN (pv 3) (pv 2)))))
        (pss_cons (ps_set (i := 3) sc_law_row.nd rfl (Or.inl rfl) (pe_op op_mod (pe_callTy call_int1 (by rfl) T.n_int (by decide +kernel) (pa_cons (pe_op op_add (pe_op op_mul (pv 3) pe_int) pe_int) pa_nil)) pe_int))
          (pss_one (ps_expr (pe_bm PySem.F.plainAttrs_list PySem.F.slot_list_append PySem.F.type_list_append mt_append (pv 4) (pa_cons (pe_op op_mod (pe_op op_mod (pe_callTy call_int1 (by rfl) T.n_int (by decide +kernel) (pa_cons (pe_op op_add (pe_op op_mul (pv 3) pe_int) (pe_op op_mul (pv 5) pe_int)) pa_nil)) pe_int) (pv 2)) pa_nil))))))))
      (pss_one (ps_ret (pv 4)))))), ?_⟩
    walk_at "rs"
    refine ⟨(by show 0 ≤ sizeLine; decide), fun p hp => ?_⟩
    walk_at "rs"
    refine ⟨(by show -(2 ^ 62 : Int) ≤ _; omega), (by show _ < (2 ^ 62 : Int); omega), ?_⟩
    refine for_range (lo := 0) (n := count.toNat) (fun i σ H2 => ∃ (st : Int) (row : List Int) (v5 : Option V), σ = [some (.int cell), some (.int count), some (.int size), some (.int st), some (.ref p), v5] ∧ Same H H2 ∧
      H2 p = some (.lst (row.map V.int)) ∧ row.length = i ∧ ∀ x ∈ row, 0 ≤ x ∧ x < size) ⟨_, [], _, rfl, same_new hp, upd_same, rfl, fun x hx => nomatch hx⟩ ?_ ?_
    · rintro i σ H2 hi ⟨st, row, v5, rfl, s2, hrow, hlen, hb⟩
      have fit : (row.map V.int).length < sizeLine := by
        rw [List.length_map]
        exact small1000 (by omega)
      have grow : ∀ z : Int, 0 ≤ z → z < size → ∀ x ∈ row ++ [z], 0 ≤ x ∧ x < size := fun z h0 h1 x hx => by
        rcases List.mem_append.mp hx with hx | hx
        · exact hb x hx
        · rw [List.mem_singleton.mp hx]
          exact ⟨h0, h1⟩
      walk_at "rs"
      refine ite2 (fun c1 => ?_) (fun c1 => ?_)
      · walk_at "rs"
        refine ⟨.inl ⟨rfl, _, SqL.of hrow⟩, ?_⟩
        walk_at "rs"
        refine ⟨p, _, _, rfl, rfl, hrow, fit, ?_⟩
        walk_at "rs"
        refine ⟨(show CDivN _ _ from ⟨by omega, by omega⟩), ?_⟩
        exact ⟨_, row ++ [st % size], _, rfl, same_upd s2 hp, by rw [upd_same]; simp, by simp [hlen], grow _ (Int.emod_nonneg _ (by omega)) (Int.emod_lt_of_pos _ z0)⟩
      · walk_at "rs"
        refine ⟨.inl ⟨rfl, _, SqL.of hrow⟩, ?_⟩
        walk_at "rs"
        refine ⟨p, _, _, rfl, rfl, hrow, fit, ?_⟩
        exact ⟨_, row ++ [((st * 48271 + 12345) % 2147483647 * 69621 + (i : Int) * 7919) % 2147483647 % size], _, rfl, same_upd s2 hp, by rw [upd_same]; simp, by simp [hlen], grow _ (Int.emod_nonneg _ (by omega)) (Int.emod_lt_of_pos _ z0)⟩
    · rintro σ H2 ⟨st, row, v5, rfl, s2, hrow, hlen, hb⟩
      walk_at "rs"
      exact k p row H2 s2 hrow hlen hb hp

def spReckon : Sp := fun vs H Q _ => ∃ (c l r : Nat), vs = [.str ⟨#[c]⟩, .int (l : Nat), .int (r : Nat)] ∧ l < 1000000 ∧ r < 1000000 ∧ Q (.int (work c l r : Nat)) H
theorem ok_law_reckon (T : Txt K mg a) : ∃ fd, FnOk P w K mg base CX0 1 a.d_law_reckon fd ["sign", "left", "right"] spReckon ∧ Binds K fd ["sign", "left", "right"] [] := by
  obtain ⟨fd, F, b⟩ := T.d_law_reckon.F
  refine ⟨fd, F.ok sc_law_reckon (fun vs H Q E h => ?_) (fun cdv A outer s H vs Q E hr h => ?_), b⟩
  · obtain ⟨_, _, _, rfl, _⟩ := h
    rfl
  · obtain ⟨c, l, r, rfl, hl, hr', k⟩ := h
    refine ⟨_, (pss_cons (ps_if (pt_cmpR op_eq (pv 0) pe_str (nomark _))
      (pss_one (ps_ret (pe_op op_add (pv 1) (pv 2))))
      pss_nil)
      (pss_cons (ps_if (pt_cmpR op_eq (pv 0) pe_str (nomark _))
      (pss_one (ps_ret (pe_callB (call_max2 rfl) (by rfl) T.n_max (by decide +kernel) (pa_cons pe_int (pa_cons (pe_op op_sub (pv 1) (pv 2)) pa_nil)))))
      pss_nil)
      (pss_cons (ps_if (pt_cmpR op_eq (pv 0) pe_str (nomark _))
      (pss_one (ps_ret (pe_op op_mul (pv 1) (pv 2))))
      pss_nil)
      (pss_cons (ps_if (pt_cmpR op_eq (pv 0) pe_str (nomark _))
      (pss_one (ps_ret (pe_op op_add (pe_op op_mul pe_int (pv 1)) (pv 2))))
      pss_nil)
      (pss_cons (ps_if (pt_cmpR op_eq (pv 0) pe_str (nomark _))
      (pss_one (ps_ret (pe_callTy call_int1 (by rfl) T.n_int (by decide +kernel) (pa_cons (pe_cmpR op_lt (pv 1) (pv 2) (nomark _)) pa_nil))))
      pss_nil)
      (pss_one (ps_ret (pe_callTy call_int1 (by rfl) T.n_int (by decide +kernel) (pa_cons (pe_cmpR op_eq (pv 1) (pv 2) (nomark _)) pa_nil))))))))), ?_⟩
    unfold work at k
    walk_at "rs"
    refine ite2 (fun c1 => ?_) (fun c1 => ?_)
    · have c1 : c = 97 := (sg_eq c 97).mp (V.str.inj (of_decide_eq_true c1))
      rw [if_pos c1, Int.natCast_add] at k
      walk_at "rs"
      exact k
    have c1 : c ≠ 97 := fun e => c1 (decide_eq_true (congrArg V.str ((sg_eq c 97).mpr e)))
    rw [if_neg c1] at k
    walk_at "rs"
    refine ite2 (fun c2 => ?_) (fun c2 => ?_)
    · have c2 : c = 115 := (sg_eq c 115).mp (V.str.inj (of_decide_eq_true c2))
      rw [if_pos c2] at k
      walk_at "rs"
      have e : ((l - r : Nat) : Int) = if (l : Int) - (r : Int) > 0 then (l : Int) - (r : Int) else 0 := by
        split <;> omega
      rw [e] at k
      exact ⟨_, _, rfl, k⟩
    have c2 : c ≠ 115 := fun e => c2 (decide_eq_true (congrArg V.str ((sg_eq c 115).mpr e)))
    rw [if_neg c2] at k
    walk_at "rs"
    refine ite2 (fun c3 => ?_) (fun c3 => ?_)
    · have c3 : c = 109 := (sg_eq c 109).mp (V.str.inj (of_decide_eq_true c3))
      rw [if_pos c3, Int.natCast_mul] at k
      walk_at "rs"
      exact ⟨(show CMul _ _ from .inl ⟨by omega, by omega⟩), k⟩
    have c3 : c ≠ 109 := fun e => c3 (decide_eq_true (congrArg V.str ((sg_eq c 109).mpr e)))
    rw [if_neg c3] at k
    walk_at "rs"
    refine ite2 (fun c4 => ?_) (fun c4 => ?_)
    · have c4 : c = 116 := (sg_eq c 116).mp (V.str.inj (of_decide_eq_true c4))
      rw [if_pos c4, Int.natCast_add, Int.natCast_mul] at k
      walk_at "rs"
      exact k
    have c4 : c ≠ 116 := fun e => c4 (decide_eq_true (congrArg V.str ((sg_eq c 116).mpr e)))
    rw [if_neg c4] at k
    walk_at "rs"
    refine ite2 (fun c5 => ?_) (fun c5 => ?_)
    · have c5 : c = 99 := (sg_eq c 99).mp (V.str.inj (of_decide_eq_true c5))
      rw [if_pos c5] at k
      walk_at "rs"
      refine .inr ⟨_, rfl, ?_⟩
      by_cases h : l < r
      · rw [if_pos h] at k
        rw [decide_eq_true (by omega)]
        exact k
      · rw [if_neg h] at k
        rw [decide_eq_false (by omega)]
        exact k
    have c5 : c ≠ 99 := fun e => c5 (decide_eq_true (congrArg V.str ((sg_eq c 99).mpr e)))
    rw [if_neg c5] at k
    walk_at "rs"
    refine .inr ⟨_, rfl, ?_⟩
    by_cases h : l = r
    · rw [if_pos h] at k
      rw [decide_eq_true (by rw [h])]
      exact k
    · rw [if_neg h] at k
      rw [decide_eq_false (fun e => h (by have := V.int.inj e; omega))]
      exact k
def needM (c : Nat) : Nat := if c ∈ TL.tl "0123456789gin" then 0 else if c ∈ TL.tl "asmtceuf" then 2 else 1
def spNeed : Sp := fun vs H Q _ => ∃ c : Nat, vs = [.str ⟨#[c]⟩] ∧ Q (.int (needM c : Nat)) H
theorem ok_law_need (T : Txt K mg a) : ∃ fd, FnOk P w K mg base CX0 1 a.d_law_need fd ["sign"] spNeed ∧ Binds K fd ["sign"] [] := by
  obtain ⟨fd, F, b⟩ := T.d_law_need.F
  refine ⟨fd, F.ok sc_law_need (fun vs H Q E h => ?_) (fun cdv A outer s H vs Q E hr h => ?_), b⟩
  · obtain ⟨_, rfl, _⟩ := h
    rfl
  · obtain ⟨c, rfl, k⟩ := h
    refine ⟨_, (pss_cons (ps_if (pt_cmpR op_in_sign (pv 0) pe_str (by rfl))
      (pss_one (ps_ret pe_int))
      pss_nil)
      (pss_cons (ps_if (pt_cmpR op_in_sign (pv 0) pe_str (by rfl))
      (pss_one (ps_ret pe_int))
      pss_nil)
      (pss_one (ps_ret pe_int)))), ?_⟩
    unfold needM at k
    walk_at "rs"
    refine ite2 (fun c1 => ?_) (fun c1 => ?_)
    · rw [if_pos (show c ∈ TL.tl "0123456789gin" from of_decide_eq_true c1)] at k
      exact k
    rw [if_neg (show ¬ c ∈ TL.tl "0123456789gin" from fun h => c1 (decide_eq_true h))] at k
    walk_at "rs"
    refine ite2 (fun c2 => ?_) (fun c2 => ?_)
    · rw [if_pos (show c ∈ TL.tl "asmtceuf" from of_decide_eq_true c2)] at k
      exact k
    rw [if_neg (show ¬ c ∈ TL.tl "asmtceuf" from fun h => c2 (decide_eq_true h))] at k
    exact k
/-- the law's own machine in the heap -/
def LAt (H : Hp) (L D S : Addr) (m : Mc) : Prop := L ≠ S ∧ H L = some (.lst (m.stk.map fun n => V.int (n : Nat))) ∧ H D = some (.dK (kvV m.kv)) ∧ H S = some (.lst [.int (m.pl : Nat), .int (m.pd : Nat)])
theorem LAt.ne {H : Hp} {L D S : Addr} {m : Mc} (h : LAt H L D S m) : L ≠ D ∧ L ≠ S ∧ D ≠ S := by
  obtain ⟨n, h1, h2, h3⟩ := h
  exact ⟨fun e => (by rw [e, h2] at h1; cases h1), n, fun e => (by rw [e, h3] at h2; cases h2)⟩
theorem LAt.toL {H : Hp} {L D S : Addr} {m : Mc} (h : LAt H L D S m) (s : List Nat) : LAt (upd H L (.lst (s.map fun n => V.int (n : Nat)))) L D S { m with stk := s } := by
  obtain ⟨n1, n2, n3⟩ := h.ne
  obtain ⟨n, h1, h2, h3⟩ := h
  exact ⟨n, upd_same, by rw [upd_ne (fun e => n1 e.symm)]; exact h2, by rw [upd_ne (fun e => n2 e.symm)]; exact h3⟩
theorem LAt.toD {H : Hp} {L D S : Addr} {m : Mc} (h : LAt H L D S m) (kv : List (Nat × Nat)) : LAt (upd H D (.dK (kvV kv))) L D S { m with kv := kv } := by
  obtain ⟨n1, n2, n3⟩ := h.ne
  obtain ⟨n, h1, h2, h3⟩ := h
  exact ⟨n, by rw [upd_ne n1]; exact h1, upd_same, by rw [upd_ne (fun e => n3 e.symm)]; exact h3⟩
theorem LAt.toS {H : Hp} {L D S : Addr} {m : Mc} (h : LAt H L D S m) (p d : Nat) : LAt (upd H S (.lst [.int (p : Nat), .int (d : Nat)])) L D S { m with pl := p, pd := d } := by
  obtain ⟨n1, n2, n3⟩ := h.ne
  obtain ⟨n, h1, h2, h3⟩ := h
  exact ⟨n, by rw [upd_ne n2]; exact h1, by rw [upd_ne n3]; exact h2, upd_same⟩
theorem Oth.u1 {H : Hp} {p D L : Addr} {o : HO} : Oth p D L H (upd H p o) := fun b u n1 _ _ e => by rw [upd_ne n1]; exact e
theorem Oth.u2 {H : Hp} {p D L : Addr} {o : HO} : Oth p D L H (upd H D o) := fun b u _ n1 _ e => by rw [upd_ne n1]; exact e
theorem Oth.u3 {H : Hp} {p D L : Addr} {o : HO} : Oth p D L H (upd H L o) := fun b u _ _ n1 e => by rw [upd_ne n1]; exact e
theorem last_of {l : List Nat} (h : l ≠ []) : ∃ s y, l = s ++ [y] ∧ l.dropLast = s ∧ l.getLast? = some y := by
  rcases List.eq_nil_or_concat l with e | ⟨s, y, e⟩
  · exact absurd e h
  · rw [List.concat_eq_append] at e
    exact ⟨s, y, e, by rw [e]; simp, by rw [e]; simp⟩
def actM (c t : Nat) (m : Mc) : Bool × Mc :=
  if c = 104 then (true, { m with stk := m.stk ++ [t] ++ [t] })
  else if c = 108 then (true, { m with stk := m.stk ++ [getN m.kv t] })
  else if c = 117 then (true, { m with stk := m.stk.dropLast, kv := putN m.kv t (m.stk.getLast?.getD 0) })
  else if c = 106 then (true, { m with pl := t })
  else if c = 102 then (true, if m.stk.getLast?.getD 0 = 0 then { m with stk := m.stk.dropLast, pl := t } else { m with stk := m.stk.dropLast })
  else if c = 121 then (true, { m with pd := m.pd + t })
  else (decide (t ≠ 0), m)
def spAct : Sp := fun vs H Q _ => ∃ (c t : Nat) (L D S : Addr) (m : Mc), vs = [.str ⟨#[c]⟩, .int (t : Nat), .ref L, .ref D, .ref S] ∧ (c = 104 ∨ c = 108 ∨ c = 117 ∨ c = 106 ∨ c = 102 ∨ c = 121 ∨ c = 111) ∧ (c = 117 ∨ c = 102 → m.stk ≠ []) ∧ LAt H L D S m ∧ m.stk.length ≤ 16 ∧ m.kv.length ≤ 899 ∧
  ∀ H', LAt H' L D S (actM c t m).2 → Oth L D S H H' → Q (.bl (actM c t m).1) H'
theorem ok_law_act (T : Txt K mg a) : ∃ fd, FnOk P w K mg base CX0 1 a.d_law_act fd ["sign", "top", "stack", "store", "state"] spAct ∧ Binds K fd ["sign", "top", "stack", "store", "state"] [] := by
  obtain ⟨fd, F, b⟩ := T.d_law_act.F
  refine ⟨fd, F.ok sc_law_act (fun vs H Q E h => ?_) (fun cdv A outer s H vs Q E hr h => ?_), b⟩
  · obtain ⟨_, _, _, _, _, _, rfl, _⟩ := h
    rfl
  · obtain ⟨c, t, L, D, S, m, rfl, hc, hne, hm, lm, lk, k⟩ := h
    obtain ⟨nLD, nLS, nDS⟩ := hm.ne
    obtain ⟨-, hL, hD, hS⟩ := id hm
    refine ⟨_, (pss_cons (ps_if (pt_cmpR op_eq (pv 0) pe_str (nomark _))
      (pss_cons (ps_expr (pe_bm PySem.F.plainAttrs_list PySem.F.slot_list_append PySem.F.type_list_append mt_append (pv 2) (pa_cons (pv 1) pa_nil)))
        (pss_one (ps_expr (pe_bm PySem.F.plainAttrs_list PySem.F.slot_list_append PySem.F.type_list_append mt_append (pv 2) (pa_cons (pv 1) pa_nil)))))
      pss_nil)
      (pss_cons (ps_if (pt_cmpR op_eq (pv 0) pe_str (nomark _))
      (pss_one (ps_expr (pe_bm PySem.F.plainAttrs_list PySem.F.slot_list_append PySem.F.type_list_append mt_append (pv 2) (pa_cons (pe_dget2 (hu_of hr) (pv 3) (pv 1) pe_int ⟨rfl, rfl, rfl, rfl⟩) pa_nil))))
      pss_nil)
      (pss_cons (ps_if (pt_cmpR op_eq (pv 0) pe_str (nomark _))
      (pss_one (ps_dput (hu_of hr) (pv 3) (pv 1) (pe_bm0 PySem.F.plainAttrs_list PySem.F.slot_list_pop PySem.F.type_list_pop mt_pop (pv 2)) rfl))
      pss_nil)
      (pss_cons (ps_if (pt_cmpR op_eq (pv 0) pe_str (nomark _))
      (pss_one (ps_asg (pv 1) (pg_sub (pv 4) pe_int set_list)))
      pss_nil)
      (pss_cons (ps_if (PW.pt (pw_and (pt_cmpR op_eq (pv 0) pe_str (nomark _)) (pw_and1 (pt_cmpR op_eq (pe_bm0 PySem.F.plainAttrs_list PySem.F.slot_list_pop PySem.F.type_list_pop mt_pop (pv 2)) pe_int (nomark _)))))
      (pss_one (ps_asg (pv 1) (pg_sub (pv 4) pe_int set_list)))
      pss_nil)
      (pss_cons (ps_if (pt_cmpR op_eq (pv 0) pe_str (nomark _))
      (pss_one (ps_asg (pe_op op_add (pe_ix ix_list (pv 4) pe_int (fun _ _ => rfl)) (pv 1)) (pg_sub (pv 4) pe_int set_list)))
      pss_nil)
      (pss_one (ps_ret (pe_or (pe_cmpR op_ne (pv 0) pe_str (nomark _)) (pe_one (pe_cmpR op_ne (pv 1) pe_int (nomark _)))))))))))), ?_⟩
    have hl : (m.stk.map fun n => V.int (n : Nat)).length = m.stk.length := List.length_map ..
    have cat : ∀ x : Nat, (m.stk.map fun n => V.int (n : Nat)) ++ [V.int (x : Nat)] = (m.stk ++ [x]).map fun n => V.int (n : Nat) := fun x => by simp
    rcases hc with rfl | rfl | rfl | rfl | rfl | rfl | rfl
    · walk_at "rs"
      refine ⟨.inl ⟨rfl, _, SqL.of hL⟩, ?_⟩
      walk_at "rs"
      refine ⟨L, _, _, rfl, rfl, hL, by rw [hl]; exact small1000 (by omega), ?_⟩
      rw [cat]
      walk_at "rs"
      refine ⟨.inl ⟨rfl, _, SqL.of upd_same⟩, ?_⟩
      walk_at "rs"
      refine ⟨L, _, _, rfl, rfl, upd_same, by rw [List.length_map, List.length_append]; exact small1000 (by show m.stk.length + 1 ≤ _; omega), ?_⟩
      rw [upd_upd, show (m.stk ++ [t]).map (fun n : Nat => V.int (n : Nat)) ++ [V.int (t : Nat)] = (m.stk ++ [t] ++ [t]).map fun n : Nat => V.int (n : Nat) by simp]
      walk_at "rs"
      refine ite2 (fun _ => ?_) (fun h => absurd (by decide +kernel) h)
      exact k _ (hm.toL _) .u1
    · walk_at "rs"
      refine ⟨.inl ⟨rfl, _, SqL.of hL⟩, ?_⟩
      walk_at "rs"
      refine ⟨.inl ⟨_, .of hD⟩, ?_⟩
      walk_at "rs"
      refine ⟨_, DGet.k (k := Sum.inl (t : Int)) hD, ?_⟩
      rw [get_kv]
      refine ⟨L, _, _, rfl, rfl, hL, by rw [hl]; exact small1000 (by omega), ?_⟩
      rw [cat]
      walk_at "rs"
      refine ite2 (fun _ => ?_) (fun h => absurd (by decide +kernel) h)
      exact k _ (hm.toL _) .u1
    · obtain ⟨s, y, e1, e2, e3⟩ := last_of (hne (.inl rfl))
      have ea : actM 117 t m = (true, { m with stk := s, kv := putN m.kv t y }) := by
        show (true, { m with stk := m.stk.dropLast, kv := putN m.kv t (m.stk.getLast?.getD 0) }) = _
        rw [e2, e3]
        rfl
      rw [ea] at k
      walk_at "rs"
      refine ⟨.inl ⟨rfl, _, SqL.of hL⟩, ?_⟩
      refine ⟨L, _, .int (y : Nat), rfl, rfl, hL, by rw [e1]; simp, ?_⟩
      rw [show (m.stk.map fun n : Nat => V.int (n : Nat)).dropLast = s.map fun n : Nat => V.int (n : Nat) by rw [e1]; simp]
      have h2 := hm.toL s
      walk_at "rs"
      refine ⟨D, _, rfl, DPut.k (k := Sum.inl (t : Int)) h2.2.2.1 (by rw [len_kv]; exact small1000 (by show m.kv.length ≤ _; omega)), ?_⟩
      rw [put_kv]
      walk_at "rs"
      refine ite2 (fun _ => ?_) (fun h => absurd (by decide +kernel) h)
      exact k _ (h2.toD _) (Oth.trans .u1 .u2)
    · walk_at "rs"
      refine ⟨S, _, _, 0, rfl, rfl, hS, rfl, ?_⟩
      walk_at "rs"
      refine ite2 (fun _ => ?_) (fun h => absurd (by decide +kernel) h)
      exact k _ (hm.toS t m.pd) .u3
    · obtain ⟨s, y, e1, e2, e3⟩ := last_of (hne (.inr rfl))
      have ea : actM 102 t m = (true, if y = 0 then { m with stk := s, pl := t } else { m with stk := s }) := by
        show (true, if m.stk.getLast?.getD 0 = 0 then { m with stk := m.stk.dropLast, pl := t } else { m with stk := m.stk.dropLast }) = _
        rw [e2, e3]
        rfl
      rw [ea] at k
      walk_at "rs"
      refine ⟨.inl ⟨rfl, _, SqL.of hL⟩, ?_⟩
      refine ⟨L, _, .int (y : Nat), rfl, rfl, hL, by rw [e1]; simp, ?_⟩
      rw [show (m.stk.map fun n : Nat => V.int (n : Nat)).dropLast = s.map fun n : Nat => V.int (n : Nat) by rw [e1]; simp]
      have h2 := hm.toL s
      walk_at "rs"
      refine ite2 (fun c => ?_) (fun c => ?_)
      · have c : y = 0 := by
          have := V.int.inj (of_decide_eq_true c)
          omega
        rw [if_pos c] at k
        walk_at "rs"
        refine ⟨S, _, _, 0, rfl, rfl, h2.2.2.2, rfl, ?_⟩
        walk_at "rs"
        refine ite2 (fun _ => ?_) (fun h => absurd (by decide +kernel) h)
        exact k _ (h2.toS t m.pd) (Oth.trans .u1 .u3)
      · have c : ¬ y = 0 := fun h => c (decide_eq_true (by rw [h]; rfl))
        rw [if_neg c] at k
        walk_at "rs"
        refine ite2 (fun _ => ?_) (fun h => absurd (by decide +kernel) h)
        exact k _ h2 .u1
    · walk_at "rs"
      refine ⟨S, _, 1, .int (m.pd : Nat), rfl, rfl, SqL.of hS, rfl, ?_⟩
      walk_at "rs"
      refine ⟨S, _, _, 1, rfl, rfl, hS, rfl, ?_⟩
      walk_at "rs"
      refine ite2 (fun _ => ?_) (fun h => absurd (by decide +kernel) h)
      refine k _ (hm.toS m.pl (m.pd + t)) .u3
    · have e : (!decide (V.int (t : Int) = V.int 0)) = decide (t ≠ 0) := by
        by_cases h : t = 0
        · rw [h]
          rfl
        · rw [decide_eq_false (fun e => h (by have := V.int.inj e; omega)), decide_eq_true h]
          rfl
      walk_at "rs"
      rw [e]
      exact k _ hm .rfl

def Alph (c : Nat) : Prop := c ∈ TL.tl "0123456789ginasmtcehlujfyo"
theorem alph_iff (c : Nat) : Alph c ↔ (48 ≤ c ∧ c ≤ 57) ∨ (c = 103 ∨ c = 105 ∨ c = 110) ∨ (c = 97 ∨ c = 115 ∨ c = 109 ∨ c = 116 ∨ c = 99 ∨ c = 101) ∨ (c = 104 ∨ c = 108 ∨ c = 117 ∨ c = 106 ∨ c = 102 ∨ c = 121 ∨ c = 111) := by
  unfold Alph
  rw [show TL.tl "0123456789ginasmtcehlujfyo" = [48, 49, 50, 51, 52, 53, 54, 55, 56, 57, 103, 105, 110, 97, 115, 109, 116, 99, 101, 104, 108, 117, 106, 102, 121, 111] by decide +kernel]
  simp only [List.mem_cons, List.not_mem_nil, or_false]
  omega
theorem in_dig (c : Nat) : c ∈ TL.tl "0123456789" ↔ 48 ≤ c ∧ c ≤ 57 := by
  rw [show TL.tl "0123456789" = [48, 49, 50, 51, 52, 53, 54, 55, 56, 57] by decide +kernel]
  simp only [List.mem_cons, List.not_mem_nil, or_false]
  omega
theorem in_gin (c : Nat) : c ∈ TL.tl "gin" ↔ c = 103 ∨ c = 105 ∨ c = 110 := by
  rw [show TL.tl "gin" = [103, 105, 110] by decide +kernel]
  simp only [List.mem_cons, List.not_mem_nil, or_false]
theorem in_six (c : Nat) : c ∈ TL.tl "asmtce" ↔ c = 97 ∨ c = 115 ∨ c = 109 ∨ c = 116 ∨ c = 99 ∨ c = 101 := by
  rw [show TL.tl "asmtce" = [97, 115, 109, 116, 99, 101] by decide +kernel]
  simp only [List.mem_cons, List.not_mem_nil, or_false]
theorem need_eq (c : Nat) : needM c = if (48 ≤ c ∧ c ≤ 57) ∨ c = 103 ∨ c = 105 ∨ c = 110 then 0 else if (c = 97 ∨ c = 115 ∨ c = 109 ∨ c = 116 ∨ c = 99 ∨ c = 101) ∨ c = 117 ∨ c = 102 then 2 else 1 := by
  unfold needM
  have e1 : c ∈ TL.tl "0123456789gin" ↔ (48 ≤ c ∧ c ≤ 57) ∨ c = 103 ∨ c = 105 ∨ c = 110 := by
    rw [show TL.tl "0123456789gin" = [48, 49, 50, 51, 52, 53, 54, 55, 56, 57, 103, 105, 110] by decide +kernel]
    simp only [List.mem_cons, List.not_mem_nil, or_false]
    omega
  have e2 : c ∈ TL.tl "asmtceuf" ↔ (c = 97 ∨ c = 115 ∨ c = 109 ∨ c = 116 ∨ c = 99 ∨ c = 101) ∨ c = 117 ∨ c = 102 := by
    rw [show TL.tl "asmtceuf" = [97, 115, 109, 116, 99, 101, 117, 102] by decide +kernel]
    simp only [List.mem_cons, List.not_mem_nil, or_false]
    omega
  simp only [e1, e2]
theorem take_nil {m : Mc} (h : m.stk = []) : takeM m = none := by
  unfold takeM
  rw [h]
  rfl
theorem take_at {m : Mc} {s : List Nat} {t : Nat} (h : m.stk = s ++ [t]) : takeM m = some (t, { m with stk := s }) := by
  unfold takeM
  rw [h]
  simp
theorem perf_dig {G : Gv} {c : Nat} (m : Mc) (h : 48 ≤ c ∧ c ≤ 57) : performM G c m = pushM (c - 48) m := if_pos h
theorem perf_num {G : Gv} {c : Nat} (m : Mc) (h : c = 103 ∨ c = 105 ∨ c = 110) : performM G c m = numberM G c m := by
  unfold performM
  rw [if_neg (by omega), if_pos h]
theorem perf_six {G : Gv} {c : Nat} (m : Mc) (h : c = 97 ∨ c = 115 ∨ c = 109 ∨ c = 116 ∨ c = 99 ∨ c = 101) : performM G c m = combineM c m := by
  unfold performM
  rw [if_neg (by omega), if_neg (by omega), if_pos h]
theorem perf_move {G : Gv} {c : Nat} (m : Mc) (h : c = 104 ∨ c = 108 ∨ c = 117) : performM G c m = moveM c m := by
  unfold performM
  rw [if_neg (by omega), if_neg (by omega), if_neg (by omega), if_pos h]
theorem perf_jump {G : Gv} {c : Nat} (m : Mc) (h : c = 106 ∨ c = 102) : performM G c m = jumpM c m := by
  unfold performM
  rw [if_neg (by omega), if_neg (by omega), if_neg (by omega), if_neg (by omega), if_pos h]
theorem perf_settle {G : Gv} {c : Nat} (m : Mc) (h : c = 121 ∨ c = 111) : performM G c m = settleM c m := by
  unfold performM
  rw [if_neg (by omega), if_neg (by omega), if_neg (by omega), if_neg (by omega), if_neg (by omega)]
theorem need_none {G : Gv} {c : Nat} {m : Mc} (ha : Alph c) (h : m.stk.length < needM c) : performM G c m = none := by
  rw [need_eq] at h
  have one : ∀ {g : Nat × Mc → Option Mc}, m.stk = [] → (takeM m).bind g = none := fun e => by rw [take_nil e]; rfl
  have nil : m.stk.length < 1 → m.stk = [] := fun h => List.eq_nil_of_length_eq_zero (by omega)
  have two : ∀ {g : Nat × Mc → Option Mc}, m.stk.length < 2 → (∀ x : Nat × Mc, x.2.stk = [] → g x = none) → (takeM m).bind g = none := fun {g} h2 hg => by
    rcases List.eq_nil_or_concat m.stk with e | ⟨s, t, e⟩
    · exact one e
    · rw [List.concat_eq_append] at e
      rw [take_at e]
      refine hg _ ?_
      rw [e, List.length_append, List.length_singleton] at h2
      exact List.eq_nil_of_length_eq_zero (by show s.length = 0; omega)
  rcases (alph_iff c).mp ha with d | d | d | d
  · rw [if_pos (.inl d)] at h
    omega
  · rw [if_pos (.inr d)] at h
    omega
  · rw [if_neg (by omega), if_pos (.inl d)] at h
    rw [perf_six m d]
    exact two h fun x hx => by rw [take_nil hx]; rfl
  · rcases d with d | d | d | d | d | d | d
    · rw [if_neg (by omega), if_neg (by omega)] at h
      rw [perf_move m (by omega)]
      exact one (nil h)
    · rw [if_neg (by omega), if_neg (by omega)] at h
      rw [perf_move m (by omega)]
      exact one (nil h)
    · rw [if_neg (by omega), if_pos (by omega)] at h
      rw [perf_move m (by omega)]
      exact two h fun x hx => by rw [if_neg (by omega), if_neg (by omega), take_nil hx]; rfl
    · rw [if_neg (by omega), if_neg (by omega)] at h
      rw [perf_jump m (by omega)]
      exact one (nil h)
    · rw [if_neg (by omega), if_pos (by omega)] at h
      rw [perf_jump m (by omega)]
      exact two h fun x hx => by rw [if_neg (by omega), take_nil hx]; rfl
    · rw [if_neg (by omega), if_neg (by omega)] at h
      rw [perf_settle m (by omega)]
      exact one (nil h)
    · rw [if_neg (by omega), if_neg (by omega)] at h
      rw [perf_settle m (by omega)]
      exact one (nil h)
theorem get_lt {kv : List (Nat × Nat)} (h : ∀ x ∈ kv, x.2 < 1000000) (k : Nat) : getN kv k < 1000000 := by
  unfold getN
  cases e : kv.find? fun x => decide (x.1 = k) with
  | none => decide
  | some x => exact h x (List.mem_of_find?_eq_some e)
theorem act_perf {G : Gv} {c t : Nat} {m : Mc} {s : List Nat} (hc : c = 104 ∨ c = 108 ∨ c = 117 ∨ c = 106 ∨ c = 102 ∨ c = 121 ∨ c = 111) (e : m.stk = s ++ [t]) (hn : c = 117 ∨ c = 102 → s ≠ []) (f : Fit m) (hv : ∀ x ∈ m.kv, x.2 < 1000000) :
    performM G c m = if (actM c t { m with stk := s }).1 = true ∧ (actM c t { m with stk := s }).2.stk.length ≤ 16 then some (actM c t { m with stk := s }).2 else none := by
  have ls : s.length ≤ 15 := by
    have := f.1
    rw [e, List.length_append, List.length_singleton] at this
    omega
  have lt : t < 1000000 := f.2.2 t (by rw [e]; simp)
  have mt : t % 1000000 = t := Nat.mod_eq_of_lt lt
  rcases hc with rfl | rfl | rfl | rfl | rfl | rfl | rfl
  · rw [perf_move m (by omega)]
    unfold moveM
    rw [take_at e]
    show (pushM t { m with stk := s }).bind (pushM t) = if true = true ∧ (s ++ [t] ++ [t]).length ≤ 16 then some { m with stk := s ++ [t] ++ [t] } else none
    rw [show pushM t { m with stk := s } = some { m with stk := s ++ [t % 1000000] } from if_neg (by show ¬ 16 ≤ s.length; omega), mt]
    show (if 16 ≤ (s ++ [t]).length then none else some { m with stk := s ++ [t] ++ [t % 1000000] }) = _
    rw [mt]
    by_cases h : 16 ≤ (s ++ [t]).length
    · rw [if_pos h, if_neg (by rw [List.length_append (as := s ++ [t])]; simp only [List.length_singleton]; omega)]
    · rw [if_neg h, if_pos ⟨rfl, by rw [List.length_append (as := s ++ [t])]; simp only [List.length_singleton]; omega⟩]
  · rw [perf_move m (by omega)]
    unfold moveM
    rw [take_at e]
    show pushM (getN m.kv t) { m with stk := s } = if true = true ∧ (s ++ [getN m.kv t]).length ≤ 16 then some { m with stk := s ++ [getN m.kv t] } else none
    rw [if_pos ⟨rfl, by rw [List.length_append, List.length_singleton]; omega⟩]
    rw [show pushM (getN m.kv t) { m with stk := s } = some { m with stk := s ++ [getN m.kv t % 1000000] } from if_neg (by show ¬ 16 ≤ s.length; omega), Nat.mod_eq_of_lt (get_lt hv t)]
  · obtain ⟨s2, y, e1, e2, e3⟩ := last_of (hn (.inl rfl))
    rw [perf_move m (by omega)]
    unfold moveM
    rw [take_at e]
    show (takeM { m with stk := s }).map (fun y => { y.2 with kv := putN y.2.kv t y.1 }) = if true = true ∧ s.dropLast.length ≤ 16 then some { m with stk := s.dropLast, kv := putN m.kv t (s.getLast?.getD 0) } else none
    rw [take_at (m := { m with stk := s }) e1, e2, e3, if_pos ⟨rfl, by rw [e1, List.length_append, List.length_singleton] at ls; omega⟩]
    rfl
  · rw [perf_jump m (by omega)]
    unfold jumpM
    rw [take_at e]
    show some { m with stk := s, pl := t } = if true = true ∧ s.length ≤ 16 then some { m with stk := s, pl := t } else none
    rw [if_pos ⟨rfl, by omega⟩]
  · obtain ⟨s2, y, e1, e2, e3⟩ := last_of (hn (.inr rfl))
    rw [perf_jump m (by omega)]
    unfold jumpM
    rw [take_at e]
    show (takeM { m with stk := s }).map (fun y => if y.1 = 0 then { y.2 with pl := t } else y.2) = if true = true ∧ (if s.getLast?.getD 0 = 0 then ({ m with stk := s.dropLast, pl := t } : Mc) else { m with stk := s.dropLast }).stk.length ≤ 16 then some (if s.getLast?.getD 0 = 0 then ({ m with stk := s.dropLast, pl := t } : Mc) else { m with stk := s.dropLast }) else none
    rw [take_at (m := { m with stk := s }) e1, e2, e3]
    have l2 : s2.length ≤ 16 := by rw [e1, List.length_append, List.length_singleton] at ls; omega
    show some (if y = 0 then ({ m with stk := s2, pl := t } : Mc) else { m with stk := s2 }) = if true = true ∧ (if y = 0 then ({ m with stk := s2, pl := t } : Mc) else { m with stk := s2 }).stk.length ≤ 16 then some (if y = 0 then ({ m with stk := s2, pl := t } : Mc) else { m with stk := s2 }) else none
    by_cases h : y = 0
    · rw [if_pos h, if_pos ⟨rfl, l2⟩]
    · rw [if_neg h, if_pos ⟨rfl, l2⟩]
  · rw [perf_settle m (by omega)]
    unfold settleM
    rw [take_at e]
    show some { m with stk := s, pd := m.pd + t } = if true = true ∧ s.length ≤ 16 then some { m with stk := s, pd := m.pd + t } else none
    rw [if_pos ⟨rfl, by omega⟩]
  · rw [perf_settle m (by omega)]
    unfold settleM
    rw [take_at e]
    show (if t = 0 then none else some { m with stk := s }) = if decide (t ≠ 0) = true ∧ s.length ≤ 16 then some { m with stk := s } else none
    by_cases h : t = 0
    · rw [if_pos h, if_neg (by rw [decide_eq_true_iff]; exact fun z => z.1 h)]
    · rw [if_neg h, if_pos ⟨decide_eq_true h, by omega⟩]
def spLSign : Sp := fun vs H Q _ => ∃ (c : Nat) (G : Gv) (L D S : Addr) (m : Mc), vs = [.str ⟨#[c]⟩, .int (G.given : Nat), .int (G.amount : Nat), .ref L, .ref D, .ref S] ∧ Alph c ∧ LAt H L D S m ∧ Fit m ∧ m.kv.length ≤ 899 ∧ (∀ x ∈ m.kv, x.2 < 1000000) ∧ G.given < 1000000 ∧ G.amount < 1000000 ∧
  (∀ m' H', performM G c m = some m' → LAt H' L D S m' → Oth L D S H H' → Q (.bl true) H') ∧ (performM G c m = none → ∀ H', Oth L D S H H' → Q (.bl false) H')

theorem ok_law_sign (T : Txt K mg a) : ∃ fd, FnOk P w K mg base CX0 2 a.d_law_sign fd ["sign", "given", "amount", "stack", "store", "state"] spLSign ∧ Binds K fd ["sign", "given", "amount", "stack", "store", "state"] [] := by
  obtain ⟨fd, F, b⟩ := T.d_law_sign.F
  obtain ⟨fd_law_need, G_law_need, b_law_need⟩ := ok_law_need (P := P) (w := w) (base := base) T
  obtain ⟨fd_law_act, G_law_act, b_law_act⟩ := ok_law_act (P := P) (w := w) (base := base) T
  obtain ⟨fd_law_reckon, G_law_reckon, b_law_reckon⟩ := ok_law_reckon (P := P) (w := w) (base := base) T
  refine ⟨fd, F.ok sc_law_sign (fun vs H Q E h => ?_) (fun cdv A outer s H vs Q E hr h => ?_), b⟩
  · obtain ⟨_, _, _, _, _, _, rfl, _⟩ := h
    rfl
  · obtain ⟨c, G, L, D, S, m, rfl, hc, hm, hf, few, hv, g1, g2, k1, k2⟩ := h
    obtain ⟨nLD, nLS, nDS⟩ := hm.ne
    obtain ⟨-, hL, hD, hS⟩ := id hm
    have hl : (m.stk.map fun n => V.int (n : Nat)).length = m.stk.length := List.length_map ..
    have cat : ∀ x : Nat, (m.stk.map fun n => V.int (n : Nat)) ++ [V.int (x : Nat)] = (m.stk ++ [x]).map fun n => V.int (n : Nat) := fun x => by simp
    refine ⟨_, (pss_cons (ps_if (pt_cmpR op_lt (pe_callB call_len_seq (by rfl) T.n_len PySem.boot_len (pa_cons (pv 3) pa_nil)) (pe_call G_law_need (hr.mono (by decide)) rfl T.d_law_need.g T.d_law_need.kp b_law_need .nil pass0 (pa_cons (pv 0) pa_nil)) (nomark _))
      (pss_one (ps_ret pe_bl))
      pss_nil)
      (pss_cons (ps_if (pt_cmpR op_in_sign (pv 0) pe_str (by rfl))
      (pss_cons (ps_expr (pe_bm PySem.F.plainAttrs_list PySem.F.slot_list_append PySem.F.type_list_append mt_append (pv 3) (pa_cons (pe_callTy call_int_str (by rfl) T.n_int (by decide +kernel) (pa_cons (pv 0) pa_nil)) pa_nil)))
        (pss_one (ps_ret (pe_cmpR op_le (pe_callB call_len_seq (by rfl) T.n_len PySem.boot_len (pa_cons (pv 3) pa_nil)) pe_int (nomark _)))))
      pss_nil)
      (pss_cons (ps_if (pt_cmpR op_in_sign (pv 0) pe_str (by rfl))
      (pss_cons (ps_expr (pe_bm PySem.F.plainAttrs_list PySem.F.slot_list_append PySem.F.type_list_append mt_append (pv 3) (pa_cons (pe_op op_mod (pe_callTy call_int1 (by rfl) T.n_int (by decide +kernel) (pa_cons (pe_ix ix_tup (pe_tup (pa_cons (pv 1) (pa_cons (pv 2) (pa_cons (pe_callB call_len_seq (by rfl) T.n_len PySem.boot_len (pa_cons (pv 3) pa_nil)) pa_nil)))) (pe_bm PySem.F.plainAttrs_str PySem.F.slot_str_index PySem.F.type_str_index mt_sindex pe_str (pa_cons (pv 0) pa_nil)) (fun _ _ => rfl)) pa_nil)) pe_int) pa_nil)))
        (pss_one (ps_ret (pe_cmpR op_le (pe_callB call_len_seq (by rfl) T.n_len PySem.boot_len (pa_cons (pv 3) pa_nil)) pe_int (nomark _)))))
      pss_nil)
      (pss_cons (ps_set (i := 6) sc_law_sign.nd rfl (Or.inl rfl) (pe_bm0 PySem.F.plainAttrs_list PySem.F.slot_list_pop PySem.F.type_list_pop mt_pop (pv 3)))
      (pss_cons (ps_if (pt_cmpR op_in_sign (pv 0) pe_str (by rfl))
      (pss_cons (ps_set (i := 7) sc_law_sign.nd rfl (Or.inl rfl) (pe_bm0 PySem.F.plainAttrs_list PySem.F.slot_list_pop PySem.F.type_list_pop mt_pop (pv 3)))
        (pss_cons (ps_expr (pe_bm PySem.F.plainAttrs_list PySem.F.slot_list_append PySem.F.type_list_append mt_append (pv 3) (pa_cons (pe_op op_mod (pe_callTy call_int1 (by rfl) T.n_int (by decide +kernel) (pa_cons (pe_call G_law_reckon (hr.mono (by decide)) rfl T.d_law_reckon.g T.d_law_reckon.kp b_law_reckon .nil pass0 (pa_cons (pv 0) (pa_cons (pv 7) (pa_cons (pv 6) pa_nil)))) pa_nil)) pe_int) pa_nil)))
        (pss_one (ps_ret pe_bl))))
      pss_nil)
      (pss_one (ps_ret (pe_and (pe_call G_law_act (hr.mono (by decide)) rfl T.d_law_act.g T.d_law_act.kp b_law_act .nil pass0 (pa_cons (pv 0) (pa_cons (pv 6) (pa_cons (pv 3) (pa_cons (pv 4) (pa_cons (pv 5) pa_nil)))))) (pe_one (pe_cmpR op_le (pe_callB call_len_seq (by rfl) T.n_len PySem.boot_len (pa_cons (pv 3) pa_nil)) pe_int (nomark _))))))))))), ?_⟩
    walk_at "rs"
    refine ⟨L, _, rfl, .inl (SqL.of hL), ?_⟩
    walk_at "rs"
    rw [hl]
    refine ite2 (fun c1 => ?_) (fun c1 => ?_)
    · have c1 := of_decide_eq_true c1
      exact k2 (need_none hc (by omega)) H .rfl
    have c1 : needM c ≤ m.stk.length := by
      have : ¬ m.stk.length < needM c := fun h => c1 (decide_eq_true (by omega))
      omega
    rw [need_eq] at c1
    walk_at "rs"
    have full : ∀ (v : Nat) (H1 : Hp), LAt H1 L D S m → Oth L D S H H1 → performM G c m = pushM v m → v < 1000000 → Q (.bl (decide ((((m.stk.map fun n => V.int (n : Nat)).length + 1 : Nat) : Int) ≤ 16))) (upd H1 L (.lst ((m.stk.map fun n => V.int (n : Nat)) ++ [V.int (v : Nat)]))) := fun v H1 h1 o1 e lv => by
      rw [cat, hl]
      unfold pushM at e
      by_cases h : 16 ≤ m.stk.length
      · rw [if_pos h] at e
        rw [decide_eq_false (by omega)]
        exact k2 e _ (o1.trans .u1)
      · rw [if_neg h, Nat.mod_eq_of_lt lv] at e
        rw [decide_eq_true (by omega)]
        exact k1 _ _ e (h1.toL _) (o1.trans .u1)
    refine ite2 (fun c2 => ?_) (fun c2 => ?_)
    · have c2 := (in_dig c).mp (of_decide_eq_true c2)
      walk_at "rs"
      refine ⟨.inl ⟨rfl, _, SqL.of hL⟩, ?_⟩
      walk_at "rs"
      have hall : NumText.AllDigits [c] := fun n hn => by
        rw [List.mem_singleton.mp hn]
        exact c2
      refine ⟨_, _, rfl, PySem.intText_digits (x := ⟨#[c]⟩) hall (fun e => nomatch e) (by show 1 ≤ _; decide), (by show 1 ≤ 640; decide), ?_⟩
      refine ⟨L, _, _, rfl, rfl, hL, by rw [hl]; exact small1000 (by have := hf.1; omega), ?_⟩
      walk_at "rs"
      refine ⟨L, _, rfl, .inl (SqL.of upd_same), ?_⟩
      rw [show NumText.digitsVal (Array.toList (Str.cps ⟨#[c]⟩)) = c - 48 by simp [NumText.digitsVal], List.length_append]
      walk_at "rs"
      exact full (c - 48) H hm .rfl (perf_dig m c2) (by omega)
    have c2 : ¬ (48 ≤ c ∧ c ≤ 57) := fun h => c2 (decide_eq_true ((in_dig c).mpr h))
    walk_at "rs"
    refine ite2 (fun c3 => ?_) (fun c3 => ?_)
    · have c3 := (in_gin c).mp (of_decide_eq_true c3)
      walk_at "rs"
      refine ⟨.inl ⟨rfl, _, SqL.of hL⟩, ?_⟩
      walk_at "rs"
      refine ⟨L, _, rfl, .inl (SqL.of hL), ?_⟩
      walk_at "rs"
      refine ⟨(by show 3 ≤ sizeLine; decide), fun p np => ?_⟩
      have hm2 : LAt (upd H p (.tup [.int (G.given : Nat), .int (G.amount : Nat), .int (m.stk.length : Nat)])) L D S m := by
        obtain ⟨n, h1, h2, h3⟩ := hm
        exact ⟨n, by rw [upd_ne (ne_of_none h1 np)]; exact h1, by rw [upd_ne (ne_of_none h2 np)]; exact h2, by rw [upd_ne (ne_of_none h3 np)]; exact h3⟩
      have o2 : Oth L D S H (upd H p (.tup [.int (G.given : Nat), .int (G.amount : Nat), .int (m.stk.length : Nat)])) := fun b u _ _ _ e => by
        rw [upd_ne (ne_of_none e np)]
        exact e
      have tu : SqT K (upd H p (.tup [.int (G.given : Nat), .int (G.amount : Nat), .int (m.stk.length : Nat)])) p [.int (G.given : Nat), .int (G.amount : Nat), .int (m.stk.length : Nat)] := SqT.of upd_same
      have lm : m.stk.length ≤ 16 := hf.1
      rw [hl]
      generalize upd H p (.tup [.int (G.given : Nat), .int (G.amount : Nat), .int (m.stk.length : Nat)]) = H2 at hm2 o2 tu ⊢
      rcases c3 with rfl | rfl | rfl
      · walk_at "rs"
        refine ⟨_, _, 0, [], rfl, rfl, by decide +kernel, ?_⟩
        refine ⟨p, _, 0, .int (G.given : Nat), rfl, rfl, tu, rfl, ?_⟩
        walk_at "rs"
        refine ⟨L, _, _, rfl, rfl, hm2.2.1, by rw [hl]; exact small1000 (by omega), ?_⟩
        walk_at "rs"
        refine ⟨L, _, rfl, .inl (SqL.of upd_same), ?_⟩
        dsimp only
        rw [show ((G.given : Nat) : Int) % 1000000 = ((G.given : Nat) : Int) by omega, List.length_append]
        walk_at "rs"
        exact full (G.given) H2 hm2 o2 (perf_num m (by omega)) (by omega)
      · walk_at "rs"
        refine ⟨_, _, 1, [], rfl, rfl, by decide +kernel, ?_⟩
        refine ⟨p, _, 1, .int (G.amount : Nat), rfl, rfl, tu, rfl, ?_⟩
        walk_at "rs"
        refine ⟨L, _, _, rfl, rfl, hm2.2.1, by rw [hl]; exact small1000 (by omega), ?_⟩
        walk_at "rs"
        refine ⟨L, _, rfl, .inl (SqL.of upd_same), ?_⟩
        dsimp only
        rw [show ((G.amount : Nat) : Int) % 1000000 = ((G.amount : Nat) : Int) by omega, List.length_append]
        walk_at "rs"
        exact full (G.amount) H2 hm2 o2 (perf_num m (by omega)) (by omega)
      · walk_at "rs"
        refine ⟨_, _, 2, [], rfl, rfl, by decide +kernel, ?_⟩
        refine ⟨p, _, 2, .int (m.stk.length : Nat), rfl, rfl, tu, rfl, ?_⟩
        walk_at "rs"
        refine ⟨L, _, _, rfl, rfl, hm2.2.1, by rw [hl]; exact small1000 (by omega), ?_⟩
        walk_at "rs"
        refine ⟨L, _, rfl, .inl (SqL.of upd_same), ?_⟩
        dsimp only
        rw [show ((m.stk.length : Nat) : Int) % 1000000 = ((m.stk.length : Nat) : Int) by omega, List.length_append]
        walk_at "rs"
        exact full (m.stk.length) H2 hm2 o2 (perf_num m (by omega)) (by omega)
    have c3 : ¬ (c = 103 ∨ c = 105 ∨ c = 110) := fun h => c3 (decide_eq_true ((in_gin c).mpr h))
    obtain ⟨s, t, es⟩ : ∃ s t, m.stk = s ++ [t] := by
      rcases List.eq_nil_or_concat m.stk with e | ⟨s, t, e⟩
      · rw [e, if_neg (by omega)] at c1
        split at c1 <;> exact absurd c1 (by simp)
      · exact ⟨s, t, by rw [e, List.concat_eq_append]⟩
    have lt : t < 1000000 := hf.2.2 t (by rw [es]; simp)
    have ls : s.length ≤ 15 := by
      have := hf.1
      rw [es, List.length_append, List.length_singleton] at this
      omega
    have hm1 := hm.toL s
    have top : (m.stk.map fun n : Nat => V.int (n : Nat)).dropLast = s.map fun n : Nat => V.int (n : Nat) := by rw [es]; simp
    walk_at "rs"
    refine ⟨.inl ⟨rfl, _, SqL.of hL⟩, ?_⟩
    refine ⟨L, _, .int (t : Nat), rfl, rfl, hL, by rw [es]; simp, ?_⟩
    rw [top]
    walk_at "rs"
    refine ite2 (fun c4 => ?_) (fun c4 => ?_)
    · have c4 := (in_six c).mp (of_decide_eq_true c4)
      walk_at "rs"
      obtain ⟨s2, l, e2⟩ : ∃ s2 l, s = s2 ++ [l] := by
        rcases List.eq_nil_or_concat s with e | ⟨s2, l, e⟩
        · rw [if_neg (by omega), if_pos (.inl c4), es, e] at c1
          simp at c1
        · exact ⟨s2, l, by rw [e, List.concat_eq_append]⟩
      have ll : l < 1000000 := hf.2.2 l (by rw [es, e2]; simp)
      have l2 : s2.length ≤ 14 := by
        rw [e2, List.length_append, List.length_singleton] at ls
        omega
      have ep : performM G c m = some { m with stk := s2 ++ [work c l t % 1000000] } := by
        rw [perf_six m c4]
        unfold combineM
        rw [take_at es]
        show (takeM { m with stk := s }).bind (fun y => pushM (work c y.1 t) y.2) = _
        rw [take_at (m := { m with stk := s }) e2]
        exact if_neg (by show ¬ 16 ≤ s2.length; omega)
      refine ⟨.inl ⟨rfl, _, SqL.of upd_same⟩, ?_⟩
      refine ⟨L, _, .int (l : Nat), rfl, rfl, upd_same, by rw [e2]; simp, ?_⟩
      rw [upd_upd, show (s.map fun n : Nat => V.int (n : Nat)).dropLast = s2.map fun n : Nat => V.int (n : Nat) by rw [e2]; simp]
      walk_at "rs"
      refine ⟨.inl ⟨rfl, _, SqL.of upd_same⟩, ?_⟩
      walk_at "rs"
      refine ⟨c, l, t, rfl, ll, lt, ?_⟩
      walk_at "rs"
      refine ⟨L, _, _, rfl, rfl, upd_same, by rw [List.length_map]; exact small1000 (by omega), ?_⟩
      rw [upd_upd, show (s2.map fun n : Nat => V.int (n : Nat)) ++ [V.int ((work c l t : Nat) % 1000000 : Int)] = (s2 ++ [work c l t % 1000000]).map fun n : Nat => V.int (n : Nat) by simp]
      exact k1 _ _ ep (hm.toL _) .u1
    have c4 : ¬ (c = 97 ∨ c = 115 ∨ c = 109 ∨ c = 116 ∨ c = 99 ∨ c = 101) := fun h => c4 (decide_eq_true ((in_six c).mpr h))
    have c5 : c = 104 ∨ c = 108 ∨ c = 117 ∨ c = 106 ∨ c = 102 ∨ c = 121 ∨ c = 111 := by
      rcases (alph_iff c).mp hc with d | d | d | d
      · exact absurd d c2
      · exact absurd d c3
      · exact absurd d c4
      · exact d
    have hn : c = 117 ∨ c = 102 → s ≠ [] := fun z e => by
      rw [if_neg (by omega), if_pos (by omega), es, e] at c1
      simp at c1
    have hp := act_perf (G := G) c5 es hn hf hv
    walk_at "rs"
    refine ⟨c, t, L, D, S, { m with stk := s }, rfl, c5, hn, hm1, by show s.length ≤ 16; omega, few, fun H' h' o' => ?_⟩
    have o2 : Oth L D S H H' := Oth.trans .u1 o'
    obtain ⟨-, hL2, -, -⟩ := id h'
    walk_at "rs"
    cases hb : (actM c t { m with stk := s }).1 with
    | false =>
      rw [hb, if_neg (fun z => nomatch z.1)] at hp
      exact k2 hp H' o2
    | true =>
      walk_at "rs"
      refine ⟨L, _, rfl, .inl (SqL.of hL2), ?_⟩
      walk_at "rs"
      rw [List.length_map]
      by_cases h : (actM c t { m with stk := s }).2.stk.length ≤ 16
      · rw [if_pos ⟨hb, h⟩] at hp
        have z := k1 _ H' hp h' o2
        rw [← decide_eq_true (p := ((actM c t { m with stk := s }).2.stk.length : Int) ≤ 16) (by omega)] at z
        exact z
      · rw [if_neg (fun z => h z.2)] at hp
        have z := k2 hp H' o2
        rw [← decide_eq_false (p := ((actM c t { m with stk := s }).2.stk.length : Int) ≤ 16) (by omega)] at z
        exact z

theorem nodup_sub : ∀ {l e : List Nat}, l.Nodup → (∀ x ∈ l, x ∈ e) → l.length ≤ e.length
  | [], _, _, _ => Nat.zero_le _
  | x :: l, e, nd, h => by
    have nd := List.nodup_cons.mp nd
    have hx := h x (List.mem_cons_self ..)
    have := nodup_sub (l := l) (e := e.erase x) nd.2 fun y hy => (List.mem_erase_of_ne (fun q => nd.1 (by rw [← q]; exact hy))).mpr (h y (List.mem_cons_of_mem _ hy))
    have le := List.length_erase_of_mem hx
    have pos := List.length_pos_of_mem hx
    rw [List.length_cons]
    omega
/-- how one sign changes a machine -/
def Base (G : Gv) (v : Nat) : Prop := v ≤ 16 ∨ v = G.given % 1000000 ∨ v = G.amount % 1000000
def From (G : Gv) (m : Mc) (v : Nat) : Prop := v ∈ m.stk ∨ Base G v ∨ ∃ x ∈ m.kv, v = x.2 % 1000000
def StepA (G : Gv) (m m' : Mc) : Prop := m'.kv = m.kv ∧ m'.stk.length ≤ m.stk.length + 1 ∧ ∀ v ∈ m'.stk, From G m v
def StepB (m m' : Mc) : Prop := m'.kv = m.kv ∧ m'.stk.length + 1 = m.stk.length ∧ ∃ s v, m'.stk = s ++ [v] ∧ ∀ x ∈ s, x ∈ m.stk
def StepC (m m' : Mc) : Prop := m'.stk.length + 2 = m.stk.length ∧ (∀ v ∈ m'.stk, v ∈ m.stk) ∧ ∃ t y, t ∈ m.stk ∧ y ∈ m.stk ∧ m'.kv = putN m.kv t y
theorem step_push {G : Gv} {v : Nat} {m m1 m' : Mc} (e : pushM v m1 = some m') (k : m1.kv = m.kv) (l : m1.stk.length ≤ m.stk.length) (h : ∀ x ∈ m1.stk, From G m x) (hv : From G m (v % 1000000)) : StepA G m m' := by
  unfold pushM at e
  split at e
  · cases e
  · obtain rfl := Option.some.inj e
    refine ⟨k, ?_, fun x hx => ?_⟩
    · show (m1.stk ++ [v % 1000000]).length ≤ _
      rw [List.length_append, List.length_singleton]
      omega
    · rcases List.mem_append.mp hx with hx | hx
      · exact h x hx
      · rw [List.mem_singleton.mp hx]
        exact hv
theorem take_out {m : Mc} {g : Nat × Mc → Option Mc} {m' : Mc} (e : (takeM m).bind g = some m') : ∃ s t, m.stk = s ++ [t] ∧ g (t, { m with stk := s }) = some m' := by
  rcases List.eq_nil_or_concat m.stk with h | ⟨s, t, h⟩
  · rw [take_nil h] at e
    cases e
  · rw [List.concat_eq_append] at h
    rw [take_at h] at e
    exact ⟨s, t, h, e⟩
theorem step_of {G : Gv} {c : Nat} {m m' : Mc} (f : Fit m) (e : performM G c m = some m') : StepA G m m' ∨ StepB m m' ∨ StepC m m' := by
  have self : ∀ x ∈ m.stk, From G m x := fun x hx => .inl hx
  unfold performM at e
  split at e
  · rename_i d
    exact .inl (step_push e rfl (Nat.le_refl _) self (.inr (.inl (.inl (by have : (c - 48) % 1000000 ≤ c - 48 := Nat.mod_le _ _; omega)))))
  split at e
  · unfold numberM at e
    split at e
    · exact .inl (step_push e rfl (Nat.le_refl _) self (.inr (.inl (.inr (.inl rfl)))))
    split at e
    · exact .inl (step_push e rfl (Nat.le_refl _) self (.inr (.inl (.inr (.inr rfl)))))
    · exact .inl (step_push e rfl (Nat.le_refl _) self (.inr (.inl (.inl (by have := f.1; have : m.stk.length % 1000000 ≤ m.stk.length := Nat.mod_le _ _; omega)))))
  split at e
  · obtain ⟨s, t, e1, e⟩ := take_out e
    obtain ⟨s2, l, e2, e⟩ := take_out (m := { m with stk := s }) e
    replace e2 : s = s2 ++ [l] := e2
    replace e : pushM (work c l t) { m with stk := s2 } = some m' := e
    unfold pushM at e
    split at e
    · cases e
    · obtain rfl := Option.some.inj e
      refine .inr (.inl ⟨rfl, ?_, s2, _, rfl, fun x hx => ?_⟩)
      · show (s2 ++ [_]).length + 1 = _
        rw [e1, e2]
        simp
      · rw [e1, e2]
        simp [hx]
  split at e
  · obtain ⟨s, t, e1, e⟩ := take_out e
    have ls : s.length + 1 = m.stk.length := by rw [e1]; simp
    have sub : ∀ x ∈ s, x ∈ m.stk := fun x hx => by rw [e1]; simp [hx]
    have tin : t ∈ m.stk := by rw [e1]; simp
    have lt := f.2.2 t tin
    have mt : t % 1000000 = t := Nat.mod_eq_of_lt lt
    split at e
    · cases h : pushM t { m with stk := s } with
      | none => rw [h] at e; cases e
      | some m2 =>
        rw [h] at e
        unfold pushM at h
        split at h
        · cases h
        · obtain rfl := Option.some.inj h
          refine .inl (step_push (m := m) (v := t) e rfl (by show (s ++ [t % 1000000]).length ≤ _; rw [List.length_append, List.length_singleton]; omega) (fun x hx => ?_) (by rw [mt]; exact .inl tin))
          rcases List.mem_append.mp hx with hx | hx
          · exact .inl (sub x hx)
          · rw [List.mem_singleton.mp hx, mt]
            exact .inl tin
    split at e
    · refine .inl (step_push (m := m) e rfl (by show s.length ≤ _; omega) (fun x hx => .inl (sub x hx)) ?_)
      show From G m (getN m.kv t % 1000000)
      unfold getN
      cases h : m.kv.find? fun x => decide (x.1 = t) with
      | none => exact .inr (.inl (.inl (by decide)))
      | some x => exact .inr (.inr ⟨x, List.mem_of_find?_eq_some h, rfl⟩)
    · replace e : (takeM { m with stk := s }).map (fun y => { y.2 with kv := putN y.2.kv t y.1 }) = some m' := e
      rcases List.eq_nil_or_concat s with h | ⟨s2, y, h⟩
      · rw [take_nil (m := { m with stk := s }) h] at e
        cases e
      · rw [List.concat_eq_append] at h
        rw [take_at (m := { m with stk := s }) h] at e
        obtain rfl := Option.some.inj e
        refine .inr (.inr ⟨?_, fun x hx => sub x ?_, t, y, tin, sub y ?_, rfl⟩)
        · show s2.length + 2 = _
          rw [← ls, h]
          simp
        · rw [h]
          exact List.mem_append_left _ hx
        · rw [h]
          simp
  split at e
  · obtain ⟨s, t, e1, e⟩ := take_out e
    have ls : s.length + 1 = m.stk.length := by rw [e1]; simp
    have sub : ∀ x ∈ s, x ∈ m.stk := fun x hx => by rw [e1]; simp [hx]
    split at e
    · obtain rfl := Option.some.inj e
      exact .inl ⟨rfl, by show s.length ≤ _; omega, fun x hx => .inl (sub x hx)⟩
    · replace e : (takeM { m with stk := s }).map (fun y => if y.1 = 0 then { y.2 with pl := t } else y.2) = some m' := e
      rcases List.eq_nil_or_concat s with h | ⟨s2, y, h⟩
      · rw [take_nil (m := { m with stk := s }) h] at e
        cases e
      · rw [List.concat_eq_append] at h
        rw [take_at (m := { m with stk := s }) h] at e
        have e := Option.some.inj e
        have sub2 : ∀ x ∈ s2, x ∈ m.stk := fun x hx => sub x (by rw [h]; exact List.mem_append_left _ hx)
        have l2 : s2.length ≤ m.stk.length + 1 := by
          rw [h] at ls
          simp at ls
          omega
        replace e : (if y = 0 then ({ m with stk := s2, pl := t } : Mc) else { m with stk := s2 }) = m' := e
        split at e
        · subst e
          exact .inl ⟨rfl, l2, fun x hx => .inl (sub2 x hx)⟩
        · subst e
          exact .inl ⟨rfl, l2, fun x hx => .inl (sub2 x hx)⟩
  · obtain ⟨s, t, e1, e⟩ := take_out e
    have ls : s.length + 1 = m.stk.length := by rw [e1]; simp
    have sub : ∀ x ∈ s, x ∈ m.stk := fun x hx => by rw [e1]; simp [hx]
    split at e
    · obtain rfl := Option.some.inj e
      exact .inl ⟨rfl, by show s.length ≤ _; omega, fun x hx => .inl (sub x hx)⟩
    split at e
    · cases e
    · obtain rfl := Option.some.inj e
      exact .inl ⟨rfl, by show s.length ≤ _; omega, fun x hx => .inl (sub x hx)⟩
theorem put_mem {kv : List (Nat × Nat)} {k v : Nat} {x : Nat × Nat} (h : x ∈ putN kv k v) : x ∈ kv ∨ x = (k, v) := by
  unfold putN at h
  split at h
  · obtain ⟨y, hy, e⟩ := List.mem_map.mp h
    split at e
    · rename_i q
      right
      rw [← e, q]
    · left
      rw [← e]
      exact hy
  · rcases List.mem_append.mp h with h | h
    · exact .inl h
    · exact .inr (List.mem_singleton.mp h)
theorem put_nodup {kv : List (Nat × Nat)} {k v : Nat} (h : (kv.map (·.1)).Nodup) : ((putN kv k v).map (·.1)).Nodup := by
  unfold putN
  split
  · have e : (kv.map fun x => if x.1 = k then (x.1, v) else x).map (·.1) = kv.map (·.1) := by
      rw [List.map_map]
      refine List.map_congr_left fun x _ => ?_
      show (if x.1 = k then (x.1, v) else x).1 = x.1
      split <;> rfl
    rw [e]
    exact h
  · rename_i c
    rw [List.map_append, List.nodup_append]
    refine ⟨h, by simp, fun a ha b hb e => ?_⟩
    have hb : b = k := by simpa using hb
    obtain ⟨x, hx, ex⟩ := List.mem_map.mp ha
    exact c (List.any_eq_true.mpr ⟨x, hx, decide_eq_true (by rw [ex, e, hb])⟩)
/-- what a run of a law's program keeps -/
def Keep (G : Gv) (m : Mc) : Prop := Fit m ∧ (m.kv.map (·.1)).Nodup ∧ (∀ x ∈ m.kv, x.2 < 1000000) ∧ ∃ (E : List Nat) (n u : Nat), E.length ≤ 25 + n ∧ m.kv.length ≤ 3 + u ∧ m.stk.length + 3 * u + 2 * n ≤ m.st ∧ (∀ v ∈ m.stk, v ∈ E) ∧ (∀ x ∈ m.kv, x.1 ∈ E ∧ x.2 ∈ E) ∧ ∀ v, Base G v → v ∈ E
theorem Keep.small {G : Gv} {m : Mc} (k : Keep G m) (h : m.st ≤ 200) : m.kv.length < 64 := by
  obtain ⟨-, nd, -, E, n, u, h1, h2, h3, -, h5, -⟩ := k
  have := nodup_sub nd (e := E) fun x hx => by
    obtain ⟨y, hy, rfl⟩ := List.mem_map.mp hx
    exact (h5 y hy).1
  rw [List.length_map] at this
  omega
theorem Keep.step {G : Gv} {c pl : Nat} {m m' : Mc} (k : Keep G m) (h : m.st ≤ 199) (e : performM G c { m with st := m.st + 1, pl := pl } = some m') : Keep G m' ∧ m'.st = m.st + 1 := by
  have sm := k.small (by omega)
  obtain ⟨f, nd, hv, E, n, u, h1, h2, h3, h4, h5, h6⟩ := k
  have f0 : Fit { m with st := m.st + 1, pl := pl } := f
  obtain ⟨f', s', -⟩ := Fit.perform f0 (by show m.kv.length ≤ 899; omega) e
  replace s' : m'.st = m.st + 1 := s'
  have fr : ∀ v, From G { m with st := m.st + 1, pl := pl } v → v ∈ E := fun v q => by
    rcases q with q | q | ⟨x, hx, rfl⟩
    · exact h4 v q
    · exact h6 v q
    · rw [Nat.mod_eq_of_lt (hv x hx)]
      exact (h5 x hx).2
  refine ⟨?_, s'⟩
  rcases step_of f0 e with ⟨a1, a2, a3⟩ | ⟨a1, a2, s, v, a3, a4⟩ | ⟨a1, a2, t, y, a3, a4, a5⟩
  · replace a1 : m'.kv = m.kv := a1
    replace a2 : m'.stk.length ≤ m.stk.length + 1 := a2
    exact ⟨f', by rw [a1]; exact nd, by rw [a1]; exact hv, E, n, u, h1, by rw [a1]; exact h2, by omega, fun v hv => fr v (a3 v hv), by rw [a1]; exact h5, h6⟩
  · replace a1 : m'.kv = m.kv := a1
    replace a2 : m'.stk.length + 1 = m.stk.length := a2
    refine ⟨f', by rw [a1]; exact nd, by rw [a1]; exact hv, v :: E, n + 1, u, by rw [List.length_cons]; omega, by rw [a1]; exact h2, by omega, fun x hx => ?_, by rw [a1]; exact fun x hx => ⟨List.mem_cons_of_mem _ (h5 x hx).1, List.mem_cons_of_mem _ (h5 x hx).2⟩, fun x hx => List.mem_cons_of_mem _ (h6 x hx)⟩
    rw [a3] at hx
    rcases List.mem_append.mp hx with hx | hx
    · exact List.mem_cons_of_mem _ (h4 x (a4 x hx))
    · rw [List.mem_singleton.mp hx]
      exact List.mem_cons_self ..
  · replace a1 : m'.stk.length + 2 = m.stk.length := a1
    replace a5 : m'.kv = putN m.kv t y := a5
    have lp := len_put m.kv t y
    have ly := f.2.2 y a4
    refine ⟨f', by rw [a5]; exact put_nodup nd, fun x hx => ?_, E, n, u + 1, h1, by rw [a5]; omega, by omega, fun v hv => h4 v (a2 v hv), fun x hx => ?_, h6⟩
    · rw [a5] at hx
      rcases put_mem hx with hx | rfl
      · exact hv x hx
      · exact ly
    · rw [a5] at hx
      rcases put_mem hx with hx | rfl
      · exact h5 x hx
      · exact ⟨h4 _ a3, h4 _ a4⟩
theorem Keep.start {G : Gv} {kv : List (Nat × Nat)} (nd : (kv.map (·.1)).Nodup) (l : kv.length ≤ 3) (hv : ∀ x ∈ kv, x.2 < 1000000) : Keep G ⟨[], kv, 0, 0, 0⟩ := by
  refine ⟨⟨by show 0 ≤ 16; decide, by show kv.length ≤ 900; omega, fun v hv => nomatch hv⟩, nd, hv, List.range 17 ++ [G.given % 1000000, G.amount % 1000000] ++ kv.map (·.1) ++ kv.map (·.2), 0, 0, ?_, by show kv.length ≤ 3 + 0; omega, by show 0 + 3 * 0 + 2 * 0 ≤ 0; decide, fun v hv => absurd hv List.not_mem_nil, fun x hx => ⟨?_, ?_⟩, fun v hv => ?_⟩
  · simp only [List.length_append, List.length_range, List.length_map, List.length_cons, List.length_nil]
    omega
  · exact List.mem_append_left _ (List.mem_append_right _ (List.mem_map.mpr ⟨x, hx, rfl⟩))
  · exact List.mem_append_right _ (List.mem_map.mpr ⟨x, hx, rfl⟩)
  · refine List.mem_append_left _ (List.mem_append_left _ ?_)
    rcases hv with hv | rfl | rfl
    · exact List.mem_append_left _ (List.mem_range.mpr (by omega))
    · simp
    · simp
theorem Keep.fin {G : Gv} : ∀ {n : Nat} {m m' : Mc} {k : Nat}, Keep G m → n = 201 - m.st → m.st ≤ 200 → finM G n m = (some m', k) → Keep G m' ∧ m'.st ≤ 200 ∧ k = m'.st
  | 0, m, m', k, hk, hn, h2, e => by cases e
  | n + 1, m, m', k, hk, hn, h2, e => by
    rw [finM] at e
    cases h : (TL.tl G.code)[m.pl]? with
    | none =>
      rw [h] at e
      obtain ⟨rfl, rfl⟩ : m = m' ∧ m.st = k := by
        have := Prod.mk.inj e
        exact ⟨Option.some.inj this.1, this.2⟩
      exact ⟨hk, h2, rfl⟩
    | some c =>
      rw [h] at e
      replace e : (if m.st = 200 then (none, 200) else match performM G c { m with st := m.st + 1, pl := m.pl + 1 } with
        | none => (none, m.st + 1)
        | some m' => finM G n m') = (some m', k) := e
      split at e
      · cases e
      · cases hp : performM G c { m with st := m.st + 1, pl := m.pl + 1 } with
        | none => rw [hp] at e; cases e
        | some m2 =>
          rw [hp] at e
          obtain ⟨k2, s2⟩ := hk.step (by omega) hp
          exact Keep.fin k2 (by omega) (by omega) e

def spLRun : Sp := fun vs H Q _ => ∃ (d : Addr) (G : Gv) (kv : List (Nat × Nat)), vs = [.str G.code, .int (G.given : Nat), .int (G.amount : Nat), .ref d] ∧ H d = some (.dK (kvV kv)) ∧ kv.length ≤ 3 ∧ (kv.map (·.1)).Nodup ∧ (∀ x ∈ kv, x.2 < 1000000) ∧ G.code.length ≤ 5000 ∧ (∀ c ∈ TL.tl G.code, Alph c) ∧ G.given < 1000000 ∧ G.amount < 1000000 ∧
  (∀ m' n, finM G 201 ⟨[], kv, 0, 0, 0⟩ = (some m', n) → ∀ (q S : Addr) (ys : List Nat) H', ys.Perm (m'.kv.map (·.1)) → ys.Pairwise (· ≤ ·) → Same H H' → H q = none → H S = none → H' S = some (.dK (kvV (pick ys m'.kv))) →
    H' q = some (.tup [.bl true, .ref S, .int (m'.pd : Nat), .int (m'.st : Nat)]) → Q (.ref q) H') ∧
  (∀ n, finM G 201 ⟨[], kv, 0, 0, 0⟩ = (none, n) → ∀ (q S : Addr) H', Same H H' → H q = none → H S = none → H' S = some (.dK (kvV kv)) → H' q = some (.tup [.bl false, .ref S, .int 0, .int (n : Nat)]) → Q (.ref q) H')
theorem ok_law_run (T : Txt K mg a) : ∃ fd, FnOk P w K mg base CX0 3 a.d_law_run fd ["code", "given", "amount", "store"] spLRun ∧ Binds K fd ["code", "given", "amount", "store"] [] := by
  obtain ⟨fd, F, b⟩ := T.d_law_run.F
  obtain ⟨fd_law_sign, G_law_sign, b_law_sign⟩ := ok_law_sign (P := P) (w := w) (base := base) T
  refine ⟨fd, F.ok sc_law_run (fun vs H Q E h => ?_) (fun cdv A outer s H vs Q E hr h => ?_), b⟩
  · obtain ⟨_, _, _, rfl, _⟩ := h
    rfl
  · obtain ⟨d, G, kv, rfl, hd, few, nd, hv, lc, al, g1, g2, k1, k2⟩ := h
    have ks := Keep.start (G := G) nd few hv
    obtain ⟨r, er⟩ : ∃ r, r = finM G 201 ⟨[], kv, 0, 0, 0⟩ := ⟨_, rfl⟩
    rw [← er] at k1 k2
    refine ⟨_, (pss_cons (ps_set (i := 4) sc_law_run.nd rfl (Or.inl rfl) (pe_lst pa_nil))
      (pss_cons (ps_set (i := 5) sc_law_run.nd rfl (Or.inl rfl) (pe_callTy call_dictD (by rfl) T.n_dict (by decide +kernel) (pa_cons (pv 3) pa_nil)))
      (pss_cons (ps_set (i := 6) sc_law_run.nd rfl (Or.inl rfl) (pe_lst (pa_cons pe_int (pa_cons pe_int pa_nil))))
      (pss_cons (ps_set (i := 7) sc_law_run.nd rfl (Or.inl rfl) pe_int)
      (pss_cons (ps_for PassesOwn.never rfl (pi_range1 rfl T.n_range (pa_cons pe_int pa_nil)) (pg_name (i := 8) sc_law_run.nd rfl (Or.inl rfl))
      (pss_cons (ps_if (pt_cmpR op_ge (pe_ix ix_list (pv 6) pe_int (fun _ _ => rfl)) (pe_callB call_len_str (by rfl) T.n_len PySem.boot_len (pa_cons (pv 0) pa_nil)) (nomark _))
        (pss_cons (ps_set (i := 9) sc_law_run.nd rfl (Or.inl rfl) pe_dnewK)
          (pss_cons (ps_for PassesOwn.never rfl (pi_list (pe_callB cr_sorted (by rfl) T.n_sorted (by decide +kernel) (pa_cons (pe_lock (pe_lc (own := [("key", 10)]) (g := (gName 10)) (tt := tYes) rfl sc_law_run.nd (pi_keys (pv 5)) (blkOk_by (own := [("key", 10)]) (N := sc_law_run_N) (sc := defScope s_law_run) (by decide +kernel)) (fun _ _ _ _ _ => (pg_name (i := 10) sc_law_run.nd rfl (Or.inl rfl))) (fun _ _ _ _ _ => pts_nil) (fun _ _ _ _ _ => (pv 10)))) pa_nil))) (pg_name (i := 10) sc_law_run.nd rfl (Or.inl rfl))
          (pss_one (ps_if (pt_cmpR op_ne (pe_dget (hu_of hr) (pv 5) (pv 10) (fun _ _ => rfl)) pe_int (nomark _))
            (pss_one (ps_dput (hu_of hr) (pv 9) (pv 10) (pe_dget (hu_of hr) (pv 5) (pv 10) (fun _ _ => rfl)) rfl))
            pss_nil)))
          (pss_one (ps_ret (pe_tup (pa_cons pe_bl (pa_cons (pv 9) (pa_cons (pe_ix ix_list (pv 6) pe_int (fun _ _ => rfl)) (pa_cons (pv 7) pa_nil)))))))))
        pss_nil)
        (pss_cons (ps_if (pt_cmpR op_eq (pv 7) pe_int (nomark _))
        (pss_one (ps_ret (pe_tup (pa_cons pe_bl (pa_cons (pe_callTy call_dictD (by rfl) T.n_dict (by decide +kernel) (pa_cons (pv 3) pa_nil)) (pa_cons pe_int (pa_cons (pv 7) pa_nil)))))))
        pss_nil)
        (pss_cons (ps_set (i := 11) sc_law_run.nd rfl (Or.inl rfl) (pe_ix ix_str (pv 0) (pe_ix ix_list (pv 6) pe_int (fun _ _ => rfl)) (fun _ _ => rfl)))
        (pss_cons (ps_asg (pe_op op_add (pe_ix ix_list (pv 6) pe_int (fun _ _ => rfl)) pe_int) (pg_sub (pv 6) pe_int set_list))
        (pss_cons (ps_set (i := 7) sc_law_run.nd rfl (Or.inl rfl) (pe_op op_add (pv 7) pe_int))
        (pss_one (ps_if (pt_not (pt_truth (pe_call G_law_sign (hr.mono (by decide)) rfl T.d_law_sign.g T.d_law_sign.kp b_law_sign .nil pass0 (pa_cons (pv 11) (pa_cons (pv 1) (pa_cons (pv 2) (pa_cons (pv 4) (pa_cons (pv 5) (pa_cons (pv 6) pa_nil))))))) (by intro _; rfl)))
        (pss_one (ps_ret (pe_tup (pa_cons pe_bl (pa_cons (pe_callTy call_dictD (by rfl) T.n_dict (by decide +kernel) (pa_cons (pv 3) pa_nil)) (pa_cons pe_int (pa_cons (pv 7) pa_nil)))))))
        pss_nil))))))))
      (pss_one (ps_ret (pe_tup (pa_cons pe_bl (pa_cons (pe_callTy call_dictD (by rfl) T.n_dict (by decide +kernel) (pa_cons (pv 3) pa_nil)) (pa_cons pe_int (pa_cons (pv 7) pa_nil)))))))))))), ?_⟩
    walk_at "rs"
    refine ⟨(by show 0 ≤ sizeLine; decide), fun L hL => ?_⟩
    have s1 := same_new (o := .lst []) hL
    walk_at "rs"
    refine ⟨d, _, rfl, .of (s1 _ _ hd), fun D hD => ?_⟩
    have nD := s1.free hD
    have s2 := same_upd (o := .dK (kvV kv)) s1 nD
    have LD : L ≠ D := fun e => by rw [← e, upd_same] at hD; cases hD
    walk_at "rs"
    refine ⟨(by show 2 ≤ sizeLine; decide), fun S hS => ?_⟩
    have nS := s2.free hS
    have s3 := same_upd (o := .lst [.int 0, .int 0]) s2 nS
    have LS : L ≠ S := fun e => by rw [← e, upd_ne LD, upd_same] at hS; cases hS
    have DS : D ≠ S := fun e => by rw [← e, upd_same] at hS; cases hS
    have hm0 : LAt (upd (upd (upd H L (.lst [])) D (.dK (kvV kv))) S (.lst [.int 0, .int 0])) L D S ⟨[], kv, 0, 0, 0⟩ :=
      ⟨LS, by rw [upd_ne LS, upd_ne LD]; exact upd_same, by rw [upd_ne DS]; exact upd_same, upd_same⟩
    walk_at "rs"
    generalize upd (upd (upd H L (.lst [])) D (.dK (kvV kv))) S (.lst [.int 0, .int 0]) = H0 at hm0 s3 ⊢
    have on : ∀ {H1 H2 : Hp}, Same H H1 → Oth L D S H1 H2 → Same H H2 := fun {H1 H2} s1 o b u e => o b u (ne_of_none e hL) (ne_of_none e nD) (ne_of_none e nS) (s1 b u e)
    refine ⟨(by decide), (by decide), ?_⟩
    refine for_range (lo := 0) (n := 201) (fun i σ H2 => ∃ (m : Mc) (v8 v9 v10 v11 : Option V), σ = [some (.str G.code), some (.int (G.given : Nat)), some (.int (G.amount : Nat)), some (.ref d), some (.ref L), some (.ref D), some (.ref S), some (.int (m.st : Nat)), v8, v9, v10, v11] ∧
        m.st = i ∧ i ≤ 200 ∧ LAt H2 L D S m ∧ Keep G m ∧ Same H H2 ∧ r = finM G (201 - i) m) ⟨_, _, _, _, _, rfl, rfl, Nat.zero_le _, hm0, ks, s3, er⟩ ?_ ?_
    · rintro i σ H2 hi ⟨m, v8, v9, v10, v11, rfl, rfl, i2, hm, hk, sm, e2⟩
      obtain ⟨nLD, nLS, nDS⟩ := hm.ne
      obtain ⟨-, hL2, hD2, hS2⟩ := id hm
      obtain ⟨f, ef⟩ : ∃ f, 201 - m.st = f + 1 := ⟨200 - m.st, by omega⟩
      rw [ef, finM] at e2
      have hd2 := sm _ _ hd
      have failed : ∀ {H3 : Hp} {q t : Addr} (n : Nat), Same H H3 → r = (none, n) → H3 q = none → upd H3 q (.dK (kvV kv)) t = none → Q (.ref t) (upd (upd H3 q (.dK (kvV kv))) t (.tup [.bl false, .ref q, .int 0, .int (n : Nat)])) := fun {H3 q t} n s e hq ht => by
        have s4 := same_upd (o := .dK (kvV kv)) s (s.free hq)
        have qt : q ≠ t := fun e => by rw [← e, upd_same] at ht; cases ht
        exact k2 n e t q _ (same_upd s4 (s4.free ht)) (s4.free ht) (s.free hq) (by rw [upd_ne qt]; exact upd_same) upd_same
      walk_at "rs"
      refine ⟨S, _, 0, .int (m.pl : Nat), rfl, rfl, SqL.of hS2, rfl, ?_⟩
      walk_at "rs"
      refine ⟨(by rw [sizeLine_eq]; omega), ?_⟩
      walk_at "rs"
      refine ite2 (fun c1 => ?_) (fun c1 => ?_)
      · have c1 : ¬ m.pl < G.code.length := by
          have := of_decide_eq_true c1
          omega
        rw [List.getElem?_eq_none (by rw [← TL.len_tl]; omega)] at e2
        replace e2 : r = (some m, m.st) := e2
        have small := hk.small (by omega)
        have ndk := hk.2.1
        walk_at "rs"
        intro B hB
        have nB := sm.free hB
        have BD : D ≠ B := ne_of_none hD2 hB
        walk_at "rs"
        refine ⟨D, .dK (kvV m.kv), by rw [upd_ne BD]; exact hD2, trivial, fun od => ?_⟩
        walk_at "rs"
        refine ⟨D, od, rfl, .inl ⟨kvV m.kv, upd_same, fun R hR => ?_⟩⟩
        have RD : R ≠ D := fun e => by rw [e, upd_same] at hR; cases hR
        have nRb : upd H2 B (.dK []) R = none := by rw [upd_ne RD] at hR; exact hR
        have RB : R ≠ B := fun e => by rw [e, upd_same] at nRb; cases nRb
        have sB := same_upd (o := .dK []) sm nB
        have hDb : upd H2 B (.dK []) D = some (.dK (kvV m.kv)) := by rw [upd_ne BD]; exact hD2
        have hSb : upd H2 B (.dK []) S = some (.lst [.int (m.pl : Nat), .int (m.pd : Nat)]) := by rw [upd_ne (ne_of_none hS2 hB)]; exact hS2
        have hBb : upd H2 B (.dK []) B = some (.dK []) := upd_same
        generalize upd H2 B (.dK []) = Hb at nRb sB hDb hSb hBb ⊢
        refine lc_it walk_keys (fun i H3 => H3 D = some (.frz od (.dK (kvV m.kv))) ∧ H3 R = some (.lst ((m.kv.take i).map fun x => V.int (x.1 : Int))) ∧ ∀ b o, b ≠ D → Hb b = some o → H3 b = some o) ⟨by rw [upd_ne (fun e => RD e.symm)]; exact upd_same, upd_same, fun b o n e => by rw [upd_ne (ne_of_none e nRb), upd_ne n]; exact e⟩ (fun i H _ p => p.1) ?_ ?_
        · rintro i x H3 H3' hi ⟨a1, a2, a3⟩ ⟨rfl, k, v, hk, rfl⟩
          rw [len_kv] at hi
          obtain ⟨x, hx, rfl⟩ : ∃ x, m.kv[i]? = some x ∧ k = Sum.inl (x.1 : Int) := by
            unfold kvV at hk
            rw [List.getElem?_map] at hk
            cases h : m.kv[i]? with
            | none => rw [h] at hk; cases hk
            | some x =>
              rw [h] at hk
              have := Option.some.inj hk
              exact ⟨x, rfl, (Prod.mk.inj this).1.symm⟩
          refine ⟨rfl, ?_⟩
          walk_at "rs"
          refine ⟨_, a2, by rw [List.length_map]; exact small1000 (by have := List.length_take_le' i m.kv; omega), by rw [upd_ne (fun e => RD e.symm)]; exact a1, ?_, fun b o n e => ?_⟩
          · rw [upd_same, List.take_add_one, hx]
            simp [kV]
          · rw [upd_ne (ne_of_none e nRb)]
            exact a3 b o n e
        · rintro H3 ⟨a1, a2, a3⟩
          rw [len_kv, List.take_length] at a2
          refine ⟨a1, ?_⟩
          have sH4 : Same Hb (upd H3 D (.dK (kvV m.kv))) := fun b o e => by
            by_cases n : b = D
            · rw [n, upd_same]
              rw [n, hDb] at e
              exact e
            · rw [upd_ne n]
              exact a3 b o n e
          have hR4 : upd H3 D (.dK (kvV m.kv)) R = some (.lst ((m.kv.map fun x => (x.1 : Int)).map V.int)) := by
            rw [upd_ne RD, a2, List.map_map]
            rfl
          generalize upd H3 D (.dK (kvV m.kv)) = H4 at sH4 hR4 ⊢
          have lk : (m.kv.map fun x => (x.1 : Int)).length = m.kv.length := List.length_map ..
          walk_at "rs"
          refine ⟨R, m.kv.map fun x => (x.1 : Int), rfl, SqL.of hR4, by rw [lk]; exact small, fun zs q hperm hpw hq => ?_⟩
          obtain ⟨ys, rfl, yp, yw⟩ : ∃ ys : List Nat, zs = ys.map (fun n : Nat => (n : Int)) ∧ ys.Perm (m.kv.map (·.1)) ∧ ys.Pairwise (· ≤ ·) := by
            refine ⟨zs.map Int.toNat, ?_, ?_, ?_⟩
            · rw [List.map_map]
              conv => lhs; rw [← List.map_id zs]
              refine List.map_congr_left fun z hz => ?_
              obtain ⟨x, _, rfl⟩ := List.mem_map.mp (hperm.mem_iff.mp hz)
              rfl
            · have := hperm.map Int.toNat
              rw [List.map_map] at this
              exact this
            · rw [List.pairwise_map]
              exact hpw.imp fun h => Int.toNat_le_toNat h
          have nodys : ys.Nodup := yp.nodup_iff.mpr ndk
          have ly : ys.length = m.kv.length := by rw [yp.length_eq, List.length_map]
          have s5 := same_upd (o := .lst ((ys.map fun n : Nat => (n : Int)).map V.int)) sH4 (sH4.free hq)
          have hq5 : upd H4 q (.lst ((ys.map fun n : Nat => (n : Int)).map V.int)) q = some (.lst ((ys.map fun n : Nat => (n : Int)).map V.int)) := upd_same
          have hB5 := s5 _ _ hBb
          have hD5 := s5 _ _ hDb
          have hS5 := s5 _ _ hSb
          have nqB : q ≠ B := fun e => by rw [e, sH4 _ _ hBb] at hq; cases hq
          walk_at "rs"
          generalize upd H4 q (.lst ((ys.map fun n : Nat => (n : Int)).map V.int)) = H5 at s5 hq5 hB5 hD5 hS5 ⊢
          refine ⟨⟨_, SqL.of hq5⟩, ?_⟩
          refine for_list (K := K) (a := q) (xs := (ys.map fun n : Nat => (n : Int)).map V.int) (fun i σ H6 => ∃ v10 : Option V, σ = [some (.str G.code), some (.int (G.given : Nat)), some (.int (G.amount : Nat)), some (.ref d), some (.ref L), some (.ref D), some (.ref S), some (.int (m.st : Nat)), some (.int (0 + (m.st : Nat))), some (.ref B), v10, v11] ∧
              (∀ b o, b ≠ B → H5 b = some o → H6 b = some o) ∧ H6 B = some (.dK (kvV (pick (ys.take i) m.kv)))) ⟨_, rfl, fun b o _ e => e, hB5⟩ (fun i σ H6 _ ⟨_, _, fr, _⟩ => SqL.of (fr _ _ nqB hq5)) ?_ ?_
          · rintro i y σ H6 hy ⟨v10, rfl, fr, hB6⟩
            obtain ⟨k, hk, rfl⟩ : ∃ k, ys[i]? = some k ∧ y = V.int (k : Int) := by
              rw [List.getElem?_map, List.getElem?_map] at hy
              cases h : ys[i]? with
              | none => rw [h] at hy; cases hy
              | some k =>
                rw [h] at hy
                exact ⟨k, rfl, (Option.some.inj hy).symm⟩
            have hmem : k ∈ m.kv.map (·.1) := yp.mem_iff.mp (List.mem_of_getElem? hk)
            have hg6 : DGet H6 D (V.int (k : Int)) (some (V.int (getN m.kv k : Nat))) := by
              have := DGet.k (k := Sum.inl (k : Int)) (fr _ _ BD hD5)
              rw [val_mem hmem] at this
              exact this
            have pt := pick_take (kv := m.kv) hk
            walk_at "rs"
            refine ⟨D, _, rfl, hg6, ?_⟩
            walk_at "rs"
            refine ite2 (fun c => ?_) (fun c => ?_)
            · have c : getN m.kv k ≠ 0 := fun e => by
                rw [e] at c
                simp at c
              rw [if_pos c] at pt
              walk_at "rs"
              refine ⟨D, _, rfl, hg6, ?_⟩
              walk_at "rs"
              have lp : (pick (ys.take i) m.kv).length ≤ 64 := by
                unfold pick
                rw [List.length_map]
                have h1 := List.length_filter_le (fun k => decide (getN m.kv k ≠ 0)) (ys.take i)
                have h2 := List.length_take_le' i ys
                omega
              refine ⟨B, _, rfl, DPut.k (k := Sum.inl (k : Int)) hB6 (by rw [len_kv]; exact small1000 (by omega)), ?_⟩
              refine ⟨_, rfl, fun b o n e => by rw [upd_ne n]; exact fr b o n e, ?_⟩
              rw [upd_same, put_kv, put_new (k := k) (fun x hx e => nodup_take nodys hk (by rw [← e]; exact pick_keys hx)), pt]
            · have c : ¬ getN m.kv k ≠ 0 := fun h => c (by simpa using h)
              rw [if_neg c] at pt
              refine ⟨_, rfl, fr, ?_⟩
              rw [pt]
              exact hB6
          · rintro σ H6 ⟨v10, rfl, fr, hB6⟩
            rw [List.take_of_length_le (by simp)] at hB6
            have s6 : Same H H6 := fun b o e => fr b o (ne_of_none e nB) (s5 b o (sB b o e))
            walk_at "rs"
            refine ⟨S, _, 1, .int (m.pd : Nat), rfl, rfl, SqL.of (fr _ _ (ne_of_none hS2 hB) hS5), rfl, ?_⟩
            walk_at "rs"
            refine ⟨(by show 4 ≤ sizeLine; decide), fun t ht => ?_⟩
            exact k1 m m.st e2 t B ys _ yp yw (same_upd s6 (s6.free ht)) (s6.free ht) nB (by rw [upd_ne (ne_of_none hB6 ht)]; exact hB6) upd_same
      have c1 : m.pl < G.code.length := by
        have : ¬ G.code.length ≤ m.pl := fun h => c1 (decide_eq_true (by omega))
        omega
      obtain ⟨c, eg⟩ : ∃ c, (TL.tl G.code)[m.pl]? = some c := ⟨_, List.getElem?_eq_getElem (by rw [← TL.len_tl]; exact c1)⟩
      rw [eg] at e2
      replace e2 : r = if m.st = 200 then (none, 200) else match performM G c { m with st := m.st + 1, pl := m.pl + 1 } with
        | none => (none, m.st + 1)
        | some m' => finM G f m' := e2
      have hc := al c (List.mem_of_getElem? eg)
      walk_at "rs"
      refine ite2 (fun c2 => ?_) (fun c2 => ?_)
      · have c2 : m.st = 200 := by
          have := V.int.inj (of_decide_eq_true c2)
          omega
        rw [if_pos c2] at e2
        walk_at "rs"
        rw [← c2] at e2
        refine ⟨d, kvV kv, rfl, .of hd2, fun q hq => ?_⟩
        walk_at "rs"
        exact ⟨(by show 4 ≤ sizeLine; decide), fun t ht => failed m.st sm e2 hq ht⟩
      have c2 : ¬ m.st = 200 := fun h => c2 (decide_eq_true (by rw [h]; rfl))
      rw [if_neg c2] at e2
      walk_at "rs"
      refine ⟨S, _, 0, .int (m.pl : Nat), rfl, rfl, SqL.of hS2, rfl, ?_⟩
      walk_at "rs"
      refine ⟨G.code, m.pl, c, rfl, rfl, (by rw [sizeLine_eq]; omega), atI_nat eg, ?_⟩
      walk_at "rs"
      refine ⟨S, _, 0, .int (m.pl : Nat), rfl, rfl, SqL.of hS2, rfl, ?_⟩
      walk_at "rs"
      refine ⟨S, _, _, 0, rfl, rfl, hS2, rfl, ?_⟩
      have hm3 : LAt (upd H2 S (.lst [.int ((m.pl + 1 : Nat) : Int), .int (m.pd : Nat)])) L D S { m with st := m.st + 1, pl := m.pl + 1 } := hm.toS (m.pl + 1) m.pd
      walk_at "rs"
      refine ⟨c, G, L, D, S, { m with st := m.st + 1, pl := m.pl + 1 }, rfl, hc, hm3, hk.1, ?_, hk.2.2.1, g1, g2, fun m' H' e' h' o' => ?_, fun e' H' o' => ?_⟩
      · have := hk.small (by omega)
        show m.kv.length ≤ 899
        omega
      · rw [e'] at e2
        obtain ⟨k', s'⟩ := hk.step (by omega) e'
        walk_at "rs"
        refine ite2 (fun h => absurd h (by decide)) (fun _ => ?_)
        refine ⟨m', some (.int (0 + (m.st : Nat))), v9, v10, some (.str ⟨#[c]⟩), by rw [s']; rfl, s', by omega, h', k', on sm (Oth.trans .u3 o'), ?_⟩
        rw [show 201 - (m.st + 1) = f by omega]
        exact e2
      · rw [e'] at e2
        have s' := on sm (Oth.trans .u3 o')
        walk_at "rs"
        refine ⟨d, kvV kv, rfl, .of (s' _ _ hd), fun q hq => ?_⟩
        walk_at "rs"
        exact ⟨(by show 4 ≤ sizeLine; decide), fun t ht => failed (m.st + 1) s' e2 hq ht⟩
    · rintro σ H2 ⟨m, v8, v9, v10, v11, rfl, i1, i2, -⟩
      omega

/-! ### (bool, dict, int, int) != the same -/
section
open PySem.SeqAt
theorem pairs_to {P P' : Program} {w w' : World} : ∀ {es : List DictEntry} {kvs : List (Key × Value)}, PySem.Pairs (mixKind P w) es kvs → PySem.Pairs (mixKind P' w') es kvs
  | _, _, .nil => .nil
  | _, _, .cons x y z => .cons x y (pairs_to z)
theorem pairs_key {P : Program} {w : World} : ∀ {es : List DictEntry} {kvs : List (Key × Value)}, PySem.Pairs (mixKind P w) es kvs → ∀ e ∈ es, ∃ kv ∈ kvs, (mixKind P w).is kv.1 e.key = true
  | _, _, .nil, e, h => nomatch h
  | _, _, .cons x y z, e, h => by
    rcases List.mem_cons.mp h with rfl | h
    · exact ⟨_, List.mem_cons_self .., x⟩
    · obtain ⟨kv, hk, hi⟩ := pairs_key z e h
      exact ⟨kv, List.mem_cons_of_mem _ hk, hi⟩
theorem dictOf_ints {P P' : Program} {w w' : World} {h : Heap} {b : Addr} {kvs : List (Key × Value)} (hk : ∀ x ∈ kvs, ∃ i, x.1 = Sum.inl i) (d : h.DictOf (mixKind P w) b kvs) : h.DictOf (mixKind P' w') b kvs := by
  obtain ⟨o, es, ep, h1, h2, h3, h4, h5, h6⟩ := d
  refine ⟨o, es, ep, h1, h2, h3, fun e he => ?_, pairs_to h5, h6⟩
  obtain ⟨k, hk1, hk2⟩ := h4 e he
  obtain ⟨kv, hkv, hi⟩ := pairs_key h5 e (Array.mem_toList_iff.mpr he)
  obtain ⟨i, ei⟩ := hk kv hkv
  have ek := (mixKind P w).inj _ _ _ hk1 hi
  rw [ei] at ek
  subst ek
  exact ⟨Sum.inl i, hk1, hk2⟩
def rNeT4 : R2 := fun x y H Q => ∃ (p q S S2 : Addr) (b : Bool) (i j : Int) (ks : List (Key × V)), x = .ref p ∧ y = .ref q ∧ S ≠ S2 ∧ H p = some (.tup [.bl b, .ref S, .int i, .int j]) ∧ H q = some (.tup [.bl b, .ref S2, .int i, .int j]) ∧ H S = some (.dK ks) ∧ H S2 = some (.dK ks) ∧
  (∀ p ∈ ks, ∃ i, p.1 = Sum.inl i) ∧ (∀ p ∈ ks, valV ks p.1 = some p.2 ∧ flatB p.2 = true) ∧ Q (.bl false) H
theorem op_neT4 {X : Cx} (hu : X.A.units + 1 < cLine) : OpR X (compareOp .NotEq) rNeT4 := by
  intro pins s σ H x y v u Q I rx ry h
  obtain ⟨p, q, S, S2, b, i, j, ks, rfl, rfl, ne, ep, eq, eS, eS2, hk, hv, fin⟩ := h
  obtain rfl : v = Value.ref p := rx
  obtain rfl : u = Value.ref q := ry
  obtain ⟨_, its, rv, tp⟩ := I.hok p _ ep
  obtain ⟨_, its2, rv2, tq⟩ := I.hok q _ eq
  obtain ⟨_, ya, va, ra, da⟩ := (show ObjOk X.prog X.w H s.heap S (.dK ks) from I.hok S _ eS)
  obtain ⟨_, yb, vb, rb, db⟩ := (show ObjOk X.prog X.w H s.heap S2 (.dK ks) from I.hok S2 _ eS2)
  have hl : va.length = vb.length := by rw [← ra.length, ← rb.length]
  have onlyI : ∀ {vs : List (Key × Value)}, KV ks vs → ∀ x ∈ vs, ∃ i, x.1 = Sum.inl i := fun {vs} r x hx => by
    have e := r.keys
    have : x.1 ∈ ks.map (·.1) := by
      rw [e]
      exact List.mem_map.mpr ⟨x, hx, rfl⟩
    obtain ⟨y, hy, ey⟩ := List.mem_map.mp this
    rw [← ey]
    exact hk y hy
  have dict : EqAt X.A.in1 s (.ref S) (.ref S2) true := EqAt.of_refs ne fun prog w E Q hq =>
    PySem.W.keq_eq (knd := mixKind prog w) (r := true) ya yb (dictOf_ints (onlyI ra) da) (dictOf_ints (onlyI rb) db) (by show X.A.units + 1 < cLine; exact hu) (fun _ => hits_all rb ra hv) (by rw [hl]; simpa using hq)
  have four : ∀ {D : Addr} {l : List Value}, Vals [.bl b, .ref D, .int i, .int j] l → ∃ t t', l = [.bool b, .ref D, .int i t, .int j t'] := fun {D l} r => by
    cases r with
    | cons a r =>
      cases r with
      | cons a2 r =>
        cases r with
        | cons a3 r =>
          cases r with
          | cons a4 r =>
            cases r
            obtain ⟨t, rfl⟩ := a3
            obtain ⟨t', rfl⟩ := a4
            cases a
            cases a2
            exact ⟨t, t', rfl⟩
  obtain ⟨t1, t2, rfl⟩ := four rv
  obtain ⟨t3, t4, rfl⟩ := four rv2
  obtain ⟨o, g, c, n, d⟩ := tp
  obtain ⟨o2, g2, c2, n2, d2⟩ := tq
  refine RcNeAt.tuples (e := fun _ => true) ⟨o, g, c, n, d⟩ ⟨o2, g2, c2, n2, d2⟩ (by omega) (fun k h1 h2 => ?_) X.prog X.w _ _ (fin_bl I fin (by rfl))
  have h1 : k < 4 := h1
  rcases k with _ | _ | _ | _ | k
  · exact EqAt.same _
  · exact dict
  · have e := EqAt.int_int (A := X.A.in1) (s := s) i t1 i t3
    rw [beq_self_eq_true] at e
    exact e
  · have e := EqAt.int_int (A := X.A.in1) (s := s) j t2 j t4
    rw [beq_self_eq_true] at e
    exact e
  · omega
end

theorem op_mulS {X : Cx} : OpR X (binaryOp .Mult) (fun x y H Q => ∃ (z : Str) (n : Int), x = .str z ∧ y = .int n ∧ MulOk z n ∧ Q (.str (Txt.mul z n)) H) := by
  intro pins s σ H x y v u Q I rx ry h
  obtain ⟨z, n, rfl, rfl, ok, q⟩ := h
  obtain ⟨t, rfl⟩ := rx
  obtain ⟨t', rfl⟩ := ry
  exact SB.mul ok fun t2 k => ⟨.str _, H, I.kept (t' := k) fun _ _ z => z, ⟨_, rfl⟩, q⟩
theorem at_sign {l : List Nat} {i : Int} (h0 : 0 ≤ i) (h1 : i < l.length) : atI l i = some (l.getD i.toNat 0) := by
  have e : i = (i.toNat : Int) := by omega
  rw [e]
  refine atI_nat ?_
  rw [Int.toNat_natCast, List.getD_eq_getElem?_getD, List.getElem?_eq_getElem (by omega)]
  rfl
theorem ones_sum : ∀ {ys : List Str}, (∀ y ∈ ys, y.length = 1) → (ys.map fun x => x.length).sum = ys.length
  | [], _ => rfl
  | y :: ys, h => by
    rw [List.map_cons, List.sum_cons, ones_sum fun z hz => h z (List.mem_cons_of_mem _ hz), h y List.mem_cons_self, List.length_cons]
    omega
theorem join_nil_len : ∀ l : List Str, (Str.join "" l).length = (l.map fun x => x.length).sum
  | [] => rfl
  | [x] => by simp [Str.join]
  | x :: y :: r => by
    have ih := join_nil_len (y :: r)
    show ((x ++ "") ++ Str.join "" (y :: r)).length = _
    rw [PySem.Str.length_append, PySem.Str.length_append, ih]
    rfl
theorem join_alph : ∀ {ys : List Str}, (∀ y ∈ ys, ∀ c ∈ TL.tl y, Alph c) → ∀ n ∈ TL.joinL (TL.tl "") (ys.map TL.tl), Alph n
  | [], _, n, hn => by cases hn
  | [y], h, n, hn => h y List.mem_cons_self n hn
  | y :: z :: r, h, n, hn => by
    have hn : n ∈ TL.tl y ++ ([] ++ TL.joinL (TL.tl "") ((z :: r).map TL.tl)) := hn
    rw [List.nil_append] at hn
    rcases List.mem_append.mp hn with hn | hn
    · exact h y List.mem_cons_self n hn
    · exact join_alph (fun u hu => h u (List.mem_cons_of_mem _ hu)) n hn
theorem law_signs : ∀ i : Fin 31, (TL.tl "0123456789gginasmtcehlujfyo1203").getD i.val 0 ∈ TL.tl "0123456789ginasmtcehlujfyo" := by decide +kernel
theorem law_signs_len : (TL.tl "0123456789gginasmtcehlujfyo1203").length = 31 := by decide +kernel
theorem fold_mem (x : Array Nat) : ∀ (k : Nat) (acc : Array Nat) (c : Nat), c ∈ ((List.replicate k x).foldl (· ++ ·) acc).toList → c ∈ acc.toList ∨ c ∈ x.toList
  | 0, acc, c, h => .inl h
  | k + 1, acc, c, h => by
    rw [List.replicate_succ, List.foldl_cons] at h
    rcases fold_mem x k (acc ++ x) c h with h | h
    · rw [Array.toList_append] at h
      exact List.mem_append.mp h
    · exact .inr h
theorem fold_len (x : Array Nat) : ∀ (k : Nat) (acc : Array Nat), ((List.replicate k x).foldl (· ++ ·) acc).size = acc.size + k * x.size
  | 0, acc => by simp
  | k + 1, acc => by
    rw [List.replicate_succ, List.foldl_cons, fold_len x k, Array.size_append, Nat.succ_mul]
    omega
theorem mul_mem {z : Str} {n : Int} {c : Nat} (h : c ∈ TL.tl (Txt.mul z n)) : c ∈ TL.tl z := by
  unfold Txt.mul at h
  split at h
  · cases h
  split at h
  · exact h
  · rcases fold_mem _ _ _ _ h with h | h
    · cases h
    · exact h
theorem mul_len {z : Str} {n : Int} (h : 1 ≤ n) : (Txt.mul z n).length ≤ n.toNat * z.length := by
  unfold Txt.mul
  split
  · omega
  split
  · rename_i h1 h2
    have : 1 ≤ n.toNat := by omega
    exact Nat.le_mul_of_pos_left _ this
  · show Array.size _ ≤ _
    rw [fold_len]
    show 0 + _ ≤ _
    rw [Nat.zero_add]
    exact Nat.le_refl _

theorem cut_mem {z : Str} {lo hi : Option Int} {c : Nat} (h : c ∈ TL.tl (cutS z lo hi)) : c ∈ TL.tl z := List.mem_of_mem_drop (List.mem_of_mem_take h)
theorem flat_kv (kv : List (Nat × Nat)) (nd : (kv.map (·.1)).Nodup) : ∀ p ∈ kvV kv, valV (kvV kv) p.1 = some p.2 ∧ flatB p.2 = true := fun p hp => by
  obtain ⟨x, hx, rfl⟩ := List.mem_map.mp hp
  refine ⟨?_, rfl⟩
  show valV (kvV kv) (Sum.inl (x.1 : Int)) = some (V.int (x.2 : Nat))
  rw [val_mem (List.mem_map.mpr ⟨x, hx, rfl⟩)]
  have : getN kv x.1 = x.2 := by
    clear hp
    unfold getN
    induction kv with
    | nil => cases hx
    | cons y r ih =>
      rw [List.map_cons] at nd
      have nd := List.nodup_cons.mp nd
      rw [List.find?_cons]
      rcases List.mem_cons.mp hx with rfl | hx
      · rw [decide_eq_true rfl]
        rfl
      · have ne : y.1 ≠ x.1 := fun e => nd.1 (by rw [e]; exact List.mem_map.mpr ⟨x, hx, rfl⟩)
        rw [decide_eq_false ne]
        exact ih nd.2 hx
  rw [this]
theorem inl_kv (kv : List (Nat × Nat)) : ∀ p ∈ kvV kv, ∃ i, p.1 = Sum.inl i := fun p hp => by
  obtain ⟨x, _, rfl⟩ := List.mem_map.mp hp
  exact ⟨_, rfl⟩
theorem perm_one : ∀ {l m : List Nat}, l.Perm m → l.Pairwise (· ≤ ·) → m.Pairwise (· ≤ ·) → l = m
  | [], m, h, _, _ => (List.Perm.nil_eq h)
  | x :: l, [], h, _, _ => absurd h.length_eq (by simp)
  | x :: l, y :: m, h, h1, h2 => by
    have a1 := List.pairwise_cons.mp h1
    have a2 := List.pairwise_cons.mp h2
    have e : x = y := by
      have m1 : x ∈ y :: m := h.mem_iff.mp (List.mem_cons_self ..)
      have m2 : y ∈ x :: l := h.mem_iff.mpr (List.mem_cons_self ..)
      have b1 : y ≤ x := by
        rcases List.mem_cons.mp m1 with e | e
        · exact Nat.le_of_eq e.symm
        · exact a2.1 x e
      have b2 : x ≤ y := by
        rcases List.mem_cons.mp m2 with e | e
        · exact Nat.le_of_eq e.symm
        · exact a1.1 y e
      omega
    subst e
    rw [perm_one (List.Perm.cons_inv h) a1.2 a2.2]
theorem pick_nodup {ys : List Nat} (h : ys.Nodup) (kv : List (Nat × Nat)) : ((pick ys kv).map (·.1)).Nodup := by
  unfold pick
  rw [List.map_map]
  have e : (ys.filter fun k => decide (getN kv k ≠ 0)).map ((fun x : Nat × Nat => x.1) ∘ fun k => (k, getN kv k)) = ys.filter fun k => decide (getN kv k ≠ 0) := by
    conv => rhs; rw [← List.map_id (ys.filter fun k => decide (getN kv k ≠ 0))]
    rfl
  rw [e]
  exact h.filter _
theorem pick_len (ys : List Nat) (kv : List (Nat × Nat)) : (pick ys kv).length ≤ ys.length := by
  unfold pick
  rw [List.length_map]
  exact List.length_filter_le _ _
theorem Keep.le {G : Gv} : ∀ {n : Nat} {m : Mc} {o : Option Mc} {k : Nat}, Keep G m → n = 201 - m.st → m.st ≤ 200 → finM G n m = (o, k) → k ≤ 200
  | 0, m, o, k, hk, hn, h2, e => by
    cases e
    exact h2
  | n + 1, m, o, k, hk, hn, h2, e => by
    rw [finM] at e
    cases h : (TL.tl G.code)[m.pl]? with
    | none =>
      rw [h] at e
      cases e
      exact h2
    | some c =>
      rw [h] at e
      replace e : (if m.st = 200 then (none, 200) else match performM G c { m with st := m.st + 1, pl := m.pl + 1 } with
        | none => (none, m.st + 1)
        | some m' => finM G n m') = (o, k) := e
      split at e
      · cases e
        exact Nat.le_refl _
      · cases hp : performM G c { m with st := m.st + 1, pl := m.pl + 1 } with
        | none =>
          rw [hp] at e
          cases e
          omega
        | some m2 =>
          rw [hp] at e
          obtain ⟨k2, s2⟩ := hk.step (by omega) hp
          exact Keep.le k2 (by omega) (by omega) e
theorem dp_ints {H : Hp} : ∀ xs : List Int, DpAll K H (xs.map V.int) (xs.map PyData.int)
  | [] => .nil
  | x :: xs => .cons (.int x) (dp_ints xs)
theorem lay_ints : ∀ xs : List Int, PyData.canLayAll0 (xs.map PyData.int) = true
  | [] => by simp [PyData.canLayAll0]
  | x :: xs => by
    simp only [List.map_cons, PyData.canLayAll0, PyData.canLay0, lay_ints xs]
    rfl
theorem depth_ints : ∀ xs : List Int, PyData.depthAll (xs.map PyData.int) = 0
  | [] => by simp [PyData.depthAll]
  | x :: xs => by
    have := depth_ints xs
    simp only [List.map_cons, PyData.depthAll, PyData.depth, this]
    rfl
theorem shaped_ints (xs : List Int) : SeqAt.shaped (.list (xs.map PyData.int)) = true := by
  unfold SeqAt.shaped
  have e : PyData.depth (.list (xs.map PyData.int)) = PyData.depthAll (xs.map PyData.int) + 1 := by simp only [PyData.depth]
  have l : PyData.canLay0 (.list (xs.map PyData.int)) = true := by simp only [PyData.canLay0, lay_ints xs]
  rw [l, e, depth_ints]
  rfl
theorem ints_refl (xs : List Int) : PyData.eqv (.list (xs.map PyData.int)) (.list (xs.map PyData.int)) = true := SeqAt.eqv_refl _ (by
  simp only [PyData.canLay0, lay_ints xs])
/-- what stands when both have run -/
def Mid (CR : Addr) (kv : List (Nat × Nat)) (st D q j : Addr) (H : Hp) : Prop := ∃ (S S2 dx : Addr) (b : Bool) (kx : List (Nat × Nat)) (pd sc : Nat), S ≠ S2 ∧ S2 ≠ st ∧ S2 ≠ D ∧ sc ≤ 200 ∧ (kx.map (·.1)).Nodup ∧ kx.length ≤ 64 ∧ H st = some (.dK (kvV kv)) ∧ H D = some (.dK (kvV kv)) ∧
  H q = some (.tup [.bl b, .ref S, .int (pd : Nat), .int (sc : Nat)]) ∧ H S = some (.dK (kvV kx)) ∧ H S2 = some (.dK (kvV kx)) ∧ H j = some (.ins CR dx [("well", .bl b), ("store", .ref S2), ("paid", .int (pd : Nat)), ("steps", .int (sc : Nat))])
theorem ok_law {f : Addr} {fd : FuncData} (F : Fun K "law" "law" s_law f fd) (TE : TxtE w K mg a) (T : Txt K mg a) : FnOk P w K mg base CX0 8 f fd ["script"] (spLaw K) := by
  obtain ⟨fd_law_cell, G_law_cell, b_law_cell⟩ := ok_law_cell (P := P) (w := w) (base := base) T
  obtain ⟨fd_law_row, G_law_row, b_law_row⟩ := ok_law_row (P := P) (w := w) (base := base) T
  obtain ⟨fd_law_run, G_law_run, b_law_run⟩ := ok_law_run (P := P) (w := w) (base := base) T
  obtain ⟨fd_run, G_run, b_run⟩ := ok_run (P := P) (w := w) (base := base) TE T
  obtain ⟨fd_law_is_integer, G_law_is_integer, b_law_is_integer⟩ := ok_law_is_integer (P := P) (w := w) (base := base) T
  refine F.ok sc_law (fun vs H Q E h => ?_) (fun cdv A outer s H vs Q E hr h => ?_)
  · obtain ⟨_, _, rfl, _⟩ := h
    rfl
  · obtain ⟨l, ns, rfl, hS, hl, k⟩ := h
    have k : ∀ H', Q (.bl true) H' := k
    refine ⟨_, (pss_cons (ps_set (i := 1) sc_law.nd rfl (Or.inr rfl) pe_str)
      (pss_cons (ps_set (i := 2) sc_law.nd rfl (Or.inl rfl) (pe_join pe_str (pe_lc (own := [("cell", 12)]) (g := (gName 12)) (tt := tYes) rfl sc_law.nd (pi_list (pe_slice sl_list (pv 0) (po_some pe_int) po_none)) (blkOk_by (own := [("cell", 12)]) (N := sc_law_N) (sc := defScope s_law) (by decide +kernel)) (fun _ _ _ _ _ => (pg_name (i := 12) sc_law.nd rfl (Or.inl rfl))) (fun _ _ _ _ _ => pts_nil) (fun _ _ _ _ _ => (pe_ix ix_str (pv 1) (pe_op op_mod (pe_callTy call_int1 (by rfl) T.n_int (by decide +kernel) (pa_cons (pv 12) pa_nil)) pe_int) (fun _ _ => rfl))))))
      (pss_cons (ps_set (i := 3) sc_law.nd rfl (Or.inl rfl) (pe_call G_law_cell (hr.mono (by decide)) rfl T.d_law_cell.g T.d_law_cell.kp b_law_cell .nil pass0 (pa_cons (pv 0) (pa_cons pe_int pa_nil))))
      (C8.pss_cut (ps_if (pt_cmpR op_eq (pe_op op_mod (pe_callTy call_int1 (by rfl) T.n_int (by decide +kernel) (pa_cons (pv 3) pa_nil)) pe_int) pe_int (nomark _))
      (pss_one (ps_set (i := 2) sc_law.nd rfl (Or.inl rfl) (pe_op op_mulS (pe_slice sl_str (pv 2) po_none (po_some (pe_op op_mod (pe_op op_fdiv (pv 3) pe_int) pe_int))) (pe_op op_add pe_int (pe_op op_mod (pe_op op_fdiv (pv 3) pe_int) pe_int)))))
      pss_nil)
      (pss_cons (ps_set (i := 4) sc_law.nd rfl (Or.inl rfl) (pe_op op_mod (pe_callTy call_int1 (by rfl) T.n_int (by decide +kernel) (pa_cons (pe_call G_law_cell (hr.mono (by decide)) rfl T.d_law_cell.g T.d_law_cell.kp b_law_cell .nil pass0 (pa_cons (pv 0) (pa_cons pe_int pa_nil))) pa_nil)) pe_int))
      (pss_cons (ps_set (i := 5) sc_law.nd rfl (Or.inl rfl) (pe_op op_mod (pe_op op_fdiv (pe_call G_law_cell (hr.mono (by decide)) rfl T.d_law_cell.g T.d_law_cell.kp b_law_cell .nil pass0 (pa_cons (pv 0) (pa_cons pe_int pa_nil))) pe_int) pe_int))
      (pss_cons (ps_set (i := 6) sc_law.nd rfl (Or.inl rfl) pe_dnewK)
      (pss_cons (ps_for PassesOwn.never rfl (pi_list (pe_call G_law_row (hr.mono (by decide)) rfl T.d_law_row.g T.d_law_row.kp b_law_row .nil pass0 (pa_cons (pe_call G_law_cell (hr.mono (by decide)) rfl T.d_law_cell.g T.d_law_cell.kp b_law_cell .nil pass0 (pa_cons (pv 0) (pa_cons pe_int pa_nil))) (pa_cons (pe_op op_mod (pe_callTy call_int1 (by rfl) T.n_int (by decide +kernel) (pa_cons (pe_call G_law_cell (hr.mono (by decide)) rfl T.d_law_cell.g T.d_law_cell.kp b_law_cell .nil pass0 (pa_cons (pv 0) (pa_cons pe_int pa_nil))) pa_nil)) pe_int) (pa_cons pe_int pa_nil))))) (pg_name (i := 7) sc_law.nd rfl (Or.inl rfl))
      (pss_one (ps_dput (hu_of hr) (pv 6) (pe_op op_mod (pe_callTy call_int1 (by rfl) T.n_int (by decide +kernel) (pa_cons (pv 7) pa_nil)) pe_int) (pe_op op_mul (pe_op op_mod (pe_callTy call_int1 (by rfl) T.n_int (by decide +kernel) (pa_cons (pv 7) pa_nil)) pe_int) (pe_op op_add pe_int (pv 7))) rfl)))
      (pss_cons (ps_set (i := 8) sc_law.nd rfl (Or.inl rfl) (pe_callTy call_dictD (by rfl) T.n_dict (by decide +kernel) (pa_cons (pv 6) pa_nil)))
      (C8.pss_cut (ps_set (i := 9) sc_law.nd rfl (Or.inl rfl) (pe_call G_law_run (hr.mono (by decide)) rfl T.d_law_run.g T.d_law_run.kp b_law_run .nil pass0 (pa_cons (pv 2) (pa_cons (pv 4) (pa_cons (pv 5) (pa_cons (pv 8) pa_nil))))))
      (C8.pss_cut (ps_set (i := 10) sc_law.nd rfl (Or.inl rfl) (pe_call G_run (hr.mono (by decide)) rfl T.d_run.g T.d_run.kp b_run .nil pass0 (pa_cons (pv 2) (pa_cons (pv 4) (pa_cons (pv 5) (pa_cons (pv 6) pa_nil))))))
      (pss_cons (ps_if (PW.pt (pw_or (pt_cmpR (op_ne_dictA (Nat.lt_of_succ_lt (hu_of hr))) (pv 6) (pv 8) (nomark _)) (pw_or (pt_not (pt_val (pe_callB call_isi (by rfl) T.n_isinstance (by decide +kernel) (pa_cons (pe_fld (pv 10) rfl) (pa_cons (pe_bltn (v := .ty "bool") (u := .type "bool") (by rfl) T.n_bool (by decide +kernel) rfl) pa_nil))))) (pw_or1 (pt_not (pt_val (pe_callB call_isi (by rfl) T.n_isinstance (by decide +kernel) (pa_cons (pe_fld (pv 10) rfl) (pa_cons (pe_bltn (v := .ty "dict") (u := .type "dict") (by rfl) T.n_dict (by decide +kernel) rfl) pa_nil)))))))))
      (pss_one (ps_ret pe_bl))
      pss_nil)
      (pss_cons (ps_if (PW.pt (pw_or (pt_not (pt_val (pe_call G_law_is_integer (hr.mono (by decide)) rfl T.d_law_is_integer.g T.d_law_is_integer.kp b_law_is_integer .nil pass0 (pa_cons (pe_fld (pv 10) rfl) pa_nil)))) (pw_or (pt_not (pt_val (pe_call G_law_is_integer (hr.mono (by decide)) rfl T.d_law_is_integer.g T.d_law_is_integer.kp b_law_is_integer .nil pass0 (pa_cons (pe_fld (pv 10) rfl) pa_nil)))) (pw_or1 (pt_cmpR op_gt (pe_fld (pv 10) rfl) pe_int (nomark _))))))
      (pss_one (ps_ret pe_bl))
      pss_nil)
      (pss_cons (ps_if (pt_cmpR (op_neT4 (hu_of hr)) (pe_tup (pa_cons (pe_fld (pv 10) rfl) (pa_cons (pe_fld (pv 10) rfl) (pa_cons (pe_fld (pv 10) rfl) (pa_cons (pe_fld (pv 10) rfl) pa_nil))))) (pv 9) (nomark _))
      (pss_one (ps_ret pe_bl))
      pss_nil)
      (pss_cons (ps_if (PW.pt (pw_and (pt_val (pe_ix ix_tup (pv 9) pe_int (fun _ _ => rfl))) (pw_and1 (pt_cmpR (op_neD hr.units) (pe_lock (pe_lc (own := [("key", 13)]) (g := (gName 13)) (tt := tYes) rfl sc_law.nd (pi_keys (pe_fld (pv 10) rfl)) (blkOk_by (own := [("key", 13)]) (N := sc_law_N) (sc := defScope s_law) (by decide +kernel)) (fun _ _ _ _ _ => (pg_name (i := 13) sc_law.nd rfl (Or.inl rfl))) (fun _ _ _ _ _ => pts_nil) (fun _ _ _ _ _ => (pv 13)))) (pe_lock (pe_lc (own := [("key", 13)]) (g := (gName 13)) (tt := tYes) rfl sc_law.nd (pi_keys (pe_ix ix_tup (pv 9) pe_int (fun _ _ => rfl))) (blkOk_by (own := [("key", 13)]) (N := sc_law_N) (sc := defScope s_law) (by decide +kernel)) (fun _ _ _ _ _ => (pg_name (i := 13) sc_law.nd rfl (Or.inl rfl))) (fun _ _ _ _ _ => pts_nil) (fun _ _ _ _ _ => (pv 13)))) (nomark _)))))
      (pss_one (ps_ret pe_bl))
      pss_nil)
      (pss_cons (ps_set (i := 11) sc_law.nd rfl (Or.inl rfl) (pe_fld (pv 10) rfl))
      (pss_cons (ps_dput (hu_of hr) (pv 11) pe_int pe_int rfl)
      (pss_one (ps_ret (pe_cmpR (op_eq_dictA (Nat.lt_of_succ_lt (hu_of hr))) (pv 6) (pv 8) (nomark _))))))))))))))))))))), ?_⟩
    walk_at "rs"
    refine ⟨⟨_, rfl⟩, ?_⟩
    walk_at "rs"
    refine ⟨l, _, rfl, hS, fun q hq => ?_⟩
    have s1 := same_new (o := .lst (cutV (ns.map V.int) (some 3) none)) hq
    have hq1 : upd H q (.lst (cutV (ns.map V.int) (some 3) none)) q = some (.lst (cutV (ns.map V.int) (some 3) none)) := upd_same
    have lcut : (cutV (ns.map V.int) (some 3) none).length ≤ 63 := by
      unfold cutV
      have h1 := List.length_take_le' (HT.sIx (ns.map V.int).length (ns.map V.int).length none - HT.sIx (ns.map V.int).length 0 (some 3)) ((ns.map V.int).drop (HT.sIx (ns.map V.int).length 0 (some 3)))
      rw [List.length_drop, List.length_map] at h1
      rw [List.length_map] at *
      omega
    have icut : ∀ x ∈ cutV (ns.map V.int) (some 3) none, ∃ n : Int, x = V.int n := fun x hx => by
      obtain ⟨n, _, rfl⟩ := List.mem_map.mp (List.mem_of_mem_drop (List.mem_of_mem_take hx))
      exact ⟨n, rfl⟩
    generalize cutV (ns.map V.int) (some 3) none = xs at s1 hq1 lcut icut ⊢
    generalize upd H q (.lst xs) = H1 at s1 hq1 ⊢
    walk_at "rs"
    refine ⟨⟨_, SqL.of hq1⟩, fun D hD => ?_⟩
    refine lc_list (K := K) (a := q) (xs := xs) (fun i H2 => Same H1 H2 ∧ ∃ ys : List Str, H2 D = some (.lst (ys.map V.str)) ∧ ys.length = i ∧ (∀ y ∈ ys, y.length = 1) ∧ ∀ y ∈ ys, ∀ c ∈ TL.tl y, Alph c) ⟨same_new hD, [], upd_same, rfl, fun y hy => absurd hy List.not_mem_nil, fun y hy => absurd hy List.not_mem_nil⟩ (fun i H2 _ ⟨s2, _⟩ => SqL.of (s2 _ _ hq1)) ?_ ?_
    · rintro i y H2 hy ⟨s2, ys, hd, ly, l1, sg⟩
      have hi := (List.getElem?_eq_some_iff.mp hy).1
      obtain ⟨n, rfl⟩ := icut y (List.mem_of_getElem? hy)
      have b1 := Int.emod_nonneg n (show (31 : Int) ≠ 0 by decide)
      have b2 := Int.emod_lt_of_pos n (show (0 : Int) < 31 by decide)
      refine ⟨rfl, ?_⟩
      walk_at "rs"
      refine ⟨_, _, _, rfl, rfl, (by rw [sizeLine_eq]; decide +kernel), at_sign (l := TL.tl "0123456789gginasmtcehlujfyo1203") b1 (by rw [law_signs_len]; omega), ?_⟩
      have hs := law_signs ⟨(n % 31).toNat, by omega⟩
      refine ⟨_, hd, by rw [List.length_map]; exact small1000 (by omega), same_upd s2 hD, ys ++ [⟨#[(TL.tl "0123456789gginasmtcehlujfyo1203").getD (n % 31).toNat 0]⟩], by rw [upd_same, List.map_append]; rfl, by rw [List.length_append, ly]; rfl, fun y hy => ?_, fun y hy => ?_⟩
      · rcases List.mem_append.mp hy with hy | hy
        · exact l1 y hy
        · rw [List.mem_singleton.mp hy]
          rfl
      · rcases List.mem_append.mp hy with hy | hy
        · exact sg y hy
        · rw [List.mem_singleton.mp hy]
          intro n hn
          rw [TL.tl_mk, List.mem_singleton] at hn
          rw [hn]
          exact hs
    rintro H2 ⟨s2, ys, hd, ly, l1, sg⟩
    have e1 : (ys.map fun x => x.length).sum = ys.length := ones_sum l1
    have l0 : ("" : Str).length = 0 := rfl
    walk_at "rs"
    refine ⟨_, _, ys, rfl, rfl, .inl (SqL.of hd), by rw [e1, l0]; omega, ?_⟩
    have z1 : (Str.join "" ys).length ≤ 63 := by rw [join_nil_len, e1]; omega
    have z2 : ∀ c ∈ TL.tl (Str.join "" ys), Alph c := fun n hn => by
      rw [TL.tl_join] at hn
      exact join_alph sg n hn
    have s3 := s1.trans s2
    clear s1 s2 hd hq1 hD hq lcut icut
    rw [TL.join_eq]
    generalize Str.join "" ys = z at z1 z2 ⊢
    clear e1 l0 ly l1 sg
    walk_at "rs"
    refine ⟨l, ns, 0, rfl, s3.seq hS, hl, by decide, ?_⟩
    walk_at "rs"
    refine ⟨fun σ H3 => ∃ (z : Str) (way : Int), σ = [some (.ref l), some (.str "0123456789gginasmtcehlujfyo1203"), some (.str z), some (.int way), none, none, none, none, none, none, none, none, none, none] ∧ z.length ≤ 5000 ∧ (∀ c ∈ TL.tl z, Alph c) ∧ Same H H3, ?_, ?_⟩
    · walk_at "rs"
      refine ite2 (fun c1 => ?_) (fun c1 => ?_)
      · have b1 := Int.emod_nonneg (ns.getD 0 0 / 24) (show (70 : Int) ≠ 0 by decide)
        have b2 := Int.emod_lt_of_pos (ns.getD 0 0 / 24) (show (0 : Int) < 70 by decide)
        walk_at "rs"
        refine ⟨by rw [sizeLine_eq]; omega, ?_⟩
        have lc := cutS_length z none (some (ns.getD 0 0 / 4 % 6))
        walk_at "rs"
        refine ⟨PyProof.Rows.mulOk_of 63 70 (Nat.le_trans (cutS_length _ _ _) z1) (by show 1 + ns.getD 0 0 / 24 % 70 ≤ 70; omega) (by show -(2 ^ 63 : Int) ≤ 1 + ns.getD 0 0 / 24 % 70; omega) (by decide) (by decide), ?_⟩
        refine ⟨_, _, rfl, ?_, fun c hc => z2 c (cut_mem (mul_mem hc)), s3⟩
        have h1 := mul_len (z := cutS z none (some (ns.getD 0 0 / 4 % 6))) (n := 1 + ns.getD 0 0 / 24 % 70) (by omega)
        have h2 : (1 + ns.getD 0 0 / 24 % 70).toNat * (cutS z none (some (ns.getD 0 0 / 4 % 6))).length ≤ 70 * 63 := Nat.mul_le_mul (by omega) (by omega)
        exact Nat.le_trans h1 (Nat.le_trans h2 (by decide))
      · exact ⟨z, _, rfl, by omega, z2, s3⟩
    clear z1 z2 s3
    rintro σ H3 ⟨z, way, rfl, lz, az, s3⟩
    walk_at "rs"
    refine ⟨l, ns, 1, rfl, s3.seq hS, hl, by decide, ?_⟩
    walk_at "rs"
    refine ⟨l, ns, 1, rfl, s3.seq hS, hl, by decide, ?_⟩
    walk_at "rs"
    have g0 := Int.emod_nonneg (ns.getD 1 0) (show (1000000 : Int) ≠ 0 by decide)
    have g1 := Int.emod_lt_of_pos (ns.getD 1 0) (show (0 : Int) < 1000000 by decide)
    have m0 := Int.emod_nonneg (ns.getD 1 0 / 7) (show (1000000 : Int) ≠ 0 by decide)
    have m1 := Int.emod_lt_of_pos (ns.getD 1 0 / 7) (show (0 : Int) < 1000000 by decide)
    intro st hst
    have nst := s3.free hst
    have s4 := same_upd (o := .dK []) s3 nst
    have hst4 : upd H3 st (.dK []) st = some (.dK []) := upd_same
    generalize upd H3 st (.dK []) = H4 at s4 hst4 ⊢
    walk_at "rs"
    refine ⟨l, ns, 2, rfl, s4.seq hS, hl, by decide, ?_⟩
    walk_at "rs"
    refine ⟨l, ns, 2, rfl, s4.seq hS, hl, by decide, ?_⟩
    have r0 := Int.emod_nonneg (ns.getD 2 0) (show (4 : Int) ≠ 0 by decide)
    have r1 := Int.emod_lt_of_pos (ns.getD 2 0) (show (0 : Int) < 4 by decide)
    walk_at "rs"
    refine ⟨_, _, _, rfl, r0, by omega, by decide, by decide, fun q row H5 s5 hq lrow brow nq => ?_⟩
    walk_at "rs"
    refine ⟨⟨_, SqL.of hq⟩, ?_⟩
    have hst5 := s5 _ _ hst4
    have s5' := s4.trans s5
    have nqs : q ≠ st := fun e => by rw [e, hst4] at nq; cases nq
    have lrow : row.length ≤ 3 := by rw [lrow]; omega
    generalize hg : (ns.getD 1 0) % 1000000 = gi at g0 g1
    generalize hm : (ns.getD 1 0 / 7) % 1000000 = am at m0 m1
    refine for_list (K := K) (a := q) (xs := row.map V.int) (fun i σ H6 => ∃ (v7 : Option V) (kv : List (Nat × Nat)), σ = [some (.ref l), some (.str "0123456789gginasmtcehlujfyo1203"), some (.str z), some (.int way), some (.int gi), some (.int am), some (.ref st), v7, none, none, none, none, none, none] ∧
        (∀ b o, b ≠ st → H5 b = some o → H6 b = some o) ∧ H6 st = some (.dK (kvV kv)) ∧ kv.length ≤ i ∧ (kv.map (·.1)).Nodup ∧ ∀ x ∈ kv, x.2 < 1000000)
      ⟨_, [], by rw [← hg, ← hm]; rfl, fun b o _ e => e, hst5, Nat.le_refl _, List.nodup_nil, fun x hx => nomatch hx⟩ (fun i σ H6 _ ⟨_, _, _, fr, _⟩ => SqL.of (fr _ _ nqs hq)) ?_ ?_
    · rintro i y σ H6 hy ⟨v7, kv, rfl, fr, h6, l6, n6, v6⟩
      have hi : i < row.length := by
        have e := (List.getElem?_eq_some_iff.mp hy).1
        rwa [List.length_map] at e
      rw [at_ints hi] at hy
      cases hy
      have hz := brow _ (getD_mem hi)
      generalize row.getD i 0 = v at hz
      obtain ⟨n, rfl⟩ : ∃ n : Nat, v = (n : Int) := ⟨v.toNat, by omega⟩
      walk_at "rs"
      refine ⟨(show CMul _ _ from .inl ⟨by omega, by omega⟩), ?_⟩
      walk_at "rs"
      refine ⟨st, _, rfl, DPut.k (k := Sum.inl ((n % 8 : Nat) : Int)) h6 (by rw [len_kv]; exact small1000 (by omega)), ?_⟩
      refine ⟨_, putN kv (n % 8) (n % 3 * (1 + n)), rfl, fun b o ne e => by rw [upd_ne ne]; exact fr b o ne e, ?_, Nat.le_trans (len_put _ _ _) (by omega), put_nodup n6, fun x hx => ?_⟩
      · rw [upd_same, ← put_kv]
        rfl
      · rcases put_mem hx with hx | rfl
        · exact v6 x hx
        · have a1 : n % 3 ≤ 2 := by omega
          have a2 : n % 3 * (1 + n) ≤ 2 * 41 := Nat.mul_le_mul a1 (by omega)
          show n % 3 * (1 + n) < 1000000
          omega
    rintro σ H6 ⟨v7, kv, rfl, fr, h6, l6, n6, v6⟩
    rw [List.length_map] at l6
    obtain ⟨G, rfl, rfl, rfl⟩ : ∃ G : Gv, G.code = z ∧ (G.given : Int) = gi ∧ (G.amount : Int) = am := ⟨⟨z, gi.toNat, am.toNat⟩, rfl, by show ((gi.toNat : Nat) : Int) = gi; omega, by show ((am.toNat : Nat) : Int) = am; omega⟩
    have s6 : Same H H6 := fun b o e => fr b o (ne_of_none e nst) (s5' b o e)
    have l3 : kv.length ≤ 3 := by omega
    clear fr hst5 hq hst4 s5' s5 s4 s3 brow lrow nq nqs
    have ks := Keep.start (G := G) n6 l3 v6
    walk_at "rs"
    refine ⟨st, _, rfl, .of h6, fun D hD => ?_⟩
    have nD := s6.free hD
    have s7 := same_upd (o := .dK (kvV kv)) s6 nD
    have Dst : D ≠ st := fun e => by rw [e, h6] at hD; cases hD
    have hst7 : upd H6 D (.dK (kvV kv)) st = some (.dK (kvV kv)) := by rw [upd_ne (fun e => Dst e.symm)]; exact h6
    have hD7 : upd H6 D (.dK (kvV kv)) D = some (.dK (kvV kv)) := upd_same
    generalize upd H6 D (.dK (kvV kv)) = H7 at s7 hst7 hD7 ⊢
    walk_at "rs"
    refine ⟨fun σ H8 => ∃ q S, σ = [some (.ref l), some (.str "0123456789gginasmtcehlujfyo1203"), some (.str G.code), some (.int way), some (.int (G.given : Nat)), some (.int (G.amount : Nat)), some (.ref st), v7, some (.ref D), some (.ref q), none, none, none, none] ∧ Same H7 H8 ∧
        ((∃ m' n ys, finM G 201 ⟨[], kv, 0, 0, 0⟩ = (some m', n) ∧ ys.Perm (m'.kv.map (·.1)) ∧ ys.Pairwise (· ≤ ·) ∧ H8 S = some (.dK (kvV (pick ys m'.kv))) ∧ H8 q = some (.tup [.bl true, .ref S, .int (m'.pd : Nat), .int (m'.st : Nat)])) ∨
          ∃ n, finM G 201 ⟨[], kv, 0, 0, 0⟩ = (none, n) ∧ H8 S = some (.dK (kvV kv)) ∧ H8 q = some (.tup [.bl false, .ref S, .int 0, .int (n : Nat)])), ?_, ?_⟩
    · walk_at "rs"
      exact ⟨D, G, kv, rfl, hD7, l3, n6, v6, lz, az, by omega, by omega, fun m' n e q S ys H8 yp yw s8 nq nS hS8 hq8 => ⟨q, S, rfl, s8, .inl ⟨m', n, ys, e, yp, yw, hS8, hq8⟩⟩, fun n e q S H8 s8 nq nS hS8 hq8 => ⟨q, S, rfl, s8, .inr ⟨n, e, hS8, hq8⟩⟩⟩
    rintro σ H8 ⟨q, S, rfl, s8, out⟩
    have hst8 := s8 _ _ hst7
    have hD8 := s8 _ _ hD7
    refine ⟨fun σ H9 => ∃ j, σ = [some (.ref l), some (.str "0123456789gginasmtcehlujfyo1203"), some (.str G.code), some (.int way), some (.int (G.given : Nat)), some (.int (G.amount : Nat)), some (.ref st), v7, some (.ref D), some (.ref q), some (.ref j), none, none, none] ∧ Mid a.C_Run kv st D q j H9, ?_, ?_⟩
    · walk_at "rs"
      rcases out with ⟨m', n, ys, e, yp, yw, hS8, hq8⟩ | ⟨n, e, hS8, hq8⟩
      · obtain ⟨km, le, _⟩ := Keep.fin ks rfl (Nat.zero_le _) e
        have small := km.small le
        have ndk := km.2.1
        refine ⟨st, G, kv, rfl, hst8, by omega, lz, fun m2 n2 e2 => ?_, fun n2 e2 => by rw [e] at e2; cases e2⟩
        obtain rfl : m' = m2 := by
          rw [e] at e2
          exact Option.some.inj (Prod.mk.inj e2).1
        refine ⟨small, ndk, fun j S2 dx ys2 H9 yp2 yw2 s9 nS2 hS9 hj9 => ?_⟩
        obtain rfl := perm_one (yp2.trans yp.symm) yw2 yw
        exact ⟨j, rfl, S, S2, dx, true, pick ys2 m'.kv, m'.pd, m'.st, ne_of_none hS8 nS2, fun z => ne_of_none hst8 nS2 z.symm, fun z => ne_of_none hD8 nS2 z.symm, le, pick_nodup (yp2.nodup_iff.mpr ndk) _, Nat.le_trans (pick_len _ _) (by rw [yp2.length_eq, List.length_map]; omega), s9 _ _ hst8, s9 _ _ hD8, s9 _ _ hq8, s9 _ _ hS8, hS9, hj9⟩
      · have le := Keep.le ks rfl (Nat.zero_le _) e
        refine ⟨st, G, kv, rfl, hst8, by omega, lz, fun m2 n2 e2 => (by rw [e] at e2; cases e2), fun n2 e2 j S2 dx H9 s9 nS2 hS9 hj9 => ?_⟩
        obtain rfl : n = n2 := by
          rw [e] at e2
          exact (Prod.mk.inj e2).2
        exact ⟨j, rfl, S, S2, dx, false, kv, 0, n, ne_of_none hS8 nS2, fun z => ne_of_none hst8 nS2 z.symm, fun z => ne_of_none hD8 nS2 z.symm, le, n6, by omega, s9 _ _ hst8, s9 _ _ hD8, s9 _ _ hq8, s9 _ _ hS8, hS9, hj9⟩
    clear out hst8 hD8 s8 hst7 hD7
    rintro σ H9 ⟨j, rfl, S, S2, dx, b, kx, pd, sc, n1, n2, n3, le, ndx, lx, hst, hD, hq, hS1, hS2, hj⟩
    walk_at "rs"
    refine ⟨st, D, _, _, rfl, rfl, hst, hD, rfl, flat_kv kv n6, ?_⟩
    walk_at "rs"
    refine ⟨j, _, dx, _, .bl b, rfl, hj, T.cl_Run, T.a_Run_well, rfl, ?_⟩
    walk_at "rs"
    refine ⟨_, _, .type "bool", .type "bool", true, rfl, .ty _, .base (.bl _), kit_ty (by decide +kernel), ?_⟩
    walk_at "rs"
    refine ⟨j, _, dx, _, .ref S2, rfl, hj, T.cl_Run, T.a_Run_store, rfl, ?_⟩
    walk_at "rs"
    refine ⟨_, _, .type "dict", .type "dict", true, rfl, .ty _, .base (.dK hS2), kit_ty (by decide +kernel), ?_⟩
    walk_at "rs"
    refine ⟨j, _, dx, _, .int (pd : Nat), rfl, hj, T.cl_Run, T.a_Run_paid, rfl, ?_⟩
    walk_at "rs"
    refine ⟨j, _, dx, _, .int (sc : Nat), rfl, hj, T.cl_Run, T.a_Run_steps, rfl, ?_⟩
    walk_at "rs"
    refine ⟨j, _, dx, _, .int (sc : Nat), rfl, hj, T.cl_Run, T.a_Run_steps, rfl, ?_⟩
    walk_at "rs"
    refine ite2 (fun c => absurd (of_decide_eq_true c) (by omega)) (fun _ => ?_)
    walk_at "rs"
    refine ⟨j, _, dx, _, .bl b, rfl, hj, T.cl_Run, T.a_Run_well, rfl, ?_⟩
    walk_at "rs"
    refine ⟨j, _, dx, _, .ref S2, rfl, hj, T.cl_Run, T.a_Run_store, rfl, ?_⟩
    walk_at "rs"
    refine ⟨j, _, dx, _, .int (pd : Nat), rfl, hj, T.cl_Run, T.a_Run_paid, rfl, ?_⟩
    walk_at "rs"
    refine ⟨j, _, dx, _, .int (sc : Nat), rfl, hj, T.cl_Run, T.a_Run_steps, rfl, ?_⟩
    walk_at "rs"
    refine ⟨(by show 4 ≤ sizeLine; decide), fun p hp => ?_⟩
    have k1 : ∀ {b : Addr} {o u : HO}, H9 b = some o → upd H9 p u b = some o := fun {b o u} e => by rw [upd_ne (ne_of_none e hp)]; exact e
    walk_at "rs"
    refine ⟨p, q, S2, S, b, (pd : Nat), (sc : Nat), kvV kx, rfl, rfl, fun e => n1 e.symm, upd_same, k1 hq, k1 hS2, k1 hS1, inl_kv kx, flat_kv kx ndx, ?_⟩
    have hst := k1 (u := .tup [.bl b, .ref S2, .int (pd : Nat), .int (sc : Nat)]) hst
    have hD := k1 (u := .tup [.bl b, .ref S2, .int (pd : Nat), .int (sc : Nat)]) hD
    have hq := k1 (u := .tup [.bl b, .ref S2, .int (pd : Nat), .int (sc : Nat)]) hq
    have hS1 := k1 (u := .tup [.bl b, .ref S2, .int (pd : Nat), .int (sc : Nat)]) hS1
    have hS2 := k1 (u := .tup [.bl b, .ref S2, .int (pd : Nat), .int (sc : Nat)]) hS2
    have hj := k1 (u := .tup [.bl b, .ref S2, .int (pd : Nat), .int (sc : Nat)]) hj
    clear k1
    generalize upd H9 p (.tup [.bl b, .ref S2, .int (pd : Nat), .int (sc : Nat)]) = H1 at hst hD hq hS1 hS2 hj ⊢
    walk_at "rs"
    refine ⟨q, _, 0, .bl b, rfl, rfl, SqT.of hq, rfl, ?_⟩
    cases b with
    | false =>
      walk_at "rs"
      walk_at "rs"
      refine ⟨j, _, dx, _, .ref S2, rfl, hj, T.cl_Run, T.a_Run_store, rfl, ?_⟩
      walk_at "rs"
      refine ⟨S2, _, rfl, DPut.k (k := Sum.inl 77) hS2 (by rw [len_kv]; exact small1000 (by omega)), ?_⟩
      walk_at "rs"
      refine ⟨st, D, _, _, rfl, rfl, by rw [upd_ne (fun e => n2 e.symm)]; exact hst, by rw [upd_ne (fun e => n3 e.symm)]; exact hD, rfl, flat_kv kv n6, ?_⟩
      exact k _
    | true =>
      walk_at "rs"
      refine ⟨S2, .dK (kvV kx), hS2, trivial, fun od => ?_⟩
      walk_at "rs"
      refine ⟨j, _, dx, _, .ref S2, rfl, by rw [upd_ne (fun e => by rw [e, hS2] at hj; cases hj)]; exact hj, T.cl_Run, T.a_Run_store, rfl, ?_⟩
      refine ⟨S2, od, rfl, .inl ⟨kvV kx, upd_same, fun R hR => ?_⟩⟩
      have RD : R ≠ S2 := fun e => by rw [e, upd_same] at hR; cases hR
      have nR : H1 R = none := by rw [upd_ne RD] at hR; exact hR
      refine lc_it walk_keys (fun i H3 => H3 S2 = some (.frz od (.dK (kvV kx))) ∧ H3 R = some (.lst ((kx.take i).map fun x => V.int (x.1 : Int))) ∧ ∀ b o, b ≠ S2 → H1 b = some o → H3 b = some o) ⟨by rw [upd_ne (fun e => RD e.symm)]; exact upd_same, upd_same, fun b o n e => by rw [upd_ne (ne_of_none e nR), upd_ne n]; exact e⟩ (fun i H _ p => p.1) ?_ ?_
      · rintro i x H3 H3' hi ⟨a1, a2, a3⟩ ⟨rfl, k, v, hk, rfl⟩
        rw [len_kv] at hi
        obtain ⟨x, hx, rfl⟩ : ∃ x, kx[i]? = some x ∧ k = Sum.inl (x.1 : Int) := by
          unfold kvV at hk
          rw [List.getElem?_map] at hk
          cases h : kx[i]? with
          | none => rw [h] at hk; cases hk
          | some x =>
            rw [h] at hk
            have := Option.some.inj hk
            exact ⟨x, rfl, (Prod.mk.inj this).1.symm⟩
        refine ⟨rfl, ?_⟩
        walk_at "rs"
        refine ⟨_, a2, by rw [List.length_map]; exact small1000 (by have := List.length_take_le' i kx; omega), by rw [upd_ne (fun e => RD e.symm)]; exact a1, ?_, fun b o n e => ?_⟩
        · rw [upd_same, List.take_add_one, hx]
          simp [kV]
        · rw [upd_ne (ne_of_none e nR)]
          exact a3 b o n e
      rintro H3 ⟨a1, a2, a3⟩
      rw [len_kv, List.take_length] at a2
      refine ⟨a1, ?_⟩
      have sa : Same H1 (upd H3 S2 (.dK (kvV kx))) := fun b o e => by
        by_cases n : b = S2
        · rw [n, upd_same]
          rw [n, hS2] at e
          exact e
        · rw [upd_ne n]
          exact a3 b o n e
      have lR : upd H3 S2 (.dK (kvV kx)) R = some (.lst ((kx.map fun x => (x.1 : Int)).map V.int)) := by
        rw [upd_ne RD, a2, List.map_map]
        rfl
      clear a1 a2 a3 RD
      generalize upd H3 S2 (.dK (kvV kx)) = Ha at sa lR ⊢
      walk_at "rs"
      refine ⟨S, .dK (kvV kx), sa _ _ hS1, trivial, fun od2 => ?_⟩
      walk_at "rs"
      refine ⟨q, _, 1, .ref S, rfl, rfl, SqT.of (by rw [upd_ne (fun e => by rw [e, hS1] at hq; cases hq)]; exact sa _ _ hq), rfl, ?_⟩
      refine ⟨S, od2, rfl, .inl ⟨kvV kx, upd_same, fun R2 hR2 => ?_⟩⟩
      have RD : R2 ≠ S := fun e => by rw [e, upd_same] at hR2; cases hR2
      have nR2 : Ha R2 = none := by rw [upd_ne RD] at hR2; exact hR2
      refine lc_it walk_keys (fun i H3 => H3 S = some (.frz od2 (.dK (kvV kx))) ∧ H3 R2 = some (.lst ((kx.take i).map fun x => V.int (x.1 : Int))) ∧ ∀ b o, b ≠ S → Ha b = some o → H3 b = some o) ⟨by rw [upd_ne (fun e => RD e.symm)]; exact upd_same, upd_same, fun b o n e => by rw [upd_ne (ne_of_none e nR2), upd_ne n]; exact e⟩ (fun i H _ p => p.1) ?_ ?_
      · rintro i x H3 H3' hi ⟨a1, a2, a3⟩ ⟨rfl, k, v, hk, rfl⟩
        rw [len_kv] at hi
        obtain ⟨x, hx, rfl⟩ : ∃ x, kx[i]? = some x ∧ k = Sum.inl (x.1 : Int) := by
          unfold kvV at hk
          rw [List.getElem?_map] at hk
          cases h : kx[i]? with
          | none => rw [h] at hk; cases hk
          | some x =>
            rw [h] at hk
            have := Option.some.inj hk
            exact ⟨x, rfl, (Prod.mk.inj this).1.symm⟩
        refine ⟨rfl, ?_⟩
        walk_at "rs"
        refine ⟨_, a2, by rw [List.length_map]; exact small1000 (by have := List.length_take_le' i kx; omega), by rw [upd_ne (fun e => RD e.symm)]; exact a1, ?_, fun b o n e => ?_⟩
        · rw [upd_same, List.take_add_one, hx]
          simp [kV]
        · rw [upd_ne (ne_of_none e nR2)]
          exact a3 b o n e
      rintro H3 ⟨a1, a2, a3⟩
      rw [len_kv, List.take_length] at a2
      refine ⟨a1, ?_⟩
      have sb : Same Ha (upd H3 S (.dK (kvV kx))) := fun b o e => by
        by_cases n : b = S
        · rw [n, upd_same]
          rw [n, sa _ _ hS1] at e
          exact e
        · rw [upd_ne n]
          exact a3 b o n e
      have lR2 : upd H3 S (.dK (kvV kx)) R2 = some (.lst ((kx.map fun x => (x.1 : Int)).map V.int)) := by
        rw [upd_ne RD, a2, List.map_map]
        rfl
      clear a1 a2 a3 RD
      generalize upd H3 S (.dK (kvV kx)) = Hb at sb lR2 ⊢
      have sc2 := sa.trans sb
      refine ⟨.list ((kx.map fun x => (x.1 : Int)).map PyData.int), .list ((kx.map fun x => (x.1 : Int)).map PyData.int), .lst (SqL.of (sb _ _ lR)) (dp_ints _), .lst (SqL.of lR2) (dp_ints _), shaped_ints _, shaped_ints _, ?_⟩
      rw [ints_refl]
      walk_at "rs"
      refine ⟨j, _, dx, _, .ref S2, rfl, (sc2 _ _ hj), T.cl_Run, T.a_Run_store, rfl, ?_⟩
      walk_at "rs"
      refine ⟨S2, _, rfl, DPut.k (k := Sum.inl 77) (sc2 _ _ hS2) (by rw [len_kv]; exact small1000 (by omega)), ?_⟩
      walk_at "rs"
      refine ⟨st, D, _, _, rfl, rfl, by rw [upd_ne (fun e => n2 e.symm)]; exact (sc2 _ _ hst), by rw [upd_ne (fun e => n3 e.symm)]; exact (sc2 _ _ hD), rfl, flat_kv kv n6, ?_⟩
      exact k _

end

theorem all_mk {l : PySem.W.OpenLaw} {w : World} {K : PySem.W.Frag} {h : Heap} {mg : Str → Option Value} {fa : Addr} (X : K.In h) (G : h.Ns mainGlobals mg) (hfa : mg "law" = some (.ref fa))
    {t_DIGITS : Tok} {t_MODULUS : Tok} {t_MOST_VALUES : Tok} {t_MOST_STEPS : Tok} {C_Run : Addr} {C_Machine : Addr} {f_Run_init : Addr} {od_Run_init an_Run_init : Option Addr} {sl_Run_init : Array (Option Value)} {oc_Run_init kV_Run_init dc_Run_init pm_Run_init cd_Run_init ct_Run_init : Value} {f_run : Addr} {od_run an_run : Option Addr} {sl_run : Array (Option Value)} {oc_run kV_run dc_run pm_run cd_run ct_run : Value} {f_plus : Addr} {od_plus an_plus : Option Addr} {sl_plus : Array (Option Value)} {oc_plus kV_plus dc_plus pm_plus cd_plus ct_plus : Value} {f_minus : Addr} {od_minus an_minus : Option Addr} {sl_minus : Array (Option Value)} {oc_minus kV_minus dc_minus pm_minus cd_minus ct_minus : Value} {f_times : Addr} {od_times an_times : Option Addr} {sl_times : Array (Option Value)} {oc_times kV_times dc_times pm_times cd_times ct_times : Value} {f_append_digit : Addr} {od_append_digit an_append_digit : Option Addr} {sl_append_digit : Array (Option Value)} {oc_append_digit kV_append_digit dc_append_digit pm_append_digit cd_append_digit ct_append_digit : Value} {f_is_less : Addr} {od_is_less an_is_less : Option Addr} {sl_is_less : Array (Option Value)} {oc_is_less kV_is_less dc_is_less pm_is_less cd_is_less ct_is_less : Value} {f_is_equal : Addr} {od_is_equal an_is_equal : Option Addr} {sl_is_equal : Array (Option Value)} {oc_is_equal kV_is_equal dc_is_equal pm_is_equal cd_is_equal ct_is_equal : Value} {f_Machine_init : Addr} {od_Machine_init an_Machine_init : Option Addr} {sl_Machine_init : Array (Option Value)} {oc_Machine_init kV_Machine_init dc_Machine_init pm_Machine_init cd_Machine_init ct_Machine_init : Value} {f_Machine_push : Addr} {od_Machine_push an_Machine_push : Option Addr} {sl_Machine_push : Array (Option Value)} {oc_Machine_push kV_Machine_push dc_Machine_push pm_Machine_push cd_Machine_push ct_Machine_push : Value} {f_Machine_take : Addr} {od_Machine_take an_Machine_take : Option Addr} {sl_Machine_take : Array (Option Value)} {oc_Machine_take kV_Machine_take dc_Machine_take pm_Machine_take cd_Machine_take ct_Machine_take : Value} {f_Machine_push_number : Addr} {od_Machine_push_number an_Machine_push_number : Option Addr} {sl_Machine_push_number : Array (Option Value)} {oc_Machine_push_number kV_Machine_push_number dc_Machine_push_number pm_Machine_push_number cd_Machine_push_number ct_Machine_push_number : Value} {f_Machine_combine : Addr} {od_Machine_combine an_Machine_combine : Option Addr} {sl_Machine_combine : Array (Option Value)} {oc_Machine_combine kV_Machine_combine dc_Machine_combine pm_Machine_combine cd_Machine_combine ct_Machine_combine : Value} {f_Machine_move : Addr} {od_Machine_move an_Machine_move : Option Addr} {sl_Machine_move : Array (Option Value)} {oc_Machine_move kV_Machine_move dc_Machine_move pm_Machine_move cd_Machine_move ct_Machine_move : Value} {f_Machine_jump : Addr} {od_Machine_jump an_Machine_jump : Option Addr} {sl_Machine_jump : Array (Option Value)} {oc_Machine_jump kV_Machine_jump dc_Machine_jump pm_Machine_jump cd_Machine_jump ct_Machine_jump : Value} {f_Machine_settle : Addr} {od_Machine_settle an_Machine_settle : Option Addr} {sl_Machine_settle : Array (Option Value)} {oc_Machine_settle kV_Machine_settle dc_Machine_settle pm_Machine_settle cd_Machine_settle ct_Machine_settle : Value} {f_Machine_perform : Addr} {od_Machine_perform an_Machine_perform : Option Addr} {sl_Machine_perform : Array (Option Value)} {oc_Machine_perform kV_Machine_perform dc_Machine_perform pm_Machine_perform cd_Machine_perform ct_Machine_perform : Value} {f_Machine_finish : Addr} {od_Machine_finish an_Machine_finish : Option Addr} {sl_Machine_finish : Array (Option Value)} {oc_Machine_finish kV_Machine_finish dc_Machine_finish pm_Machine_finish cd_Machine_finish ct_Machine_finish : Value} {f_law_cell : Addr} {od_law_cell an_law_cell : Option Addr} {sl_law_cell : Array (Option Value)} {oc_law_cell kV_law_cell dc_law_cell pm_law_cell cd_law_cell ct_law_cell : Value} {f_law_is_integer : Addr} {od_law_is_integer an_law_is_integer : Option Addr} {sl_law_is_integer : Array (Option Value)} {oc_law_is_integer kV_law_is_integer dc_law_is_integer pm_law_is_integer cd_law_is_integer ct_law_is_integer : Value} {f_law_row : Addr} {od_law_row an_law_row : Option Addr} {sl_law_row : Array (Option Value)} {oc_law_row kV_law_row dc_law_row pm_law_row cd_law_row ct_law_row : Value} {f_law_reckon : Addr} {od_law_reckon an_law_reckon : Option Addr} {sl_law_reckon : Array (Option Value)} {oc_law_reckon kV_law_reckon dc_law_reckon pm_law_reckon cd_law_reckon ct_law_reckon : Value} {f_law_need : Addr} {od_law_need an_law_need : Option Addr} {sl_law_need : Array (Option Value)} {oc_law_need kV_law_need dc_law_need pm_law_need cd_law_need ct_law_need : Value} {f_law_act : Addr} {od_law_act an_law_act : Option Addr} {sl_law_act : Array (Option Value)} {oc_law_act kV_law_act dc_law_act pm_law_act cd_law_act ct_law_act : Value} {f_law_sign : Addr} {od_law_sign an_law_sign : Option Addr} {sl_law_sign : Array (Option Value)} {oc_law_sign kV_law_sign dc_law_sign pm_law_sign cd_law_sign ct_law_sign : Value} {f_law_run : Addr} {od_law_run an_law_run : Option Addr} {sl_law_run : Array (Option Value)} {oc_law_run kV_law_run dc_law_run pm_law_run cd_law_run ct_law_run : Value} {f_law : Addr} {od_law an_law : Option Addr} {sl_law : Array (Option Value)} {oc_law kV_law dc_law pm_law cd_law ct_law : Value} {P_OF_TWO : Addr} {n_OF_TWO : Nat} {h_OF_TWO_a h_OF_TWO_s h_OF_TWO_m h_OF_TWO_t h_OF_TWO_c h_OF_TWO_e : Int} {t_OF_TWO_a t_OF_TWO_s t_OF_TWO_m t_OF_TWO_t t_OF_TWO_c t_OF_TWO_e : Tok} {C_Failed : Addr}
    (c_DIGITS : PySem.W.nsIn K mainGlobals "DIGITS" = some (some (.str "0123456789" t_DIGITS)))
    (c_MODULUS : PySem.W.nsIn K mainGlobals "MODULUS" = some (some (.int 1000000 t_MODULUS)))
    (c_MOST_VALUES : PySem.W.nsIn K mainGlobals "MOST_VALUES" = some (some (.int 16 t_MOST_VALUES)))
    (c_MOST_STEPS : PySem.W.nsIn K mainGlobals "MOST_STEPS" = some (some (.int 200 t_MOST_STEPS)))
    (n_len : PySem.W.nsIn K mainGlobals "len" = some none)
    (n_range : PySem.W.nsIn K mainGlobals "range" = some none)
    (n_isinstance : PySem.W.nsIn K mainGlobals "isinstance" = some none)
    (n_int : PySem.W.nsIn K mainGlobals "int" = some none)
    (n_bool : PySem.W.nsIn K mainGlobals "bool" = some none)
    (n_list : PySem.W.nsIn K mainGlobals "list" = some none)
    (n_tuple : PySem.W.nsIn K mainGlobals "tuple" = some none)
    (n_str : PySem.W.nsIn K mainGlobals "str" = some none)
    (n_dict : PySem.W.nsIn K mainGlobals "dict" = some none)
    (n_sorted : PySem.W.nsIn K mainGlobals "sorted" = some none)
    (n_max : PySem.W.nsIn K mainGlobals "max" = some none)
    (g_Run : PySem.W.nsIn K mainGlobals "Run" = some (some (.ref C_Run)))
    (g_Machine : PySem.W.nsIn K mainGlobals "Machine" = some (some (.ref C_Machine)))
    (a_Run_init : PySem.W.findIn K (.ref C_Run) "__init__" = some (some (.ref f_Run_init)))
    (i_Run_init : PySem.W.isFn K (.ref f_Run_init) = true)
    (l_Run_init : K.lookup f_Run_init = some ⟨oc_Run_init, od_Run_init, .func (PySem.W.fnOf "__init__" "Run.__init__" (defArgs s_Run_init) (defBody s_Run_init) (defScope s_Run_init) .none kV_Run_init dc_Run_init pm_Run_init an_Run_init cd_Run_init ct_Run_init), sl_Run_init⟩)
    (q_Run_init : PySem.W.codeIn K cd_Run_init "Run.__init__" = true)
    (k_Run_init : PySem.W.keepIn K (.ref f_Run_init) = true)
    (a_run : PySem.W.nsIn K mainGlobals "run" = some (some (.ref f_run)))
    (l_run : K.lookup f_run = some ⟨oc_run, od_run, .func (PySem.W.fnOf "run" "run" (defArgs s_run) (defBody s_run) (defScope s_run) .none kV_run dc_run pm_run an_run cd_run ct_run), sl_run⟩)
    (q_run : PySem.W.codeIn K cd_run "run" = true)
    (k_run : PySem.W.keepIn K (.ref f_run) = true)
    (a_plus : PySem.W.nsIn K mainGlobals "_plus" = some (some (.ref f_plus)))
    (l_plus : K.lookup f_plus = some ⟨oc_plus, od_plus, .func (PySem.W.fnOf "_plus" "_plus" (defArgs s_plus) (defBody s_plus) (defScope s_plus) .none kV_plus dc_plus pm_plus an_plus cd_plus ct_plus), sl_plus⟩)
    (q_plus : PySem.W.codeIn K cd_plus "_plus" = true)
    (k_plus : PySem.W.keepIn K (.ref f_plus) = true)
    (a_minus : PySem.W.nsIn K mainGlobals "_minus" = some (some (.ref f_minus)))
    (l_minus : K.lookup f_minus = some ⟨oc_minus, od_minus, .func (PySem.W.fnOf "_minus" "_minus" (defArgs s_minus) (defBody s_minus) (defScope s_minus) .none kV_minus dc_minus pm_minus an_minus cd_minus ct_minus), sl_minus⟩)
    (q_minus : PySem.W.codeIn K cd_minus "_minus" = true)
    (k_minus : PySem.W.keepIn K (.ref f_minus) = true)
    (a_times : PySem.W.nsIn K mainGlobals "_times" = some (some (.ref f_times)))
    (l_times : K.lookup f_times = some ⟨oc_times, od_times, .func (PySem.W.fnOf "_times" "_times" (defArgs s_times) (defBody s_times) (defScope s_times) .none kV_times dc_times pm_times an_times cd_times ct_times), sl_times⟩)
    (q_times : PySem.W.codeIn K cd_times "_times" = true)
    (k_times : PySem.W.keepIn K (.ref f_times) = true)
    (a_append_digit : PySem.W.nsIn K mainGlobals "_append_digit" = some (some (.ref f_append_digit)))
    (l_append_digit : K.lookup f_append_digit = some ⟨oc_append_digit, od_append_digit, .func (PySem.W.fnOf "_append_digit" "_append_digit" (defArgs s_append_digit) (defBody s_append_digit) (defScope s_append_digit) .none kV_append_digit dc_append_digit pm_append_digit an_append_digit cd_append_digit ct_append_digit), sl_append_digit⟩)
    (q_append_digit : PySem.W.codeIn K cd_append_digit "_append_digit" = true)
    (k_append_digit : PySem.W.keepIn K (.ref f_append_digit) = true)
    (a_is_less : PySem.W.nsIn K mainGlobals "_is_less" = some (some (.ref f_is_less)))
    (l_is_less : K.lookup f_is_less = some ⟨oc_is_less, od_is_less, .func (PySem.W.fnOf "_is_less" "_is_less" (defArgs s_is_less) (defBody s_is_less) (defScope s_is_less) .none kV_is_less dc_is_less pm_is_less an_is_less cd_is_less ct_is_less), sl_is_less⟩)
    (q_is_less : PySem.W.codeIn K cd_is_less "_is_less" = true)
    (k_is_less : PySem.W.keepIn K (.ref f_is_less) = true)
    (a_is_equal : PySem.W.nsIn K mainGlobals "_is_equal" = some (some (.ref f_is_equal)))
    (l_is_equal : K.lookup f_is_equal = some ⟨oc_is_equal, od_is_equal, .func (PySem.W.fnOf "_is_equal" "_is_equal" (defArgs s_is_equal) (defBody s_is_equal) (defScope s_is_equal) .none kV_is_equal dc_is_equal pm_is_equal an_is_equal cd_is_equal ct_is_equal), sl_is_equal⟩)
    (q_is_equal : PySem.W.codeIn K cd_is_equal "_is_equal" = true)
    (k_is_equal : PySem.W.keepIn K (.ref f_is_equal) = true)
    (a_Machine_init : PySem.W.findIn K (.ref C_Machine) "__init__" = some (some (.ref f_Machine_init)))
    (i_Machine_init : PySem.W.isFn K (.ref f_Machine_init) = true)
    (l_Machine_init : K.lookup f_Machine_init = some ⟨oc_Machine_init, od_Machine_init, .func (PySem.W.fnOf "__init__" "Machine.__init__" (defArgs s_Machine_init) (defBody s_Machine_init) (defScope s_Machine_init) .none kV_Machine_init dc_Machine_init pm_Machine_init an_Machine_init cd_Machine_init ct_Machine_init), sl_Machine_init⟩)
    (q_Machine_init : PySem.W.codeIn K cd_Machine_init "Machine.__init__" = true)
    (k_Machine_init : PySem.W.keepIn K (.ref f_Machine_init) = true)
    (a_Machine_push : PySem.W.findIn K (.ref C_Machine) "push" = some (some (.ref f_Machine_push)))
    (i_Machine_push : PySem.W.isFn K (.ref f_Machine_push) = true)
    (l_Machine_push : K.lookup f_Machine_push = some ⟨oc_Machine_push, od_Machine_push, .func (PySem.W.fnOf "push" "Machine.push" (defArgs s_Machine_push) (defBody s_Machine_push) (defScope s_Machine_push) .none kV_Machine_push dc_Machine_push pm_Machine_push an_Machine_push cd_Machine_push ct_Machine_push), sl_Machine_push⟩)
    (q_Machine_push : PySem.W.codeIn K cd_Machine_push "Machine.push" = true)
    (k_Machine_push : PySem.W.keepIn K (.ref f_Machine_push) = true)
    (a_Machine_take : PySem.W.findIn K (.ref C_Machine) "take" = some (some (.ref f_Machine_take)))
    (i_Machine_take : PySem.W.isFn K (.ref f_Machine_take) = true)
    (l_Machine_take : K.lookup f_Machine_take = some ⟨oc_Machine_take, od_Machine_take, .func (PySem.W.fnOf "take" "Machine.take" (defArgs s_Machine_take) (defBody s_Machine_take) (defScope s_Machine_take) .none kV_Machine_take dc_Machine_take pm_Machine_take an_Machine_take cd_Machine_take ct_Machine_take), sl_Machine_take⟩)
    (q_Machine_take : PySem.W.codeIn K cd_Machine_take "Machine.take" = true)
    (k_Machine_take : PySem.W.keepIn K (.ref f_Machine_take) = true)
    (a_Machine_push_number : PySem.W.findIn K (.ref C_Machine) "push_number" = some (some (.ref f_Machine_push_number)))
    (i_Machine_push_number : PySem.W.isFn K (.ref f_Machine_push_number) = true)
    (l_Machine_push_number : K.lookup f_Machine_push_number = some ⟨oc_Machine_push_number, od_Machine_push_number, .func (PySem.W.fnOf "push_number" "Machine.push_number" (defArgs s_Machine_push_number) (defBody s_Machine_push_number) (defScope s_Machine_push_number) .none kV_Machine_push_number dc_Machine_push_number pm_Machine_push_number an_Machine_push_number cd_Machine_push_number ct_Machine_push_number), sl_Machine_push_number⟩)
    (q_Machine_push_number : PySem.W.codeIn K cd_Machine_push_number "Machine.push_number" = true)
    (k_Machine_push_number : PySem.W.keepIn K (.ref f_Machine_push_number) = true)
    (a_Machine_combine : PySem.W.findIn K (.ref C_Machine) "combine" = some (some (.ref f_Machine_combine)))
    (i_Machine_combine : PySem.W.isFn K (.ref f_Machine_combine) = true)
    (l_Machine_combine : K.lookup f_Machine_combine = some ⟨oc_Machine_combine, od_Machine_combine, .func (PySem.W.fnOf "combine" "Machine.combine" (defArgs s_Machine_combine) (defBody s_Machine_combine) (defScope s_Machine_combine) .none kV_Machine_combine dc_Machine_combine pm_Machine_combine an_Machine_combine cd_Machine_combine ct_Machine_combine), sl_Machine_combine⟩)
    (q_Machine_combine : PySem.W.codeIn K cd_Machine_combine "Machine.combine" = true)
    (k_Machine_combine : PySem.W.keepIn K (.ref f_Machine_combine) = true)
    (a_Machine_move : PySem.W.findIn K (.ref C_Machine) "move" = some (some (.ref f_Machine_move)))
    (i_Machine_move : PySem.W.isFn K (.ref f_Machine_move) = true)
    (l_Machine_move : K.lookup f_Machine_move = some ⟨oc_Machine_move, od_Machine_move, .func (PySem.W.fnOf "move" "Machine.move" (defArgs s_Machine_move) (defBody s_Machine_move) (defScope s_Machine_move) .none kV_Machine_move dc_Machine_move pm_Machine_move an_Machine_move cd_Machine_move ct_Machine_move), sl_Machine_move⟩)
    (q_Machine_move : PySem.W.codeIn K cd_Machine_move "Machine.move" = true)
    (k_Machine_move : PySem.W.keepIn K (.ref f_Machine_move) = true)
    (a_Machine_jump : PySem.W.findIn K (.ref C_Machine) "jump" = some (some (.ref f_Machine_jump)))
    (i_Machine_jump : PySem.W.isFn K (.ref f_Machine_jump) = true)
    (l_Machine_jump : K.lookup f_Machine_jump = some ⟨oc_Machine_jump, od_Machine_jump, .func (PySem.W.fnOf "jump" "Machine.jump" (defArgs s_Machine_jump) (defBody s_Machine_jump) (defScope s_Machine_jump) .none kV_Machine_jump dc_Machine_jump pm_Machine_jump an_Machine_jump cd_Machine_jump ct_Machine_jump), sl_Machine_jump⟩)
    (q_Machine_jump : PySem.W.codeIn K cd_Machine_jump "Machine.jump" = true)
    (k_Machine_jump : PySem.W.keepIn K (.ref f_Machine_jump) = true)
    (a_Machine_settle : PySem.W.findIn K (.ref C_Machine) "settle" = some (some (.ref f_Machine_settle)))
    (i_Machine_settle : PySem.W.isFn K (.ref f_Machine_settle) = true)
    (l_Machine_settle : K.lookup f_Machine_settle = some ⟨oc_Machine_settle, od_Machine_settle, .func (PySem.W.fnOf "settle" "Machine.settle" (defArgs s_Machine_settle) (defBody s_Machine_settle) (defScope s_Machine_settle) .none kV_Machine_settle dc_Machine_settle pm_Machine_settle an_Machine_settle cd_Machine_settle ct_Machine_settle), sl_Machine_settle⟩)
    (q_Machine_settle : PySem.W.codeIn K cd_Machine_settle "Machine.settle" = true)
    (k_Machine_settle : PySem.W.keepIn K (.ref f_Machine_settle) = true)
    (a_Machine_perform : PySem.W.findIn K (.ref C_Machine) "perform" = some (some (.ref f_Machine_perform)))
    (i_Machine_perform : PySem.W.isFn K (.ref f_Machine_perform) = true)
    (l_Machine_perform : K.lookup f_Machine_perform = some ⟨oc_Machine_perform, od_Machine_perform, .func (PySem.W.fnOf "perform" "Machine.perform" (defArgs s_Machine_perform) (defBody s_Machine_perform) (defScope s_Machine_perform) .none kV_Machine_perform dc_Machine_perform pm_Machine_perform an_Machine_perform cd_Machine_perform ct_Machine_perform), sl_Machine_perform⟩)
    (q_Machine_perform : PySem.W.codeIn K cd_Machine_perform "Machine.perform" = true)
    (k_Machine_perform : PySem.W.keepIn K (.ref f_Machine_perform) = true)
    (a_Machine_finish : PySem.W.findIn K (.ref C_Machine) "finish" = some (some (.ref f_Machine_finish)))
    (i_Machine_finish : PySem.W.isFn K (.ref f_Machine_finish) = true)
    (l_Machine_finish : K.lookup f_Machine_finish = some ⟨oc_Machine_finish, od_Machine_finish, .func (PySem.W.fnOf "finish" "Machine.finish" (defArgs s_Machine_finish) (defBody s_Machine_finish) (defScope s_Machine_finish) .none kV_Machine_finish dc_Machine_finish pm_Machine_finish an_Machine_finish cd_Machine_finish ct_Machine_finish), sl_Machine_finish⟩)
    (q_Machine_finish : PySem.W.codeIn K cd_Machine_finish "Machine.finish" = true)
    (k_Machine_finish : PySem.W.keepIn K (.ref f_Machine_finish) = true)
    (a_law_cell : PySem.W.nsIn K mainGlobals "_law_cell" = some (some (.ref f_law_cell)))
    (l_law_cell : K.lookup f_law_cell = some ⟨oc_law_cell, od_law_cell, .func (PySem.W.fnOf "_law_cell" "_law_cell" (defArgs s_law_cell) (defBody s_law_cell) (defScope s_law_cell) .none kV_law_cell dc_law_cell pm_law_cell an_law_cell cd_law_cell ct_law_cell), sl_law_cell⟩)
    (q_law_cell : PySem.W.codeIn K cd_law_cell "_law_cell" = true)
    (k_law_cell : PySem.W.keepIn K (.ref f_law_cell) = true)
    (a_law_is_integer : PySem.W.nsIn K mainGlobals "_law_is_integer" = some (some (.ref f_law_is_integer)))
    (l_law_is_integer : K.lookup f_law_is_integer = some ⟨oc_law_is_integer, od_law_is_integer, .func (PySem.W.fnOf "_law_is_integer" "_law_is_integer" (defArgs s_law_is_integer) (defBody s_law_is_integer) (defScope s_law_is_integer) .none kV_law_is_integer dc_law_is_integer pm_law_is_integer an_law_is_integer cd_law_is_integer ct_law_is_integer), sl_law_is_integer⟩)
    (q_law_is_integer : PySem.W.codeIn K cd_law_is_integer "_law_is_integer" = true)
    (k_law_is_integer : PySem.W.keepIn K (.ref f_law_is_integer) = true)
    (a_law_row : PySem.W.nsIn K mainGlobals "_law_row" = some (some (.ref f_law_row)))
    (l_law_row : K.lookup f_law_row = some ⟨oc_law_row, od_law_row, .func (PySem.W.fnOf "_law_row" "_law_row" (defArgs s_law_row) (defBody s_law_row) (defScope s_law_row) .none kV_law_row dc_law_row pm_law_row an_law_row cd_law_row ct_law_row), sl_law_row⟩)
    (q_law_row : PySem.W.codeIn K cd_law_row "_law_row" = true)
    (k_law_row : PySem.W.keepIn K (.ref f_law_row) = true)
    (a_law_reckon : PySem.W.nsIn K mainGlobals "_law_reckon" = some (some (.ref f_law_reckon)))
    (l_law_reckon : K.lookup f_law_reckon = some ⟨oc_law_reckon, od_law_reckon, .func (PySem.W.fnOf "_law_reckon" "_law_reckon" (defArgs s_law_reckon) (defBody s_law_reckon) (defScope s_law_reckon) .none kV_law_reckon dc_law_reckon pm_law_reckon an_law_reckon cd_law_reckon ct_law_reckon), sl_law_reckon⟩)
    (q_law_reckon : PySem.W.codeIn K cd_law_reckon "_law_reckon" = true)
    (k_law_reckon : PySem.W.keepIn K (.ref f_law_reckon) = true)
    (a_law_need : PySem.W.nsIn K mainGlobals "_law_need" = some (some (.ref f_law_need)))
    (l_law_need : K.lookup f_law_need = some ⟨oc_law_need, od_law_need, .func (PySem.W.fnOf "_law_need" "_law_need" (defArgs s_law_need) (defBody s_law_need) (defScope s_law_need) .none kV_law_need dc_law_need pm_law_need an_law_need cd_law_need ct_law_need), sl_law_need⟩)
    (q_law_need : PySem.W.codeIn K cd_law_need "_law_need" = true)
    (k_law_need : PySem.W.keepIn K (.ref f_law_need) = true)
    (a_law_act : PySem.W.nsIn K mainGlobals "_law_act" = some (some (.ref f_law_act)))
    (l_law_act : K.lookup f_law_act = some ⟨oc_law_act, od_law_act, .func (PySem.W.fnOf "_law_act" "_law_act" (defArgs s_law_act) (defBody s_law_act) (defScope s_law_act) .none kV_law_act dc_law_act pm_law_act an_law_act cd_law_act ct_law_act), sl_law_act⟩)
    (q_law_act : PySem.W.codeIn K cd_law_act "_law_act" = true)
    (k_law_act : PySem.W.keepIn K (.ref f_law_act) = true)
    (a_law_sign : PySem.W.nsIn K mainGlobals "_law_sign" = some (some (.ref f_law_sign)))
    (l_law_sign : K.lookup f_law_sign = some ⟨oc_law_sign, od_law_sign, .func (PySem.W.fnOf "_law_sign" "_law_sign" (defArgs s_law_sign) (defBody s_law_sign) (defScope s_law_sign) .none kV_law_sign dc_law_sign pm_law_sign an_law_sign cd_law_sign ct_law_sign), sl_law_sign⟩)
    (q_law_sign : PySem.W.codeIn K cd_law_sign "_law_sign" = true)
    (k_law_sign : PySem.W.keepIn K (.ref f_law_sign) = true)
    (a_law_run : PySem.W.nsIn K mainGlobals "_law_run" = some (some (.ref f_law_run)))
    (l_law_run : K.lookup f_law_run = some ⟨oc_law_run, od_law_run, .func (PySem.W.fnOf "_law_run" "_law_run" (defArgs s_law_run) (defBody s_law_run) (defScope s_law_run) .none kV_law_run dc_law_run pm_law_run an_law_run cd_law_run ct_law_run), sl_law_run⟩)
    (q_law_run : PySem.W.codeIn K cd_law_run "_law_run" = true)
    (k_law_run : PySem.W.keepIn K (.ref f_law_run) = true)
    (a_law : PySem.W.nsIn K mainGlobals "law" = some (some (.ref f_law)))
    (l_law : K.lookup f_law = some ⟨oc_law, od_law, .func (PySem.W.fnOf "law" "law" (defArgs s_law) (defBody s_law) (defScope s_law) .none kV_law dc_law pm_law an_law cd_law ct_law), sl_law⟩)
    (q_law : PySem.W.codeIn K cd_law "law" = true)
    (k_law : PySem.W.keepIn K (.ref f_law) = true)
    (pg_Run : PySem.W.plainGet K C_Run Str.empty = true)
    (hd_Run : PySem.W.hasDictIn K C_Run = true)
    (po_Run : PySem.W.plainOver K C_Run = true)
    (sa_Run : PySem.W.findIn K (.ref C_Run) "__setattr__" = some (some (.builtin "object.__setattr__")))
    (mk_Run : PySem.W.makesIn K C_Run = true)
    (kc_Run : PySem.W.keepIn K (.ref C_Run) = true)
    (no_Run_well : PySem.W.findIn K (.ref C_Run) "well" = some none)
    (no_Run_store : PySem.W.findIn K (.ref C_Run) "store" = some none)
    (no_Run_paid : PySem.W.findIn K (.ref C_Run) "paid" = some none)
    (no_Run_steps : PySem.W.findIn K (.ref C_Run) "steps" = some none)
    (pg_Machine : PySem.W.plainGet K C_Machine Str.empty = true)
    (hd_Machine : PySem.W.hasDictIn K C_Machine = true)
    (po_Machine : PySem.W.plainOver K C_Machine = true)
    (sa_Machine : PySem.W.findIn K (.ref C_Machine) "__setattr__" = some (some (.builtin "object.__setattr__")))
    (mk_Machine : PySem.W.makesIn K C_Machine = true)
    (kc_Machine : PySem.W.keepIn K (.ref C_Machine) = true)
    (no_Machine_code : PySem.W.findIn K (.ref C_Machine) "code" = some none)
    (no_Machine_given : PySem.W.findIn K (.ref C_Machine) "given" = some none)
    (no_Machine_amount : PySem.W.findIn K (.ref C_Machine) "amount" = some none)
    (no_Machine_store : PySem.W.findIn K (.ref C_Machine) "store" = some none)
    (no_Machine_stack : PySem.W.findIn K (.ref C_Machine) "stack" = some none)
    (no_Machine_place : PySem.W.findIn K (.ref C_Machine) "place" = some none)
    (no_Machine_paid : PySem.W.findIn K (.ref C_Machine) "paid" = some none)
    (no_Machine_steps : PySem.W.findIn K (.ref C_Machine) "steps" = some none)
    (g_OF_TWO : PySem.W.nsIn K mainGlobals "OF_TWO" = some (some (.ref P_OF_TWO)))
    (l_OF_TWO : K.lookup P_OF_TWO = some ⟨.type "dict", none, .dict #[⟨h_OF_TWO_a, .str "a" t_OF_TWO_a, .ref f_plus⟩, ⟨h_OF_TWO_s, .str "s" t_OF_TWO_s, .ref f_minus⟩, ⟨h_OF_TWO_m, .str "m" t_OF_TWO_m, .ref f_times⟩, ⟨h_OF_TWO_t, .str "t" t_OF_TWO_t, .ref f_append_digit⟩, ⟨h_OF_TWO_c, .str "c" t_OF_TWO_c, .ref f_is_less⟩, ⟨h_OF_TWO_e, .str "e" t_OF_TWO_e, .ref f_is_equal⟩] n_OF_TWO, #[]⟩)
    (kl_OF_TWO : PySem.W.KeysLit w.params [⟨h_OF_TWO_a, .str "a" t_OF_TWO_a, .ref f_plus⟩, ⟨h_OF_TWO_s, .str "s" t_OF_TWO_s, .ref f_minus⟩, ⟨h_OF_TWO_m, .str "m" t_OF_TWO_m, .ref f_times⟩, ⟨h_OF_TWO_t, .str "t" t_OF_TWO_t, .ref f_append_digit⟩, ⟨h_OF_TWO_c, .str "c" t_OF_TWO_c, .ref f_is_less⟩, ⟨h_OF_TWO_e, .str "e" t_OF_TWO_e, .ref f_is_equal⟩])
    (lo_OF_TWO : (P_OF_TWO == sysModules) = false)
    (g_Failed : PySem.W.nsIn K mainGlobals "Failed" = some (some (.ref C_Failed)))
    (x_Failed : PySem.W.excIn K C_Failed [.type "ValueError", .type "Exception", .type "BaseException", .type "object"] "ValueError.__new__" = true)
    (kc_Failed : PySem.W.keepIn K (.ref C_Failed) = true)
    (b_Failed : PySem.W.subIn K (.ref C_Failed) (.type "BaseException") = some true)
    (t_Failed : PySem.W.typeIn K (.ref C_Failed) = some (.type "type"))
    (xga_Failed : PySem.W.findIn K (.ref C_Failed) "__getattribute__" = some (some (.builtin "BaseException.__getattribute__")))
    (xgt_Failed : PySem.W.findIn K (.ref C_Failed) "__getattr__" = some none)
    (xhd_Failed : PySem.W.hasDictIn K C_Failed = true)
    (xcc_Failed : PySem.W.findIn K (.ref C_Failed) "__class__" = some (some (.builtin "object.__class__")))
    (xsp_Failed : PySem.W.specialIn K (.builtin "object.__class__") "__get__" = some (some (.builtin "getset_descriptor.__get__")))
    (xtk_Failed : PySem.W.takesIn K (.builtin "object.__class__") = some true)
    (xmo_Failed : PySem.W.mroIn K C_Failed (.type "object") = some true)
    (te1_Failed : PySem.W.subIn K (.ref C_Failed) (.type "BaseException") = some true)
    (te2_Failed : PySem.W.hasDictIn K C_Failed = true)
    (te3_Failed : PySem.W.typeIn K (.ref C_Failed) = some (.type "type"))
    (te4_Failed_Failed : PySem.W.subIn K (.ref C_Failed) (.ref C_Failed) = some true) :
    ∃ fd : FuncData, (∀ (s : Shared) (v : Value), BindsTo s fd ⟨[v], []⟩ [("script", v)]) ∧ ∀ base : Heap, K.In base → base.Ns mainGlobals mg → FnOk l.prog w K mg base CX0 8 fa fd ["script"] (spLaw K) := by
  have e := hfa.symm.trans (PySem.W.mg_of X G a_law)
  cases e
  have T : Txt K mg ⟨C_Run, C_Machine, f_Run_init, f_run, f_plus, f_minus, f_times, f_append_digit, f_is_less, f_is_equal, f_Machine_init, f_Machine_push, f_Machine_take, f_Machine_push_number, f_Machine_combine, f_Machine_move, f_Machine_jump, f_Machine_settle, f_Machine_perform, f_Machine_finish, f_law_cell, f_law_is_integer, f_law_row, f_law_reckon, f_law_need, f_law_act, f_law_sign, f_law_run, C_Failed, P_OF_TWO⟩ := {
    n_len := mg_no X G n_len
    n_range := mg_no X G n_range
    n_isinstance := mg_no X G n_isinstance
    n_int := mg_no X G n_int
    n_bool := mg_no X G n_bool
    n_list := mg_no X G n_list
    n_tuple := mg_no X G n_tuple
    n_str := mg_no X G n_str
    n_dict := mg_no X G n_dict
    n_sorted := mg_no X G n_sorted
    n_max := mg_no X G n_max
    c_DIGITS := ⟨_, PySem.W.mg_of X G c_DIGITS⟩
    c_MODULUS := ⟨_, PySem.W.mg_of X G c_MODULUS⟩
    c_MOST_VALUES := ⟨_, PySem.W.mg_of X G c_MOST_VALUES⟩
    c_MOST_STEPS := ⟨_, PySem.W.mg_of X G c_MOST_STEPS⟩
    g_Run := PySem.W.mg_of X G g_Run
    cl_Run := ⟨pg_Run, hd_Run, po_Run, sa_Run⟩
    kc_Run := kc_Run
    mk_Run := mk_Run
    a_Run_well := no_Run_well
    a_Run_store := no_Run_store
    a_Run_paid := no_Run_paid
    a_Run_steps := no_Run_steps
    g_Machine := PySem.W.mg_of X G g_Machine
    cl_Machine := ⟨pg_Machine, hd_Machine, po_Machine, sa_Machine⟩
    kc_Machine := kc_Machine
    mk_Machine := mk_Machine
    a_Machine_code := no_Machine_code
    a_Machine_given := no_Machine_given
    a_Machine_amount := no_Machine_amount
    a_Machine_store := no_Machine_store
    a_Machine_stack := no_Machine_stack
    a_Machine_place := no_Machine_place
    a_Machine_paid := no_Machine_paid
    a_Machine_steps := no_Machine_steps
    d_Run_init := ⟨def_mk l_Run_init q_Run_init k_Run_init (fun _ _ _ _ _ _ us hl => match us, hl with | [_, _, _, _, _], _ => rfl), a_Run_init, i_Run_init, k_Run_init⟩
    d_run := ⟨def_mk l_run q_run k_run (fun _ _ _ _ _ _ us hl => match us, hl with | [_, _, _, _], _ => rfl), PySem.W.mg_of X G a_run, k_run⟩
    d_plus := ⟨def_mk l_plus q_plus k_plus (fun _ _ _ _ _ _ us hl => match us, hl with | [_, _], _ => rfl), PySem.W.mg_of X G a_plus, k_plus⟩
    d_minus := ⟨def_mk l_minus q_minus k_minus (fun _ _ _ _ _ _ us hl => match us, hl with | [_, _], _ => rfl), PySem.W.mg_of X G a_minus, k_minus⟩
    d_times := ⟨def_mk l_times q_times k_times (fun _ _ _ _ _ _ us hl => match us, hl with | [_, _], _ => rfl), PySem.W.mg_of X G a_times, k_times⟩
    d_append_digit := ⟨def_mk l_append_digit q_append_digit k_append_digit (fun _ _ _ _ _ _ us hl => match us, hl with | [_, _], _ => rfl), PySem.W.mg_of X G a_append_digit, k_append_digit⟩
    d_is_less := ⟨def_mk l_is_less q_is_less k_is_less (fun _ _ _ _ _ _ us hl => match us, hl with | [_, _], _ => rfl), PySem.W.mg_of X G a_is_less, k_is_less⟩
    d_is_equal := ⟨def_mk l_is_equal q_is_equal k_is_equal (fun _ _ _ _ _ _ us hl => match us, hl with | [_, _], _ => rfl), PySem.W.mg_of X G a_is_equal, k_is_equal⟩
    d_Machine_init := ⟨def_mk l_Machine_init q_Machine_init k_Machine_init (fun _ _ _ _ _ _ us hl => match us, hl with | [_, _, _, _, _], _ => rfl), a_Machine_init, i_Machine_init, k_Machine_init⟩
    d_Machine_push := ⟨def_mk l_Machine_push q_Machine_push k_Machine_push (fun _ _ _ _ _ _ us hl => match us, hl with | [_, _], _ => rfl), a_Machine_push, i_Machine_push, k_Machine_push⟩
    d_Machine_take := ⟨def_mk l_Machine_take q_Machine_take k_Machine_take (fun _ _ _ _ _ _ us hl => match us, hl with | [_], _ => rfl), a_Machine_take, i_Machine_take, k_Machine_take⟩
    d_Machine_push_number := ⟨def_mk l_Machine_push_number q_Machine_push_number k_Machine_push_number (fun _ _ _ _ _ _ us hl => match us, hl with | [_, _], _ => rfl), a_Machine_push_number, i_Machine_push_number, k_Machine_push_number⟩
    d_Machine_combine := ⟨def_mk l_Machine_combine q_Machine_combine k_Machine_combine (fun _ _ _ _ _ _ us hl => match us, hl with | [_, _], _ => rfl), a_Machine_combine, i_Machine_combine, k_Machine_combine⟩
    d_Machine_move := ⟨def_mk l_Machine_move q_Machine_move k_Machine_move (fun _ _ _ _ _ _ us hl => match us, hl with | [_, _], _ => rfl), a_Machine_move, i_Machine_move, k_Machine_move⟩
    d_Machine_jump := ⟨def_mk l_Machine_jump q_Machine_jump k_Machine_jump (fun _ _ _ _ _ _ us hl => match us, hl with | [_, _], _ => rfl), a_Machine_jump, i_Machine_jump, k_Machine_jump⟩
    d_Machine_settle := ⟨def_mk l_Machine_settle q_Machine_settle k_Machine_settle (fun _ _ _ _ _ _ us hl => match us, hl with | [_, _], _ => rfl), a_Machine_settle, i_Machine_settle, k_Machine_settle⟩
    d_Machine_perform := ⟨def_mk l_Machine_perform q_Machine_perform k_Machine_perform (fun _ _ _ _ _ _ us hl => match us, hl with | [_, _], _ => rfl), a_Machine_perform, i_Machine_perform, k_Machine_perform⟩
    d_Machine_finish := ⟨def_mk l_Machine_finish q_Machine_finish k_Machine_finish (fun _ _ _ _ _ _ us hl => match us, hl with | [_], _ => rfl), a_Machine_finish, i_Machine_finish, k_Machine_finish⟩
    d_law_cell := ⟨def_mk l_law_cell q_law_cell k_law_cell (fun _ _ _ _ _ _ us hl => match us, hl with | [_, _], _ => rfl), PySem.W.mg_of X G a_law_cell, k_law_cell⟩
    d_law_is_integer := ⟨def_mk l_law_is_integer q_law_is_integer k_law_is_integer (fun _ _ _ _ _ _ us hl => match us, hl with | [_], _ => rfl), PySem.W.mg_of X G a_law_is_integer, k_law_is_integer⟩
    d_law_row := ⟨def_mk l_law_row q_law_row k_law_row (fun _ _ _ _ _ _ us hl => match us, hl with | [_, _, _], _ => rfl), PySem.W.mg_of X G a_law_row, k_law_row⟩
    d_law_reckon := ⟨def_mk l_law_reckon q_law_reckon k_law_reckon (fun _ _ _ _ _ _ us hl => match us, hl with | [_, _, _], _ => rfl), PySem.W.mg_of X G a_law_reckon, k_law_reckon⟩
    d_law_need := ⟨def_mk l_law_need q_law_need k_law_need (fun _ _ _ _ _ _ us hl => match us, hl with | [_], _ => rfl), PySem.W.mg_of X G a_law_need, k_law_need⟩
    d_law_act := ⟨def_mk l_law_act q_law_act k_law_act (fun _ _ _ _ _ _ us hl => match us, hl with | [_, _, _, _, _], _ => rfl), PySem.W.mg_of X G a_law_act, k_law_act⟩
    d_law_sign := ⟨def_mk l_law_sign q_law_sign k_law_sign (fun _ _ _ _ _ _ us hl => match us, hl with | [_, _, _, _, _, _], _ => rfl), PySem.W.mg_of X G a_law_sign, k_law_sign⟩
    d_law_run := ⟨def_mk l_law_run q_law_run k_law_run (fun _ _ _ _ _ _ us hl => match us, hl with | [_, _, _, _], _ => rfl), PySem.W.mg_of X G a_law_run, k_law_run⟩ }
  have TE : TxtE w K mg ⟨C_Run, C_Machine, f_Run_init, f_run, f_plus, f_minus, f_times, f_append_digit, f_is_less, f_is_equal, f_Machine_init, f_Machine_push, f_Machine_take, f_Machine_push_number, f_Machine_combine, f_Machine_move, f_Machine_jump, f_Machine_settle, f_Machine_perform, f_Machine_finish, f_law_cell, f_law_is_integer, f_law_row, f_law_reckon, f_law_need, f_law_act, f_law_sign, f_law_run, C_Failed, P_OF_TWO⟩ := {
    g_OF_TWO := PySem.W.mg_of X G g_OF_TWO
    tab_OF_TWO := ktab_mk l_OF_TWO kl_OF_TWO lo_OF_TWO ⟨⟨_, rfl, rfl⟩, ⟨_, rfl, rfl⟩, ⟨_, rfl, rfl⟩, ⟨_, rfl, rfl⟩, ⟨_, rfl, rfl⟩, ⟨_, rfl, rfl⟩, trivial⟩
    g_Failed := PySem.W.mg_of X G g_Failed
    x_Failed := x_Failed
    kc_Failed := kc_Failed
    b_Failed := b_Failed
    t_Failed := t_Failed
    xc_Failed := ⟨(PySem.W.any_some xhd_Failed).elim fun cd h => by rw [h.1]; rfl, xga_Failed, xgt_Failed, b_Failed, xhd_Failed, xcc_Failed, xsp_Failed, xtk_Failed, xmo_Failed⟩
    exm_Failed_Failed := PySem.W.exm_ref te1_Failed te2_Failed te3_Failed te4_Failed_Failed }
  have F5 := fun_mk (st := s_law) l_law q_law k_law
  exact ⟨PySem.W.fnOf "law" "law" (defArgs s_law) (defBody s_law) (defScope s_law) .none kV_law dc_law pm_law an_law cd_law ct_law, fun s v => .of_eq rfl, fun base _ _ => ok_law F5 TE T⟩
theorem walk {l : PySem.W.OpenLaw} {q : Program} {loose : List Str} {XP : (Str → Option Value) → Heap → Prop} {YP : World → Heap → Prop} {d : DefRec} {K : Params → PySem.W.Frag} (hn : l.most = some 63) (hdf : d.params.defaults = [])
    (hY : ∀ (w : World) (h : Heap), YP w h → (K w.params).In h)
    (F : ∀ (w : World) (mg : Str → Option Value) (fa : Addr) (h : Heap), (K w.params).In h → h.Ns mainGlobals mg → mg d.name = some (.ref fa) →
      ∃ fd : FuncData, (∀ (s : Shared) (u : Value), BindsTo s fd ⟨[u], []⟩ [("script", u)]) ∧ ∀ base : Heap, (K w.params).In base → base.Ns mainGlobals mg → FnOk l.prog w (K w.params) mg base CX0 8 fa fd ["script"] (spLaw (K w.params))) :
    PySem.W.WalkO q loose XP YP l.row.toRowW d [] (fun f vs => PySem.call f vs) :=
  L2.walk_of (n := 63) (k := 8) (x := "script") (CX := fun _ => CX0) (sp := fun w => spLaw (K w.params)) hn (by decide) hdf ⟨rfl, by decide, by decide⟩ hY F (fun _ _ a ns hl _ hS => ⟨a, ns, rfl, hS, hl, fun _ => rfl⟩) fun _ _ _ _ _ z => z
end Toy
namespace PySem.W.Fast
theorem tw13183966772937672411 : True := trivial
theorem tw8957669174158707753 : True := trivial
theorem tw17031453409065924554 : True := trivial
theorem tw4643337097461382655 : True := trivial
theorem tw8178599330473659015 : True := trivial
theorem tw14630471268228858700 : True := trivial
theorem tw11913716497316524747 : True := trivial
theorem tw1271370970874913960 : True := trivial
theorem tw8222600592890091045 : True := trivial
theorem tw140848408385961310 : True := trivial
theorem tw100546071286614 : True := trivial
theorem tw4102597058963263310 : True := trivial
theorem tw5300745962219373679 : True := trivial
theorem tw2956267517617252514 : True := trivial
theorem tw11331468261945388503 : True := trivial
theorem tw9724580630966800689 : True := trivial
theorem tw4657284160797737062 : True := trivial
theorem tw3098320790042916827 : True := trivial
theorem tw6723679391722169711 : True := trivial
theorem tw10721395179261583654 : True := trivial
theorem tw8879396912341750659 : True := trivial
theorem tw15949858081203224610 : True := trivial
theorem tw18064352486955070527 : True := trivial
theorem tw9844485167592697501 : True := trivial
theorem tw2338423200741224520 : True := trivial
theorem tw11232190654013552849 : True := trivial
theorem tw14994199633459105769 : True := trivial
theorem tw10222012600706747385 : True := trivial
theorem tw201784427023258803 : True := trivial
theorem tw14560715684736609639 : True := trivial
theorem tw15680691442531921970 : True := trivial
theorem tw7503298889313298071 : True := trivial
theorem tw14733135042643416521 : True := trivial
theorem tw12690409267003373208 : True := trivial
theorem tw16367142540189428966 : True := trivial
theorem tw13415213026890988448 : True := trivial
theorem tw17320103261409345302 : True := trivial
theorem tw17051091203632624049 : True := trivial
theorem tw16303902680097800209 : True := trivial
theorem tw10188744774872469722 : True := trivial
theorem tw6344788631095222143 : True := trivial
theorem tw16790612300079952473 : True := trivial
theorem tw14652797655271029239 : True := trivial
theorem tw16190514994894467332 : True := trivial
theorem tw766535103437439193 : True := trivial
theorem tw1459881953106353968 : True := trivial
theorem tw3902248083979774516 : True := trivial
theorem tw9523324245035998299 : True := trivial
theorem tw4497755657718990453 : True := trivial
theorem tw13850359428529566739 : True := trivial
theorem tw1627165476933467151 : True := trivial
theorem tw12751582754115763881 : True := trivial
theorem tw16672916987572822724 : True := trivial
theorem tw8242857075937650948 : True := trivial
theorem tw15859092132358058421 : True := trivial
theorem tw9446272885921504204 : True := trivial
theorem tw17132987212813932461 : True := trivial
theorem tw4015560656535996309 : True := trivial
theorem tw11713171002093983066 : True := trivial
theorem tw14421992957320571407 : True := trivial
theorem tw7930059716196960746 : True := trivial
theorem tw3850439858653001630 : True := trivial
theorem tw164934164048155828 : True := trivial
theorem tw927741645623703963 : True := trivial
theorem tw12460341072043721649 : True := trivial
theorem tw15879858216394702938 : True := trivial
theorem tw10484616675646919707 : True := trivial
theorem tw11549928507979162482 : True := trivial
theorem tw7164768333360554247 : True := trivial
theorem tw7401402259173015840 : True := trivial
theorem tw10394433900609854647 : True := trivial
theorem tw18092195712844756203 : True := trivial
theorem tw5589439852324696865 : True := trivial
theorem tw10742219054084126080 : True := trivial
theorem tw11437334489388957330 : True := trivial
theorem tw2402120109880684547 : True := trivial
theorem tw10547474293266500375 : True := trivial
theorem tw7186699551266207284 : True := trivial
theorem tw10439077950153314177 : True := trivial
theorem tw9181197194833521607 : True := trivial
theorem tw4122691393826308297 : True := trivial
theorem tw9527072437156181262 : True := trivial
theorem tw3197438155795393340 : True := trivial
theorem tw2537161266994949199 : True := trivial
theorem tw5804353208285240369 : True := trivial
theorem tw11161007319679104799 : True := trivial
theorem tw380975871230812433 : True := trivial
theorem tw5030431019327687036 : True := trivial
theorem tw12957001142079685083 : True := trivial
theorem tw4567473918643170794 : True := trivial
theorem tw6649552094533850413 : True := trivial
theorem tw3033844137592834429 : True := trivial
theorem tw13885224014107399509 : True := trivial
theorem tw2512025197280202884 : True := trivial
theorem tw11974044694410328026 : True := trivial
theorem tw8333504749713545010 : True := trivial
theorem tw14405685312494544521 : True := trivial
theorem tw14083757476396180365 : True := trivial
theorem tw10865302312338712215 : True := trivial
theorem tw8259687904069241701 : True := trivial
theorem tw6210728780914297139 : True := trivial
theorem tw9494737619270648882 : True := trivial
theorem tw2647590871592716086 : True := trivial
theorem tw12066221428130143207 : True := trivial
theorem tw2952721466368318916 : True := trivial
theorem tw9968115386478277821 : True := trivial
theorem tw16927325859896143809 : True := trivial
theorem tw6200246082013744452 : True := trivial
theorem tw9402688080890393449 : True := trivial
theorem tw18202806829383626896 : True := trivial
theorem tw12334298078129318643 : True := trivial
theorem tw16020078306279983578 : True := trivial
theorem tw12936233718524745467 : True := trivial
theorem tw15802901551917718658 : True := trivial
theorem tw11267439594058069982 : True := trivial
theorem tw1540276622598422930 : True := trivial
theorem tw7249315942596939362 : True := trivial
theorem tw6901440622775650019 : True := trivial
theorem tw8036158335634993877 : True := trivial
theorem tw14446398701757933280 : True := trivial
theorem tw11743882313372239927 : True := trivial
theorem tw7438844271268406103 : True := trivial
theorem tw10415518251720143649 : True := trivial
theorem tw9503483082695509801 : True := trivial
theorem tw6232269604767139560 : True := trivial
theorem tw7853596720279209902 : True := trivial
theorem tw14586392478342190959 : True := trivial
theorem tw16317748332776604800 : True := trivial
theorem tw16368334727731689284 : True := trivial
theorem tw11577556762079479045 : True := trivial
theorem tw7137782916084066819 : True := trivial
theorem tw6625338594558705148 : True := trivial
theorem tw3497414405735583990 : True := trivial
theorem tw16291519305815320869 : True := trivial
theorem tw8765275699845463800 : True := trivial
theorem tw10641413391202844819 : True := trivial
theorem tw6678274473235442310 : True := trivial
theorem tw482489854639483277 : True := trivial
theorem tw15745320325146353911 : True := trivial
theorem tw8295637354840440747 : True := trivial
theorem tw2320252921318399178 : True := trivial
theorem tw10006859669922115250 : True := trivial
theorem tw250985272411040666 : True := trivial
theorem tw1983894696100161068 : True := trivial
theorem tw11797596879663079528 : True := trivial
theorem tw11502093660779785693 : True := trivial
theorem tw6349188707316543371 : True := trivial
theorem tw15128242408238501345 : True := trivial
theorem tw11345529385412628057 : True := trivial
theorem tw14656511176751540812 : True := trivial
theorem tw17972000431015821163 : True := trivial
theorem tw7164923240540922804 : True := trivial
theorem tw9524075457951757796 : True := trivial
theorem tw15430280468845398362 : True := trivial
theorem tw7821161155568348597 : True := trivial
theorem tw11185517390543741005 : True := trivial
theorem tw2114070813826262908 : True := trivial
theorem tw17480313949775621703 : True := trivial
theorem tw1056147383051600544 : True := trivial
theorem tw2765501348090283638 : True := trivial
theorem tw5881019489067163501 : True := trivial
theorem tw4120685301716139545 : True := trivial
theorem tw13852810718531250798 : True := trivial
theorem tw14472862364274096760 : True := trivial
theorem tw5107208904942420244 : True := trivial
theorem tw12987680276018120071 : True := trivial
theorem tw8587336763405647420 : True := trivial
theorem tw14412410833444654359 : True := trivial
theorem tw16490662665951729801 : True := trivial
theorem tw7074127983972009624 : True := trivial
theorem tw6193240071733608455 : True := trivial
theorem tw4216131212466303550 : True := trivial
theorem tw15249718952863505421 : True := trivial
theorem tw3057997758222636629 : True := trivial
theorem tw2333160870851373185 : True := trivial
theorem tw2264883352661472316 : True := trivial
theorem tw7603058377985274675 : True := trivial
theorem tw5865866809968863791 : True := trivial
theorem tw16652089848927102601 : True := trivial
theorem tw6960400414681782821 : True := trivial
theorem tw8135981421506461553 : True := trivial
theorem tw13497508905363669889 : True := trivial
theorem tw17951671179109635389 : True := trivial
theorem tw17015434125789045162 : True := trivial
theorem tw13663802685356520614 : True := trivial
theorem tw16038767736442837407 : True := trivial
theorem tw4976819809593014452 : True := trivial
theorem tw6891571076560479453 : True := trivial
theorem tw5351463035444676761 : True := trivial
theorem tw3538106814898873560 : True := trivial
theorem tw14970202803586828703 : True := trivial
theorem tw10349998186779723676 : True := trivial
theorem tw10682908726549999397 : True := trivial
theorem tw5525668692893042035 : True := trivial
theorem tw4306474498773562784 : True := trivial
theorem tw1196594234801420233 : True := trivial
theorem tw3604258418260232349 : True := trivial
theorem tw11665447156284510420 : True := trivial
theorem tw1700442433867399598 : True := trivial
theorem tw2554117558991071009 : True := trivial
theorem tw8904821213238741955 : True := trivial
theorem tw10641499667731572667 : True := trivial
theorem tw9373455877600950051 : True := trivial
theorem tw12247214373683017667 : True := trivial
theorem tw111892304470677000 : True := trivial
theorem tw11117890588070499930 : True := trivial
theorem tw403628166331563564 : True := trivial
theorem tw781179392956591275 : True := trivial
theorem tw1422140021456281153 : True := trivial
theorem tw11441747969183748242 : True := trivial
theorem tw2502429716472812896 : True := trivial
theorem tw15537024849060928824 : True := trivial
theorem tw6955200455664276353 : True := trivial
theorem tw1275236050477295874 : True := trivial
theorem tw8711684866608610874 : True := trivial
theorem tw6530321907750787306 : True := trivial
theorem tw3120567262982376205 : True := trivial
theorem tw7914630564785526880 : True := trivial
theorem tw14105605824868413752 : True := trivial
theorem tw1852500643702166234 : True := trivial
theorem tw18310439721479638510 : True := trivial
theorem tw7445546108285541492 : True := trivial
theorem tw10930219968867629699 : True := trivial
theorem tw14417485269797373540 : True := trivial
theorem tw14022548125802619511 : True := trivial
theorem tw3258624966504472823 : True := trivial
theorem tw5699485380327715491 : True := trivial
theorem tw13909234588340572516 : True := trivial
theorem tw4339731702600735394 : True := trivial
theorem tw9049506256041533374 : True := trivial
theorem tw2222143784635919528 : True := trivial
theorem tw1428281951825312892 : True := trivial
theorem tw16567507674824180539 : True := trivial
theorem tw7079524427806112433 : True := trivial
theorem tw16486922658913838993 : True := trivial
theorem tw16149974703918489359 : True := trivial
theorem tw10273275504876308057 : True := trivial
theorem tw14204634914103938645 : True := trivial
theorem tw5808397741804572342 : True := trivial
theorem tw14327241913855082233 : True := trivial
theorem tw5739358564772274952 : True := trivial
theorem tw9527426337650740352 : True := trivial
theorem tw14323593875028447932 : True := trivial
theorem tw12525204768320632697 : True := trivial
theorem tw1597527957770660840 : True := trivial
theorem tw4931510790637826472 : True := trivial
theorem tw15961934320707311788 : True := trivial
theorem tw8770036636093824304 : True := trivial
theorem tw9745307402434033166 : True := trivial
theorem tw10163572248153562904 : True := trivial
theorem tw3349389035908293354 : True := trivial
theorem tw17115617815318695013 : True := trivial
theorem tw11333775603390365527 : True := trivial
theorem tw17737648771318376427 : True := trivial
theorem tw14110106316013038664 : True := trivial
theorem tw8026301625102540644 : True := trivial
theorem tw9795189482954724380 : True := trivial
theorem tw4732888146117985653 : True := trivial
theorem tw12469568038034723854 : True := trivial
theorem tw17272303450044514184 : True := trivial
theorem tw5356174683231446304 : True := trivial
theorem tw270608231676502481 : True := trivial
theorem tw17372699985860354738 : True := trivial
theorem tw7105210464845376418 : True := trivial
theorem tw9597776717837869921 : True := trivial
theorem tw10129955875421083984 : True := trivial
theorem tw13921338264813977314 : True := trivial
theorem tw8204842628194737441 : True := trivial
theorem tw12024927526660782934 : True := trivial
theorem tw2629359275145296106 : True := trivial
theorem tw6468644818496945981 : True := trivial
theorem tw2120848546339443723 : True := trivial
theorem tw17102276194621303657 : True := trivial
theorem tw161343494803718417 : True := trivial
theorem tw18070100559289319892 : True := trivial
theorem tw1626222987627475302 : True := trivial
theorem tw14954079912408741860 : True := trivial
theorem tw16515000871133377751 : True := trivial
theorem tw15020281438539936135 : True := trivial
theorem tw5667881856497219849 : True := trivial
theorem tw522021611476014407 : True := trivial
theorem tw4077905534145551750 : True := trivial
theorem tw17530889702496229314 : True := trivial
theorem tw4424559517414659420 : True := trivial
theorem tw2931808070112724879 : True := trivial
theorem tw16031890449523442343 : True := trivial
theorem tw11324563727494506942 : True := trivial
theorem tw11770244831514306209 : True := trivial
theorem tw15957658933894978853 : True := trivial
theorem tw4503080399747179307 : True := trivial
theorem tw2902747376784370839 : True := trivial
theorem tw15404129132165856248 : True := trivial
theorem tw345320769795620976 : True := trivial
theorem tw2289346801071640005 : True := trivial
theorem tw11415836437914771840 : True := trivial
theorem tw13617282300841111954 : True := trivial
theorem tw14159279341996872807 : True := trivial
theorem tw15726172166557946371 : True := trivial
theorem tw9417166297443315834 : True := trivial
theorem tw18146599298506510226 : True := trivial
theorem tw36826672192087567 : True := trivial
theorem tw6959352463644983094 : True := trivial
theorem tw12525686840029886545 : True := trivial
theorem tw12746555058702432347 : True := trivial
theorem tw4805897823605121914 : True := trivial
theorem tw2751932915955538900 : True := trivial
theorem tw7755318195669671479 : True := trivial
theorem tw14246035814012951531 : True := trivial
theorem tw7964893107682056716 : True := trivial
theorem tw10120263984281064882 : True := trivial
theorem tw14536843446701217449 : True := trivial
theorem tw1705049218727545801 : True := trivial
theorem tw4382282023701144999 : True := trivial
theorem tw1451205295754726756 : True := trivial
theorem tw9209378563499862817 : True := trivial
theorem tw2955287291631952125 : True := trivial
theorem tw6608441815822727191 : True := trivial
theorem tw5935045719964375137 : True := trivial
theorem tw3563119073754403810 : True := trivial
theorem tw13390203947726957456 : True := trivial
theorem tw14547543764439839408 : True := trivial
theorem tw17274882522729937439 : True := trivial
theorem tw13984601638192194690 : True := trivial
theorem tw15331686594698634350 : True := trivial
theorem tw2043425760754465751 : True := trivial
theorem tw18368791870283527833 : True := trivial
theorem tw4317381751904170617 : True := trivial
theorem tw17406419627423523643 : True := trivial
theorem tw14316229521864995689 : True := trivial
theorem tw3562234192935945564 : True := trivial
theorem tw293372563083062763 : True := trivial
theorem tw9464628456179566710 : True := trivial
theorem tw1792104366313322082 : True := trivial
theorem tw14842714531816198206 : True := trivial
theorem tw17827698189583861668 : True := trivial
theorem tw3305990877674290615 : True := trivial
theorem tw14508436825794970888 : True := trivial
theorem tw17513547325874361296 : True := trivial
theorem tw8475449809728037085 : True := trivial
theorem tw3197865568088165899 : True := trivial
theorem tw1147928198158511923 : True := trivial
theorem tw929966295102029556 : True := trivial
theorem tw5454284076315798150 : True := trivial
theorem tw16732329211831983935 : True := trivial
theorem tw3069804036088241516 : True := trivial
theorem tw12233484616610015468 : True := trivial
theorem tw9965046309504387739 : True := trivial
theorem tw9266837700671919420 : True := trivial
theorem tw11792229327185349974 : True := trivial
theorem tw2951561280075392839 : True := trivial
theorem tw1373608532985597336 : True := trivial
theorem tw14111648557980740395 : True := trivial
theorem tw15565573851732334547 : True := trivial
theorem tw2394682969547725875 : True := trivial
theorem tw1754351081467423935 : True := trivial
theorem tw13047335118878132848 : True := trivial
theorem tw4566099654196557262 : True := trivial
theorem tw1752568098814071450 : True := trivial
theorem tw127928324466920775 : True := trivial
theorem tw15376830873445350227 : True := trivial
theorem tw7358141876386762847 : True := trivial
theorem tw18051645545328964095 : True := trivial
theorem tw15266963450060693150 : True := trivial
theorem tw6017274124779475834 : True := trivial
theorem tw10542433346689746990 : True := trivial
theorem tw4660532625017366316 : True := trivial
theorem tw8359409583367908898 : True := trivial
theorem tw12044428719797242191 : True := trivial
theorem tw11023371750161007096 : True := trivial
theorem tw2463490103300619245 : True := trivial
theorem tw1539847264426680184 : True := trivial
theorem tw2434199779166480873 : True := trivial
theorem tw392512629597336846 : True := trivial
theorem tw11545767484872631154 : True := trivial
theorem tw6512997109630179124 : True := trivial
theorem tw3080021539791837751 : True := trivial
theorem tw4536924168542710978 : True := trivial
theorem tw2524554030652636143 : True := trivial
theorem tw5626180685585905900 : True := trivial
theorem tw15884719055200791647 : True := trivial
theorem tw13584802457662247766 : True := trivial
theorem tw3623650236712013439 : True := trivial
theorem tw9516487194221415772 : True := trivial
theorem tw5749134637851586421 : True := trivial
theorem tw6049704745977953978 : True := trivial
theorem tw18204129680282064935 : True := trivial
theorem tw13718716724273613088 : True := trivial
theorem tw13833644613136207390 : True := trivial
theorem tw5589274859794576442 : True := trivial
theorem tw10638534817999119278 : True := trivial
theorem tw4031240614161668494 : True := trivial
theorem tw6578282286002827247 : True := trivial
theorem tw5099355519250082557 : True := trivial
theorem tw722748718407433120 : True := trivial
theorem tw3479864309391834703 : True := trivial
theorem tw14948777110608742108 : True := trivial
theorem tw10448272727272553381 : True := trivial
theorem tw7921640873557310808 : True := trivial
theorem tw14617648875167345630 : True := trivial
theorem tw11326305336159943350 : True := trivial
theorem tw2358772839690991320 : True := trivial
theorem tw17351871179050069774 : True := trivial
theorem tw1929936854170500535 : True := trivial
theorem tw7300676010074444839 : True := trivial
theorem tw15373979577534445002 : True := trivial
theorem tw1921424507960025381 : True := trivial
theorem tw523591382590425988 : True := trivial
theorem tw17742177582209606655 : True := trivial
theorem tw10051130988049488706 : True := trivial
theorem tw9628593057864018624 : True := trivial
theorem tw15436572085062031127 : True := trivial
theorem tw7571832934735154213 : True := trivial
theorem tw3340065886150220233 : True := trivial
theorem tw3637238618923710385 : True := trivial
theorem tw3753472065150752996 : True := trivial
theorem tw16100015145338370100 : True := trivial
theorem tw9038702033859436923 : True := trivial
theorem tw13632063844648871365 : True := trivial
theorem tw7449469180740818567 : True := trivial
theorem tw794656454306528621 : True := trivial
theorem tw16400303008640007229 : True := trivial
theorem tw1070056248235359180 : True := trivial
theorem tw12296223556841418297 : True := trivial
theorem tw1329655948446644214 : True := trivial
theorem tw8136025384363697472 : True := trivial
theorem tw16607399494541302193 : True := trivial
theorem tw4752316469553169347 : True := trivial
theorem tw17362270707995915546 : True := trivial
theorem tw5528337326667531888 : True := trivial
theorem tw15315099868301989287 : True := trivial
theorem tw18237951375609372137 : True := trivial
theorem tw5978271109640660250 : True := trivial
theorem tw12803067299259068861 : True := trivial
theorem tw2337597139114376814 : True := trivial
theorem tw14282091847538455602 : True := trivial
theorem tw4692385016571887364 : True := trivial
theorem tw10990831780696655977 : True := trivial
theorem tw642762843884419422 : True := trivial
theorem tw8978105458414673359 : True := trivial
theorem tw11527125607167293855 : True := trivial
theorem tw8949330028445371845 : True := trivial
theorem tw16026581573991651823 : True := trivial
theorem tw9479049531682898005 : True := trivial
theorem tw11730429725525223365 : True := trivial
theorem tw8101980817595990874 : True := trivial
theorem tw13038682678185875591 : True := trivial
theorem tw1453112591615246911 : True := trivial
theorem tw6700245270626713441 : True := trivial
theorem tw2215552759855516960 : True := trivial
theorem tw7286266988633164404 : True := trivial
theorem tw4807792219973916301 : True := trivial
theorem tw7757341134792232980 : True := trivial
theorem tw15265392503243497204 : True := trivial
theorem tw13879967120422702062 : True := trivial
theorem tw11593370172482032436 : True := trivial
theorem tw4294425112754654802 : True := trivial
theorem tw10894700203573483586 : True := trivial
theorem tw6814965654815721755 : True := trivial
theorem tw17170020230366048585 : True := trivial
theorem tw8603145330799844246 : True := trivial
theorem tw8401489192692430512 : True := trivial
theorem tw2398506762426519541 : True := trivial
theorem tw3861804173323894063 : True := trivial
theorem tw14398278903054008353 : True := trivial
theorem tw4390388978831966182 : True := trivial
theorem tw1843718345839823565 : True := trivial
theorem tw16742376911560546467 : True := trivial
theorem tw3254278139412074330 : True := trivial
theorem tw13032092818623287370 : True := trivial
theorem tw8369057073054486350 : True := trivial
theorem tw13870413595073577895 : True := trivial
theorem tw10851220798514107622 : True := trivial
theorem tw424974296369869211 : True := trivial
theorem tw17241167800602727899 : True := trivial
theorem tw6409723105973065817 : True := trivial
theorem tw2552549317054364402 : True := trivial
theorem tw8650159313016188004 : True := trivial
theorem tw8213610822353691348 : True := trivial
theorem tw11234139928783824195 : True := trivial
theorem tw5139716945516521269 : True := trivial
theorem tw769503485778626603 : True := trivial
theorem tw16208633174063689732 : True := trivial
theorem tw10666198220598215865 : True := trivial
theorem tw6358594210286539856 : True := trivial
theorem tw709137365087686539 : True := trivial
theorem tw7897941807019647767 : True := trivial
theorem tw17601316891136741973 : True := trivial
theorem tw15070475251365949386 : True := trivial
theorem tw14290146561127040467 : True := trivial
theorem tw10217752131247886949 : True := trivial
theorem tw18211749593969800270 : True := trivial
theorem tw690612110193814879 : True := trivial
theorem tw2436869543299790059 : True := trivial
theorem tw18233012616810768503 : True := trivial
theorem tw7071152560883143430 : True := trivial
theorem tw8569106660807619214 : True := trivial
theorem tw7283356067404668021 : True := trivial
theorem tw7119091744728594992 : True := trivial
theorem tw10726677383855152406 : True := trivial
theorem tw14195187930509125215 : True := trivial
theorem tw8895058398796998553 : True := trivial
theorem tw16936850463857870727 : True := trivial
theorem tw7695123684689197571 : True := trivial
theorem tw4713235341704275034 : True := trivial
theorem tw3588209564065990875 : True := trivial
theorem tw14943295214292576114 : True := trivial
theorem tw3799374178198570788 : True := trivial
theorem tw10470338371589278877 : True := trivial
theorem tw17271364051444931646 : True := trivial
theorem tw12667607622947740943 : True := trivial
theorem tw17795397768510156084 : True := trivial
theorem tw12487505207490534261 : True := trivial
theorem tw7550771049484415906 : True := trivial
theorem tw16183911421956518853 : True := trivial
theorem tw16564112012493968890 : True := trivial
theorem tw16340878907361489042 : True := trivial
theorem tw11449941497351305938 : True := trivial
theorem tw14188674776032827408 : True := trivial
theorem tw14294572223220636886 : True := trivial
theorem tw35136720744916581 : True := trivial
theorem tw12191450351774403918 : True := trivial
theorem tw5368140484280120101 : True := trivial
theorem tw13847170846657186854 : True := trivial
theorem tw2470651681981690952 : True := trivial
theorem tw10347590832655934837 : True := trivial
theorem tw11371912699105095143 : True := trivial
theorem tw4909957026103476989 : True := trivial
theorem tw6883408510105426127 : True := trivial
theorem tw1267474257545940500 : True := trivial
theorem tw4079454736855241559 : True := trivial
theorem tw3896116479208537673 : True := trivial
theorem tw10678625736016447262 : True := trivial
theorem tw14005736600464873928 : True := trivial
theorem tw13518438653238251751 : True := trivial
theorem tw10861068361699589896 : True := trivial
theorem tw11418555203228202589 : True := trivial
theorem tw6202719896599489206 : True := trivial
theorem tw5524440414121128460 : True := trivial
theorem tw7621387177634779397 : True := trivial
theorem tw2399395426303832258 : True := trivial
theorem tw879067970696211084 : True := trivial
theorem tw1033568022369495719 : True := trivial
theorem tw4015502141794152999 : True := trivial
theorem tw7426785207540394033 : True := trivial
theorem tw15418494073725954914 : True := trivial
theorem tw9797670800200098470 : True := trivial
theorem tw665964799599724102 : True := trivial
theorem tw859347020493817967 : True := trivial
theorem tw15283231758148222510 : True := trivial
theorem tw10694377037644309174 : True := trivial
theorem tw7875062932312290175 : True := trivial
theorem tw13627223212996885267 : True := trivial
theorem tw112284380077950744 : True := trivial
theorem tw9840268328177816996 : True := trivial
theorem tw10851222757742918637 : True := trivial
theorem tw11906564816724152311 : True := trivial
theorem tw9181506820791754404 : True := trivial
theorem tw7783354765470707235 : True := trivial
theorem tw9470692078193359544 : True := trivial
theorem tw14326417617066820048 : True := trivial
theorem tw4059074854979206398 : True := trivial
theorem tw3457674781314831969 : True := trivial
theorem tw12967597008556188687 : True := trivial
theorem tw8926504515421107744 : True := trivial
theorem tw18217466118605921540 : True := trivial
theorem tw314279905870166101 : True := trivial
theorem tw9825085596048065643 : True := trivial
theorem tw18119565842702050654 : True := trivial
theorem tw7878106991731253952 : True := trivial
theorem tw12707495113450491100 : True := trivial
theorem tw16833012336247530853 : True := trivial
theorem tw5226833707764195837 : True := trivial
theorem tw1073279810350608428 : True := trivial
theorem tw8135138911874282730 : True := trivial
theorem tw1293902840586568797 : True := trivial
theorem tw5973182676733348699 : True := trivial
theorem tw4522257885063882968 : True := trivial
theorem tw5230759956980565553 : True := trivial
theorem tw17120575569176095416 : True := trivial
theorem tw9237496327989238357 : True := trivial
theorem tw345543322160021772 : True := trivial
theorem tw1103429841716410404 : True := trivial
theorem tw16525913968407535329 : True := trivial
theorem tw11433742637259323792 : True := trivial
theorem tw3129682432247273655 : True := trivial
theorem tw4650253377821438716 : True := trivial
theorem tw5625693888763769664 : True := trivial
theorem tw6374949020447087297 : True := trivial
theorem tw5634624347305119343 : True := trivial
theorem tw14272134801059200287 : True := trivial
theorem tw6146128448006826761 : True := trivial
theorem tw4519033845589430252 : True := trivial
theorem tw11213917987312125744 : True := trivial
theorem tw18065083564670518419 : True := trivial
theorem tw1846898288793439743 : True := trivial
theorem tw10739875184878404829 : True := trivial
theorem tw9626674758550614878 : True := trivial
theorem tw9389037175477541338 : True := trivial
theorem tw12800244538833325826 : True := trivial
theorem tw10211132429629980504 : True := trivial
theorem tw13357433363162038817 : True := trivial
theorem tw8838000171907623193 : True := trivial
theorem tw10716581941876068943 : True := trivial
theorem tw947155413329944025 : True := trivial
theorem tw6365827940244326901 : True := trivial
theorem tw1545259459664520003 : True := trivial
theorem tw15809593746429882890 : True := trivial
theorem tw10716715801903671789 : True := trivial
theorem tw10870497138946127543 : True := trivial
theorem tw10920978012488841940 : True := trivial
theorem tw16460280716720519199 : True := trivial
theorem tw13753812479043662186 : True := trivial
theorem tw18232075476864569176 : True := trivial
theorem tw13295106202558675942 : True := trivial
theorem tw4734621684261697186 : True := trivial
theorem tw4095588495642856971 : True := trivial
theorem tw17579644113106806842 : True := trivial
theorem tw1382811787024389692 : True := trivial
theorem tw14629551688777917521 : True := trivial
theorem tw10014918360899363848 : True := trivial
theorem tw16094708442940364828 : True := trivial
theorem tw13230142588960143011 : True := trivial
theorem tw8529359105669558981 : True := trivial
theorem tw14255408375956972622 : True := trivial
theorem tw13159832498626052942 : True := trivial
theorem tw9283224019537616984 : True := trivial
theorem tw13708522885744694937 : True := trivial
theorem tw8163063191572553960 : True := trivial
theorem tw5852134008689969532 : True := trivial
theorem tw17726979151656307405 : True := trivial
theorem tw4834792167545409879 : True := trivial
theorem tw16746317858406183248 : True := trivial
theorem tw10183683240988766056 : True := trivial
theorem tw12168194417028498858 : True := trivial
theorem tw1814702817638162346 : True := trivial
theorem tw17734679047805627096 : True := trivial
theorem tw13358275442170973210 : True := trivial
theorem tw14538117150106138835 : True := trivial
theorem tw15906783080112492580 : True := trivial
theorem tw10470215147092036815 : True := trivial
theorem tw8732939633085521179 : True := trivial
theorem tw15854737092939122927 : True := trivial
theorem tw6229351873602490932 : True := trivial
theorem tw10993616854764919659 : True := trivial
theorem tw2941782762967012720 : True := trivial
theorem tw9498842235273452995 : True := trivial
theorem tw39446641419964133 : True := trivial
theorem tw14277820756995527108 : True := trivial
theorem tw6035872347047318798 : True := trivial
theorem tw4563423822224211125 : True := trivial
theorem tw3820308612679303144 : True := trivial
theorem tw8487436013112650452 : True := trivial
theorem tw5501987540989864760 : True := trivial
theorem tw9081870242244322523 : True := trivial
theorem tw11096451332533985793 : True := trivial
theorem tw4403596584782460180 : True := trivial
theorem tw4351167131097941341 : True := trivial
theorem tw14343721317266867175 : True := trivial
theorem tw8272529062008350793 : True := trivial
theorem tw1904125692078466040 : True := trivial
theorem tw6820168189105314368 : True := trivial
theorem tw2960373620443574054 : True := trivial
theorem tw9220198469369928021 : True := trivial
theorem tw8842855083082149092 : True := trivial
theorem tw5409750746679558227 : True := trivial
theorem tw10279912648073834456 : True := trivial
theorem tw17725660197127901171 : True := trivial
theorem tw7482837547249556460 : True := trivial
theorem tw15574229403696870221 : True := trivial
theorem tw1058780967458444963 : True := trivial
theorem tw6004142152084444510 : True := trivial
theorem tw9774876446512543963 : True := trivial
theorem tw1841351846357535982 : True := trivial
theorem tw16142917445646455826 : True := trivial
theorem tw13226539821306008198 : True := trivial
theorem tw13105500519513080487 : True := trivial
theorem tw10282849431574214288 : True := trivial
theorem tw14964251215046175730 : True := trivial
theorem tw3682267822960504771 : True := trivial
theorem tw742213786038664598 : True := trivial
theorem tw11644058042842949952 : True := trivial
theorem tw17433947167698093747 : True := trivial
theorem tw9442232019942939833 : True := trivial
theorem tw598421455159745166 : True := trivial
theorem tw8393177841550933739 : True := trivial
theorem tw14136642457237331725 : True := trivial
theorem tw12934923195232670316 : True := trivial
theorem tw16186832283567245744 : True := trivial
theorem tw5974039464302643537 : True := trivial
theorem tw11218356177317386976 : True := trivial
theorem tw5120617710422503474 : True := trivial
theorem tw3294652441840638879 : True := trivial
theorem tw8221925064761059068 : True := trivial
theorem tw2212920395384936897 : True := trivial
theorem tw6803877579509149119 : True := trivial
theorem tw16055216314098173244 : True := trivial
theorem tw1012522794973993334 : True := trivial
theorem tw12312167018262779718 : True := trivial
theorem tw13756516522395789000 : True := trivial
theorem tw11494933133036480563 : True := trivial
theorem tw10249894850004021031 : True := trivial
theorem tw2111767631438720266 : True := trivial
theorem tw4744088696158640931 : True := trivial
theorem tw15747779208401820035 : True := trivial
theorem tw5942688258111399439 : True := trivial
theorem tw10201285239512751189 : True := trivial
theorem tw3840135073868026767 : True := trivial
theorem tw12177002539167710485 : True := trivial
theorem tw15845349255208139647 : True := trivial
theorem tw11306591402345742362 : True := trivial
theorem tw7027469357488304159 : True := trivial
theorem tw16786092528162499844 : True := trivial
theorem tw8858428295864342519 : True := trivial
theorem tw10954970037408586246 : True := trivial
theorem tw7193965082882202577 : True := trivial
theorem tw184104472827119568 : True := trivial
theorem tw14575640686047985591 : True := trivial
theorem tw11191209919519979903 : True := trivial
theorem tw17062298730761789938 : True := trivial
theorem tw1370572536396819801 : True := trivial
theorem tw9051135803632672760 : True := trivial
theorem tw14118471776752535136 : True := trivial
theorem tw5971895965902203311 : True := trivial
theorem tw15108827576058305166 : True := trivial
theorem tw15532337113877709424 : True := trivial
theorem tw8615496218278453441 : True := trivial
theorem tw2698511630405785043 : True := trivial
theorem tw16653244248616262559 : True := trivial
theorem tw10598762776786392549 : True := trivial
theorem tw14574309088200732782 : True := trivial
theorem tw1596185129551797129 : True := trivial
theorem tw10440708991640433779 : True := trivial
theorem tw12797166858798557884 : True := trivial
theorem tw17936716630842202225 : True := trivial
theorem tw5500023634172668387 : True := trivial
theorem tw4611659982968125750 : True := trivial
theorem tw17620001137777704528 : True := trivial
theorem tw7882520227476509758 : True := trivial
theorem tw13678958951948834611 : True := trivial
theorem tw6615485560193050600 : True := trivial
theorem tw4306357816671391140 : True := trivial
theorem tw6307290344930519260 : True := trivial
theorem tw16567213545606677448 : True := trivial
theorem tw2178845707061320725 : True := trivial
theorem tw8182819709397822841 : True := trivial
theorem tw4024759096985316133 : True := trivial
theorem tw16847051309464791045 : True := trivial
theorem tw6121106753524593514 : True := trivial
theorem tw16600305179782818275 : True := trivial
theorem tw3805822230837545204 : True := trivial
theorem tw6656071936001071456 : True := trivial
theorem tw736593732248895924 : True := trivial
theorem tw2010832172083963470 : True := trivial
theorem tw929029644718232652 : True := trivial
theorem tw10963676540886604485 : True := trivial
theorem tw13996058969556997261 : True := trivial
theorem tw8606034022038015850 : True := trivial
theorem tw11197306589489682095 : True := trivial
theorem tw1793408904442969169 : True := trivial
theorem tw6044893173801322052 : True := trivial
theorem tw7841782428854183685 : True := trivial
theorem tw7327007797110009170 : True := trivial
theorem tw3749897667471093839 : True := trivial
theorem tw8683149983300048603 : True := trivial
theorem tw2847028923428429529 : True := trivial
theorem tw10747469689424945057 : True := trivial
theorem tw3242101253560314837 : True := trivial
theorem tw5466251068501738275 : True := trivial
theorem tw4592369708534187047 : True := trivial
theorem tw6515343176323921781 : True := trivial
theorem tw5487927159368355862 : True := trivial
theorem tw2491474091947216358 : True := trivial
theorem tw8942903288334214140 : True := trivial
theorem tw4081186752615086890 : True := trivial
theorem tw8211888295767698443 : True := trivial
theorem tw11172728733298805640 : True := trivial
theorem tw1410081519525921489 : True := trivial
theorem tw6061040902726020468 : True := trivial
theorem tw6329980091953082051 : True := trivial
theorem tw10030304288442247235 : True := trivial
theorem tw5185557723914033447 : True := trivial
theorem tw8544145506770095470 : True := trivial
theorem tw6831881170664969335 : True := trivial
theorem tw12550138609319847668 : True := trivial
theorem tw1891780812495698152 : True := trivial
theorem tw2835542390336774890 : True := trivial
theorem tw8982513270816492219 : True := trivial
theorem tw5891180067503282811 : True := trivial
theorem tw5960922933994944593 : True := trivial
theorem tw3508095467211629706 : True := trivial
theorem tw18413661463434843632 : True := trivial
theorem tw4218725566664654916 : True := trivial
theorem tw2099047343048539670 : True := trivial
theorem tw8832566272323546987 : True := trivial
theorem tw14580169444876309707 : True := trivial
theorem tw5016666339652850289 : True := trivial
theorem tw10808391990321794946 : True := trivial
theorem tw10878625559443040299 : True := trivial
theorem tw14899708827248510677 : True := trivial
theorem tw10642754777781247287 : True := trivial
theorem tw16894764507925495654 : True := trivial
theorem tw8905816435829100585 : True := trivial
theorem tw5724668523623674815 : True := trivial
theorem tw5059756375908138065 : True := trivial
theorem tw4324759566223636135 : True := trivial
theorem tw1805040965107851392 : True := trivial
theorem tw3784125192254004706 : True := trivial
theorem tw6481861903745858624 : True := trivial
theorem tw4752811804626695435 : True := trivial
theorem tw2362495661592834093 : True := trivial
theorem tw3599846682566665200 : True := trivial
theorem tw16956517430394983778 : True := trivial
theorem tw9463576941363705015 : True := trivial
theorem tw8498324790205323407 : True := trivial
theorem tw7327618215465403998 : True := trivial
theorem tw69034061731848496 : True := trivial
theorem tw7385212075943673735 : True := trivial
theorem tw197977985346878519 : True := trivial
theorem tw11324476999669040280 : True := trivial
theorem tw4055185387668648458 : True := trivial
theorem tw16940740947638857576 : True := trivial
theorem tw17686442001289721936 : True := trivial
theorem tw715840074216564482 : True := trivial
theorem tw1626343281034583667 : True := trivial
theorem tw13413388204669727623 : True := trivial
theorem tw14455123812745515056 : True := trivial
theorem tw10603028544427317667 : True := trivial
theorem tw2154471442131969547 : True := trivial
theorem tw17797318746762131948 : True := trivial
theorem tw15201317244470767962 : True := trivial
theorem tw9330521946442441738 : True := trivial
theorem tw8233112089848796698 : True := trivial
theorem tw4923075540127606056 : True := trivial
theorem tw3652517480783353743 : True := trivial
theorem tw13431501712207611706 : True := trivial
theorem tw12746713812699581820 : True := trivial
theorem tw6311549010835099016 : True := trivial
theorem tw8854907197795724203 : True := trivial
theorem tw9598625458061054858 : True := trivial
theorem tw15668234284790008052 : True := trivial
theorem tw10570723715338324569 : True := trivial
theorem tw4699791943435491211 : True := trivial
theorem tw10028864874271576002 : True := trivial
theorem tw4778874744459132483 : True := trivial
theorem tw9919833623844572280 : True := trivial
theorem tw11118800492651502451 : True := trivial
theorem tw16847320898874105928 : True := trivial
theorem tw5191841487961338943 : True := trivial
theorem tw4647617267577024290 : True := trivial
theorem tw8760473085527994425 : True := trivial
theorem tw9136407365647888283 : True := trivial
theorem tw12445566250768749155 : True := trivial
theorem tw15310101741881095982 : True := trivial
theorem tw8619730515446650986 : True := trivial
theorem tw7561401250213778684 : True := trivial
theorem tw1901382982500139216 : True := trivial
theorem tw2722731756644979808 : True := trivial
theorem tw15332803135103081673 : True := trivial
theorem tw2180961707674815215 : True := trivial
theorem tw15308001733557037186 : True := trivial
theorem tw17033903903181838568 : True := trivial
theorem tw13072840048723166328 : True := trivial
theorem tw13871636175130674759 : True := trivial
theorem tw6070969610396588858 : True := trivial
theorem tw8388758961731505424 : True := trivial
theorem tw5944288842930606508 : True := trivial
theorem tw4258656215204505552 : True := trivial
theorem tw11641140478010194678 : True := trivial
theorem tw11291530867536745361 : True := trivial
theorem tw12073558791721696254 : True := trivial
theorem tw15129586295990425268 : True := trivial
theorem tw4519315004245829669 : True := trivial
theorem tw8756240818945142566 : True := trivial
theorem tw2895232236609350504 : True := trivial
theorem tw10903996770772982578 : True := trivial
theorem tw5199186361837631960 : True := trivial
theorem tw5214075288457791030 : True := trivial
theorem tw2331202611729816505 : True := trivial
theorem tw6301779296243139606 : True := trivial
theorem tw2503522771776103193 : True := trivial
theorem tw16607160403713951748 : True := trivial
theorem tw8152161729788362025 : True := trivial
theorem tw3064067993612697126 : True := trivial
theorem tw12067045704636285973 : True := trivial
theorem tw6588428222093002159 : True := trivial
theorem tw16733277686789831225 : True := trivial
theorem tw9616512034479841073 : True := trivial
theorem tw8136370842644211129 : True := trivial
theorem tw10168854445980043962 : True := trivial
theorem tw13498712553736773400 : True := trivial
theorem tw17381725568286553922 : True := trivial
theorem tw18066759455513545443 : True := trivial
theorem tw3107130452789037136 : True := trivial
theorem tw5420075776079366917 : True := trivial
theorem tw7398888646929679213 : True := trivial
theorem tw16794147744103041827 : True := trivial
theorem tw10945356219837884316 : True := trivial
theorem tw16578100453717863 : True := trivial
theorem tw5811927813106212612 : True := trivial
theorem tw12168325688602220143 : True := trivial
theorem tw18269279419555465165 : True := trivial
theorem tw16964928650181460728 : True := trivial
theorem tw7101223548441625128 : True := trivial
theorem tw15083499935918233211 : True := trivial
theorem tw13988703315211280174 : True := trivial
theorem tw13349969027321130784 : True := trivial
theorem tw12602504809483779100 : True := trivial
theorem tw10369900430097556343 : True := trivial
theorem tw4753713009264169172 : True := trivial
theorem tw3325361888421885109 : True := trivial
theorem tw12319890722659459442 : True := trivial
theorem tw14668903004782025425 : True := trivial
theorem tw16546110373596012518 : True := trivial
theorem tw12415179936681278769 : True := trivial
theorem tw11780242780856099305 : True := trivial
theorem tw4944464678600281337 : True := trivial
theorem tw14748479628100258386 : True := trivial
theorem tw1727523305446034072 : True := trivial
theorem tw1747029666471779510 : True := trivial
theorem tw10701919412137085645 : True := trivial
theorem tw14663143215236362499 : True := trivial
theorem tw15328689580404407046 : True := trivial
theorem tw17013328332216071595 : True := trivial
theorem tw15424930849558435690 : True := trivial
theorem tw89123468429742561 : True := trivial
theorem tw18028492867065427189 : True := trivial
theorem tw16021027911004414616 : True := trivial
theorem tw17118892110879242020 : True := trivial
theorem tw12166623736509274331 : True := trivial
theorem tw4476451748054898414 : True := trivial
theorem tw15391066768300927580 : True := trivial
theorem tw4341675919215641821 : True := trivial
theorem tw1047175496360187443 : True := trivial
theorem tw484727035072887982 : True := trivial
theorem tw12321968608148894355 : True := trivial
theorem tw5931740625823498030 : True := trivial
theorem tw9095911224929291253 : True := trivial
theorem tw16721432598146209854 : True := trivial
theorem tw10369700238223015421 : True := trivial
theorem tw2605128697064795174 : True := trivial
theorem tw15292865775452474944 : True := trivial
theorem tw15900257801430180297 : True := trivial
theorem tw16255011694835405872 : True := trivial
theorem tw7663396258025963971 : True := trivial
theorem tw18260984133913690196 : True := trivial
theorem tw15251241362505688511 : True := trivial
theorem tw13011196541359849170 : True := trivial
theorem tw9745936156691617739 : True := trivial
theorem tw12605637934665549513 : True := trivial
theorem tw10107624478122387030 : True := trivial
theorem tw3620075696695251418 : True := trivial
theorem tw7914662084502580505 : True := trivial
theorem tw10613727527432484046 : True := trivial
theorem tw10564289672717860908 : True := trivial
theorem tw6336872006687904998 : True := trivial
theorem tw4119197232507628257 : True := trivial
theorem tw2503890243157584981 : True := trivial
theorem tw771369602904141254 : True := trivial
theorem tw5171516805148654157 : True := trivial
theorem tw9536233115602657635 : True := trivial
theorem tw437703088436089473 : True := trivial
theorem tw13445003408217001698 : True := trivial
theorem tw4668653034458837308 : True := trivial
theorem tw4590919203163813372 : True := trivial
theorem tw1904906913002241986 : True := trivial
theorem tw2881948567058669493 : True := trivial
theorem tw8303785055796195724 : True := trivial
theorem tw10642017853823635968 : True := trivial
theorem tw13294453125210999119 : True := trivial
theorem tw1489212834095800413 : True := trivial
theorem tw11976200733758998175 : True := trivial
theorem tw2266906030927648445 : True := trivial
theorem tw7198578726761025654 : True := trivial
theorem tw15481670541550905925 : True := trivial
theorem tw9985475838276971786 : True := trivial
theorem tw4896109440654057405 : True := trivial
theorem tw14842717770499575913 : True := trivial
theorem tw8658009339906016568 : True := trivial
theorem tw196190541580712897 : True := trivial
theorem tw2982605027481900274 : True := trivial
theorem tw5487312579942843762 : True := trivial
theorem tw10804677419229803241 : True := trivial
theorem tw1984117810931034606 : True := trivial
theorem tw10531285601535608763 : True := trivial
theorem tw12550833853610824193 : True := trivial
theorem tw16807454748122193761 : True := trivial
theorem tw9258747546085195562 : True := trivial
theorem tw3839248445926475288 : True := trivial
theorem tw7489253661643515193 : True := trivial
theorem tw11919798844844002821 : True := trivial
theorem tw9771973151102868828 : True := trivial
theorem tw5682696416423880420 : True := trivial
theorem tw16851973493891700363 : True := trivial
theorem tw13839710108095889267 : True := trivial
theorem tw3689337770208477204 : True := trivial
theorem tw3278875317021112529 : True := trivial
theorem tw15024629106855435354 : True := trivial
theorem tw9392246367357330967 : True := trivial
theorem tw11593253228461204160 : True := trivial
theorem tw12973852306319550212 : True := trivial
theorem tw7245844893688032628 : True := trivial
theorem tw13653209065505034482 : True := trivial
theorem tw14948300700733014114 : True := trivial
theorem tw1355440739172015265 : True := trivial
theorem tw18217575661469904006 : True := trivial
theorem tw17869283696320468806 : True := trivial
theorem tw14000229836323284274 : True := trivial
theorem tw12000687455696020299 : True := trivial
theorem tw4721034442987062447 : True := trivial
theorem tw4224330211288842341 : True := trivial
theorem tw16532778269761345432 : True := trivial
theorem tw14774660010648173898 : True := trivial
theorem tw3041202198440895448 : True := trivial
theorem tw1665765479792390172 : True := trivial
theorem tw6162911107199193285 : True := trivial
theorem tw9518907585614391738 : True := trivial
theorem tw2848129619952141755 : True := trivial
theorem tw7814907859807497743 : True := trivial
theorem tw10467270859271205630 : True := trivial
theorem tw11469226417542522190 : True := trivial
theorem tw6073442386035253980 : True := trivial
theorem tw7151196677836781775 : True := trivial
theorem tw6308442110361850923 : True := trivial
theorem tw7593663734086154628 : True := trivial
theorem tw7696897608338553343 : True := trivial
theorem tw14746100894164785490 : True := trivial
theorem tw8051993615350840949 : True := trivial
theorem tw12482274335202692059 : True := trivial
theorem tw9533142830453997453 : True := trivial
theorem tw4927230561214028118 : True := trivial
theorem tw7805558996541602814 : True := trivial
theorem tw14713996950611782715 : True := trivial
theorem tw3746511450135939024 : True := trivial
theorem tw9589281440243644447 : True := trivial
theorem tw13661207394828981292 : True := trivial
theorem tw9642674111341758257 : True := trivial
theorem tw12251777182861584341 : True := trivial
theorem tw3300467675681818892 : True := trivial
theorem tw16177612959216176343 : True := trivial
theorem tw5031850878278783270 : True := trivial
theorem tw2050469152676991727 : True := trivial
theorem tw1908267475410366444 : True := trivial
theorem tw18004112676192236812 : True := trivial
theorem tw10159395368287988534 : True := trivial
theorem tw11706824897167281984 : True := trivial
theorem tw7364323231676307470 : True := trivial
theorem tw7286157195516812175 : True := trivial
theorem tw12778212951963628545 : True := trivial
theorem tw8217383627782471260 : True := trivial
theorem tw15219937434809229032 : True := trivial
theorem tw13812874288079757788 : True := trivial
theorem tw16972344395516174170 : True := trivial
theorem tw7813154443728776164 : True := trivial
theorem tw8340119210391668732 : True := trivial
theorem tw17124764816196629296 : True := trivial
theorem tw10878075931953772914 : True := trivial
theorem tw6693724730289912066 : True := trivial
theorem tw3943264162829673560 : True := trivial
theorem tw17835250478472596400 : True := trivial
theorem tw6640941854656080766 : True := trivial
theorem tw13684911976843084347 : True := trivial
theorem tw13812630907271805710 : True := trivial
theorem tw9369073333953788625 : True := trivial
theorem tw1354706150663241711 : True := trivial
theorem tw9119704738702822518 : True := trivial
theorem tw822949993286546263 : True := trivial
theorem tw11835034953069808867 : True := trivial
theorem tw7013784410495945661 : True := trivial
theorem tw1906688504287828369 : True := trivial
theorem tw6927630407806011857 : True := trivial
theorem tw9590820620292475334 : True := trivial
theorem tw6606449505989699358 : True := trivial
theorem tw2630002241870868910 : True := trivial
theorem tw6516901804688343233 : True := trivial
theorem tw7840498661024102888 : True := trivial
theorem tw9100140756812479391 : True := trivial
theorem tw16982194255728118065 : True := trivial
theorem tw14845991414147530497 : True := trivial
theorem tw2815240068288983272 : True := trivial
theorem tw12627549812699613992 : True := trivial
theorem tw2882066922664493013 : True := trivial
theorem tw9235206874242112383 : True := trivial
theorem tw4889948641451035889 : True := trivial
theorem tw2226927276497788413 : True := trivial
theorem tw11853035827439892580 : True := trivial
theorem tw8269009718843960168 : True := trivial
theorem tw16779113445231200188 : True := trivial
theorem tw9253767144161243679 : True := trivial
theorem tw7808602506222474497 : True := trivial
theorem tw6440043289627015303 : True := trivial
theorem tw3382267606475165994 : True := trivial
theorem tw16225045281860393741 : True := trivial
theorem tw10895220005420070549 : True := trivial
theorem tw5021162991569540825 : True := trivial
theorem tw12242128113306516494 : True := trivial
theorem tw13728518909783740457 : True := trivial
theorem tw9830978021861251686 : True := trivial
theorem tw7624883240024707427 : True := trivial
theorem tw17155704187813445411 : True := trivial
theorem tw13766324005537695492 : True := trivial
theorem tw5441806558928537443 : True := trivial
theorem tw13741635873152625119 : True := trivial
theorem tw1750510557566496913 : True := trivial
theorem tw8722557313458497745 : True := trivial
theorem tw4354824343318467974 : True := trivial
theorem tw5006947970496066294 : True := trivial
theorem tw10528736604539466830 : True := trivial
theorem tw2589918013600081742 : True := trivial
theorem tw11052575880928463521 : True := trivial
theorem tw9216894398310234115 : True := trivial
theorem tw11077362450681894873 : True := trivial
theorem tw9666341026560145723 : True := trivial
theorem tw3307273842585484174 : True := trivial
theorem tw16073755127270835878 : True := trivial
theorem tw18141501782706452865 : True := trivial
theorem tw7612341653135760673 : True := trivial
theorem tw1464809392464001819 : True := trivial
theorem tw2238306062177677190 : True := trivial
theorem tw9765198235253442820 : True := trivial
theorem tw10217364300782025064 : True := trivial
theorem tw15630017965761425138 : True := trivial
theorem tw11462870600348419924 : True := trivial
theorem tw15451487153625834685 : True := trivial
theorem tw9831011385259127145 : True := trivial
theorem tw321270783171163499 : True := trivial
theorem tw12153492531800769568 : True := trivial
theorem tw4927042805477706253 : True := trivial
theorem tw7905507148933586892 : True := trivial
theorem tw15877425748353283898 : True := trivial
theorem tw9805463730693912262 : True := trivial
theorem tw12475174018210433295 : True := trivial
theorem tw310729365016699902 : True := trivial
theorem tw701087414997632574 : True := trivial
theorem tw9955801158084414261 : True := trivial
theorem tw6824675250502801446 : True := trivial
theorem tw6035597361352156079 : True := trivial
theorem tw10759595643936680892 : True := trivial
theorem tw11145344082784747431 : True := trivial
theorem tw18019677024401712460 : True := trivial
theorem tw3428873242884320047 : True := trivial
theorem tw13653515355566527488 : True := trivial
theorem tw12121024944480694647 : True := trivial
theorem tw14108360711575338053 : True := trivial
theorem tw4488181936452276344 : True := trivial
theorem tw16094564200969690851 : True := trivial
theorem tw17919430161432079660 : True := trivial
theorem tw7116979109083838925 : True := trivial
theorem tw5272686606263409746 : True := trivial
theorem tw12701689866344667010 : True := trivial
theorem tw10986713419222396005 : True := trivial
theorem tw17771712870432720830 : True := trivial
theorem tw8772302862938174600 : True := trivial
theorem tw14705145115676480610 : True := trivial
theorem tw5730429121142409798 : True := trivial
theorem tw17761248842307537726 : True := trivial
theorem tw940271184040964310 : True := trivial
theorem tw2467865591065363332 : True := trivial
theorem tw17441359060218114021 : True := trivial
theorem tw193546837830334378 : True := trivial
theorem tw11458759928184253538 : True := trivial
theorem tw7968376533768661791 : True := trivial
theorem tw17333624170577972369 : True := trivial
theorem tw7955471896957719934 : True := trivial
theorem tw13598014582606947638 : True := trivial
theorem tw11109688318426822283 : True := trivial
theorem tw14161454244203149459 : True := trivial
theorem tw6832775736513703217 : True := trivial
theorem tw9125012654346162982 : True := trivial
theorem tw2564826304333428696 : True := trivial
theorem tw12502916747525818213 : True := trivial
theorem tw16189338281519966782 : True := trivial
theorem tw601077588545454530 : True := trivial
theorem tw16964696230786801239 : True := trivial
theorem tw1007549065575755143 : True := trivial
theorem tw108043974906382291 : True := trivial
theorem tw918202371553141293 : True := trivial
theorem tw7985911386113374827 : True := trivial
theorem tw16204909171640179646 : True := trivial
theorem tw10379740542703114905 : True := trivial
theorem tw941640462338742550 : True := trivial
theorem tw672316230427713087 : True := trivial
theorem tw35555440111706595 : True := trivial
theorem tw14354244971365292506 : True := trivial
theorem tw13441481230443854459 : True := trivial
theorem tw15094181578977517830 : True := trivial
theorem tw7968075639563388292 : True := trivial
theorem tw2008198598795268420 : True := trivial
theorem tw11318359350641227999 : True := trivial
theorem tw12109128142992369826 : True := trivial
theorem tw17102239492809300261 : True := trivial
theorem tw13623664239100542397 : True := trivial
theorem tw9392374449480069809 : True := trivial
theorem tw12750727354548385323 : True := trivial
theorem tw15359333388017883733 : True := trivial
theorem tw1414323134884428014 : True := trivial
theorem tw14028155702869323399 : True := trivial
theorem tw217674962893351304 : True := trivial
theorem tw15403832679092009845 : True := trivial
theorem tw9200624174755938936 : True := trivial
theorem tw14269078379063890290 : True := trivial
theorem tw3477082485055916152 : True := trivial
theorem tw10061617653668527329 : True := trivial
theorem tw9152631069135814225 : True := trivial
theorem tw16474911733885181718 : True := trivial
theorem tw16475032800002551129 : True := trivial
theorem tw15114482294895338639 : True := trivial
theorem tw13519036271632538246 : True := trivial
theorem tw14207408596724524375 : True := trivial
theorem tw2400347610439351611 : True := trivial
theorem tw7495434289243336545 : True := trivial
theorem tw7839642977620413051 : True := trivial
theorem tw9884956815887821892 : True := trivial
theorem tw6264922657881914422 : True := trivial
theorem tw6742282905932238319 : True := trivial
theorem tw3154948853477568970 : True := trivial
theorem tw9822845365620387813 : True := trivial
theorem tw16681839027478044492 : True := trivial
theorem tw3314117582516246140 : True := trivial
theorem tw666802850178509446 : True := trivial
theorem tw14953392083373027258 : True := trivial
theorem tw18283776578896020638 : True := trivial
theorem tw6741106386389419665 : True := trivial
theorem tw8750963823809701903 : True := trivial
theorem tw244721577735469374 : True := trivial
theorem tw7047658588920614784 : True := trivial
theorem tw2623509874232793758 : True := trivial
theorem tw7847704885588887071 : True := trivial
theorem tw10071339085570089094 : True := trivial
theorem tw18421309160816395130 : True := trivial
theorem tw10701291691766201028 : True := trivial
theorem tw17314475820170150356 : True := trivial
theorem tw810808017717182781 : True := trivial
theorem tw2884533450403621071 : True := trivial
theorem tw8185649301344893894 : True := trivial
theorem tw14893442679975688720 : True := trivial
theorem tw12195495627840773493 : True := trivial
theorem tw12056379044069330189 : True := trivial
theorem tw9246630274893050101 : True := trivial
theorem tw4178149823368279875 : True := trivial
theorem tw9890351320321464604 : True := trivial
theorem tw10068183338482129993 : True := trivial
theorem tw2899474040846725603 : True := trivial
theorem tw8673652979521131392 : True := trivial
theorem tw15331752464536756610 : True := trivial
theorem tw17205885185285933531 : True := trivial
theorem tw18269161414550398884 : True := trivial
theorem tw14709676224816554603 : True := trivial
theorem tw9510497979982536685 : True := trivial
theorem tw8806645956024613582 : True := trivial
theorem tw3338230815612372459 : True := trivial
theorem tw6977541438758795911 : True := trivial
theorem tw10426602567759221274 : True := trivial
theorem tw8348144250036665217 : True := trivial
theorem tw14676021148494347981 : True := trivial
theorem tw7772200820296833560 : True := trivial
theorem tw14171803998338419752 : True := trivial
theorem tw17004873826556518695 : True := trivial
theorem tw4111639453598285373 : True := trivial
theorem tw16575954209818178128 : True := trivial
theorem tw847010196142855731 : True := trivial
theorem tw2807136280771148977 : True := trivial
theorem tw6636933484310018521 : True := trivial
theorem tw5786877536882269566 : True := trivial
theorem tw6603640142120344533 : True := trivial
theorem tw1761310465501209719 : True := trivial
theorem tw7306237861442281865 : True := trivial
theorem tw5629025189662383032 : True := trivial
theorem tw11385887834536484487 : True := trivial
theorem tw6628804252555752264 : True := trivial
theorem tw14857486664856602956 : True := trivial
theorem tw9209553365153123600 : True := trivial
theorem tw15909286362039650915 : True := trivial
theorem tw10093577361458884320 : True := trivial
theorem tw17494291195585517641 : True := trivial
theorem tw15437502917403839329 : True := trivial
theorem tw6970840385973806330 : True := trivial
theorem tw5321959203760544647 : True := trivial
theorem tw12654044651969438467 : True := trivial
theorem tw12475437531556782223 : True := trivial
theorem tw3799788300291162441 : True := trivial
theorem tw4381449963934831627 : True := trivial
theorem tw4349975127812949099 : True := trivial
theorem tw13209146716245315718 : True := trivial
theorem tw14029730786947035322 : True := trivial
theorem tw17526704800100391363 : True := trivial
theorem tw1361651891945367989 : True := trivial
theorem tw7998225605699167434 : True := trivial
theorem tw16931083960172955547 : True := trivial
theorem tw901529491919761953 : True := trivial
theorem tw13449741421373821040 : True := trivial
theorem tw11846076215242120471 : True := trivial
theorem tw11999600911059592969 : True := trivial
theorem tw12697841637990591221 : True := trivial
theorem tw6175288898725068384 : True := trivial
theorem tw5170029674202345361 : True := trivial
theorem tw11227755231215766358 : True := trivial
theorem tw13103632900278375903 : True := trivial
theorem tw10941475042266515890 : True := trivial
theorem tw17745171652562787966 : True := trivial
theorem tw2356045937220376725 : True := trivial
theorem tw4253265312512967778 : True := trivial
theorem tw3495529823971508246 : True := trivial
theorem tw7941106862420375058 : True := trivial
theorem tw5175560167433934387 : True := trivial
theorem tw1696297976142833345 : True := trivial
theorem tw16714740430100960612 : True := trivial
theorem tw13376349125109370520 : True := trivial
theorem tw5493843643176733651 : True := trivial
theorem tw11813712020925998362 : True := trivial
theorem tw14478815342174099128 : True := trivial
theorem tw7733694074876016015 : True := trivial
theorem tw8156237474665762272 : True := trivial
theorem tw9582607579374138900 : True := trivial
theorem tw3184086793851732114 : True := trivial
theorem tw16001629449437471347 : True := trivial
theorem tw4441771528032698396 : True := trivial
theorem tw1573653027690543976 : True := trivial
theorem tw11066583831569243925 : True := trivial
theorem tw17393526639773719974 : True := trivial
theorem tw10436392723054335638 : True := trivial
theorem tw4597402362952981799 : True := trivial
theorem tw12130878260695371262 : True := trivial
theorem tw11668757899934625004 : True := trivial
theorem tw4465124865444163853 : True := trivial
theorem tw17814476341753995779 : True := trivial
theorem tw7238804753464584580 : True := trivial
theorem tw5349760471184921803 : True := trivial
theorem tw6463422302286777166 : True := trivial
theorem tw15652354723141318879 : True := trivial
theorem tw14362828174779198591 : True := trivial
theorem tw12331021761904554213 : True := trivial
theorem tw14150018170421245983 : True := trivial
theorem tw17766273665236076531 : True := trivial
theorem tw11064155179470864465 : True := trivial
theorem tw7167360192383928099 : True := trivial
theorem tw4848545327198935816 : True := trivial
theorem tw10197207721635477210 : True := trivial
theorem tw6092035622912615942 : True := trivial
theorem tw2999618468037446656 : True := trivial
theorem tw12313593939358864343 : True := trivial
theorem tw1660404926500444236 : True := trivial
theorem tw16380003648781285329 : True := trivial
theorem tw9522481624127799710 : True := trivial
theorem tw3670987642275711177 : True := trivial
theorem tw10845222175890062326 : True := trivial
theorem tw6826052467816773058 : True := trivial
theorem tw13626244755540146478 : True := trivial
theorem tw17227295972865991503 : True := trivial
theorem tw12169410358179554261 : True := trivial
theorem tw9072145741399163267 : True := trivial
theorem tw18399705984150923850 : True := trivial
theorem tw17569242798707024040 : True := trivial
theorem tw16544884265135847666 : True := trivial
theorem tw10573528555624295504 : True := trivial
theorem tw9567697885301964595 : True := trivial
theorem tw17277751418544014021 : True := trivial
theorem tw15202555644062234851 : True := trivial
theorem tw14835979727026129475 : True := trivial
theorem tw9679258847959584468 : True := trivial
theorem tw6196206384104654671 : True := trivial
theorem tw17985484638273561636 : True := trivial
theorem tw8831755484078088189 : True := trivial
theorem tw2514304453592545654 : True := trivial
theorem tw2511267955358072078 : True := trivial
theorem tw18157672143138720946 : True := trivial
theorem tw7893680281686544912 : True := trivial
theorem tw1434962179883334116 : True := trivial
theorem tw13099638302665815004 : True := trivial
theorem tw10211320559863745631 : True := trivial
theorem tw11301314168831797282 : True := trivial
theorem tw2084693322543985426 : True := trivial
theorem tw9258204414104939184 : True := trivial
theorem tw5632241241748578336 : True := trivial
theorem tw10132519424125445632 : True := trivial
theorem tw293313272835780309 : True := trivial
theorem tw18261518240614518011 : True := trivial
theorem tw1956516322566537792 : True := trivial
theorem tw10095484514913971708 : True := trivial
theorem tw17673817498595795875 : True := trivial
theorem tw10274217549601546855 : True := trivial
theorem tw1996098866559627402 : True := trivial
theorem tw10483866606038227719 : True := trivial
theorem tw3308665819989759821 : True := trivial
theorem tw14799139022168531036 : True := trivial
theorem tw16341529727419343081 : True := trivial
theorem tw15256395349770494274 : True := trivial
theorem tw4069125589746326107 : True := trivial
theorem tw14673482525995029488 : True := trivial
theorem tw9266000519755744267 : True := trivial
theorem tw13878494762797481619 : True := trivial
theorem tw4116223600781474718 : True := trivial
theorem tw8839601583338649028 : True := trivial
theorem tw13237707238798621877 : True := trivial
theorem tw1195877996255569998 : True := trivial
theorem tw8998979704294479170 : True := trivial
theorem tw124734849681192837 : True := trivial
theorem tw11556847499004825608 : True := trivial
theorem tw17963282384783768724 : True := trivial
theorem tw14584579073672549948 : True := trivial
theorem tw6599067719642472891 : True := trivial
theorem tw11819974140537472565 : True := trivial
theorem tw11437027266020634118 : True := trivial
theorem tw18086808366281692679 : True := trivial
theorem tw3921882867487102825 : True := trivial
theorem tw797641969955306674 : True := trivial
theorem tw3991357250192485665 : True := trivial
theorem tw8360933379067639145 : True := trivial
theorem tw10969325782527676937 : True := trivial
theorem tw14979061026909058152 : True := trivial
theorem tw8433191533933453196 : True := trivial
theorem tw18329012835174596218 : True := trivial
theorem tw9097360361171021069 : True := trivial
theorem tw18116947870230040522 : True := trivial
theorem tw15473623832247995384 : True := trivial
theorem tw769621733816660863 : True := trivial
theorem tw17315535836281772531 : True := trivial
theorem tw7770192135662486128 : True := trivial
theorem tw9401466965570614863 : True := trivial
theorem tw18042525471229095768 : True := trivial
theorem tw8682583502975420609 : True := trivial
theorem tw6436358669348644935 : True := trivial
theorem tw12049152235533117362 : True := trivial
theorem tw10820937586364517888 : True := trivial
theorem tw2602247784885320437 : True := trivial
theorem tw7679307675328512777 : True := trivial
theorem tw1093433356883083992 : True := trivial
theorem tw1989675522325452523 : True := trivial
theorem tw17173882865144448321 : True := trivial
theorem tw3122498033039527591 : True := trivial
theorem tw2611892901312102807 : True := trivial
theorem tw16913856734660890484 : True := trivial
theorem tw11697497907975365077 : True := trivial
theorem tw15459588359571298637 : True := trivial
theorem tw14527415429171714940 : True := trivial
theorem tw16046312540768743092 : True := trivial
theorem tw9618800019793851233 : True := trivial
theorem tw14649043158263064686 : True := trivial
theorem tw8607567611562735060 : True := trivial
theorem tw10970504992540880058 : True := trivial
theorem tw5870672858395790918 : True := trivial
theorem tw4247911189636146375 : True := trivial
theorem tw12366921720850336451 : True := trivial
theorem tw17356331876775711294 : True := trivial
theorem tw6272035545293970262 : True := trivial
theorem tw12297949337086428111 : True := trivial
theorem tw7762244745272656801 : True := trivial
theorem tw7158445913719782553 : True := trivial
theorem tw17703367296959664828 : True := trivial
theorem tw10580167363588793470 : True := trivial
theorem tw5650294863007075251 : True := trivial
theorem tw15378699612728704547 : True := trivial
theorem tw8647555626151608392 : True := trivial
theorem tw15212585704698060768 : True := trivial
theorem tw11563618612531523066 : True := trivial
theorem tw7443115196403951167 : True := trivial
theorem tw17037107538768523461 : True := trivial
theorem tw17868659971093344319 : True := trivial
theorem tw4308731474364048593 : True := trivial
theorem tw3939795585614713433 : True := trivial
theorem tw12540390261779346281 : True := trivial
theorem tw3425946533541635784 : True := trivial
theorem tw16185094781835199173 : True := trivial
theorem tw1379033617393076731 : True := trivial
theorem tw17867029697600314839 : True := trivial
theorem tw2480822306747383031 : True := trivial
theorem tw8813990209554497687 : True := trivial
theorem tw1386743911545393321 : True := trivial
theorem tw7278243671184953844 : True := trivial
theorem tw2178727627286553251 : True := trivial
theorem tw2012908661317044893 : True := trivial
theorem tw5522714679528283759 : True := trivial
theorem tw14071757397682003281 : True := trivial
theorem tw17543895958800948600 : True := trivial
theorem tw12002485536009098224 : True := trivial
theorem tw5180369319949551698 : True := trivial
theorem tw4621183961214660093 : True := trivial
theorem tw7074174152714777082 : True := trivial
theorem tw15827220527687840134 : True := trivial
theorem tw17189511200494336224 : True := trivial
theorem tw3303058732759956776 : True := trivial
theorem tw9117923998511784716 : True := trivial
theorem tw17946677613196575111 : True := trivial
theorem tw8988513152550759103 : True := trivial
theorem tw6711409821793881608 : True := trivial
theorem tw12997439591936774900 : True := trivial
theorem tw11745071428061876327 : True := trivial
theorem tw6413470567174030376 : True := trivial
theorem tw1284197289302087309 : True := trivial
theorem tw2206931903511808597 : True := trivial
theorem tw395829643049345125 : True := trivial
theorem tw5891838317033771906 : True := trivial
theorem tw11785775363588564662 : True := trivial
theorem tw16017840605235385578 : True := trivial
theorem tw15897362118420395798 : True := trivial
theorem tw16966504945563946510 : True := trivial
theorem tw13033717502862671192 : True := trivial
theorem tw2768530769254697822 : True := trivial
theorem tw160154086796211306 : True := trivial
theorem tw1440270971775235432 : True := trivial
theorem tw1954342535166788992 : True := trivial
theorem tw12256817047480033166 : True := trivial
theorem tw15260310237436804732 : True := trivial
theorem tw523733521257509247 : True := trivial
theorem tw18425246394516227754 : True := trivial
theorem tw3992348738123373062 : True := trivial
theorem tw4972661754269873993 : True := trivial
theorem tw8221955459371109720 : True := trivial
theorem tw789107462120650285 : True := trivial
theorem tw13464089633039947806 : True := trivial
theorem tw6835036245835253638 : True := trivial
theorem tw11849104448539306428 : True := trivial
theorem tw3652995761881059705 : True := trivial
theorem tw6097698660653470414 : True := trivial
theorem tw7445077169198276331 : True := trivial
theorem tw5703997729274425633 : True := trivial
theorem tw8251516379225855525 : True := trivial
theorem tw6701022244129836078 : True := trivial
theorem tw8055757775226290034 : True := trivial
theorem tw11170995113700602726 : True := trivial
theorem tw3266810258829442330 : True := trivial
theorem tw13371302199587415347 : True := trivial
theorem tw10801403185303948903 : True := trivial
theorem tw6837417872364990675 : True := trivial
theorem tw6786645400866911501 : True := trivial
theorem tw4874820633917076792 : True := trivial
theorem tw13984218293146255107 : True := trivial
theorem tw5118003165601285422 : True := trivial
theorem tw12786544530290104564 : True := trivial
theorem tw7206863447412972630 : True := trivial
theorem tw8981193839956901848 : True := trivial
theorem tw2914553164186628698 : True := trivial
theorem tw6960863754030860674 : True := trivial
theorem tw8487332084073835509 : True := trivial
theorem tw6727988020812989273 : True := trivial
theorem tw590826609854953323 : True := trivial
theorem tw9786763295573264790 : True := trivial
theorem tw7488273621738190228 : True := trivial
theorem tw3084141863455538672 : True := trivial
theorem tw13809355638242338678 : True := trivial
theorem tw321409299393571124 : True := trivial
theorem tw6274981668297093937 : True := trivial
theorem tw3908982148670853602 : True := trivial
theorem tw6088723484173857315 : True := trivial
theorem tw10140254736771813389 : True := trivial
theorem tw17940066195538487816 : True := trivial
theorem tw3440701502687657792 : True := trivial
theorem tw13636293038226342100 : True := trivial
theorem tw11876604371592003647 : True := trivial
theorem tw12057855131807833722 : True := trivial
theorem tw3840691655589436897 : True := trivial
theorem tw4402854703124953245 : True := trivial
theorem tw17151221195814916094 : True := trivial
theorem tw3971396876502866897 : True := trivial
theorem tw9248787762807214306 : True := trivial
theorem tw4126860515577698755 : True := trivial
theorem tw6454777894481893607 : True := trivial
theorem tw15871322377155741637 : True := trivial
theorem tw14761542176612794515 : True := trivial
theorem tw15629369464305477383 : True := trivial
theorem tw17685412554861935079 : True := trivial
theorem tw2609603789505951504 : True := trivial
theorem tw16070672302566634856 : True := trivial
theorem tw13495379709353393440 : True := trivial
theorem tw9231686262543660346 : True := trivial
theorem tw17214821774712674444 : True := trivial
theorem tw15528065325328574648 : True := trivial
theorem tw8343640259526214327 : True := trivial
theorem tw9838963912024006581 : True := trivial
theorem tw6247943999997127669 : True := trivial
theorem tw12294627514485309577 : True := trivial
theorem tw1271485215576612699 : True := trivial
theorem tw11892531470533369406 : True := trivial
theorem tw14714961234029466303 : True := trivial
theorem tw16952756582151514808 : True := trivial
theorem tw8807716399119618174 : True := trivial
theorem tw10472177550288737501 : True := trivial
theorem tw11279490464473987624 : True := trivial
theorem tw7449119150397062101 : True := trivial
theorem tw8851981873762974840 : True := trivial
theorem tw4994730576796171916 : True := trivial
theorem tw10025938957539817406 : True := trivial
theorem tw11565148478648898710 : True := trivial
theorem tw6878522268626654881 : True := trivial
theorem tw94810728379994455 : True := trivial
theorem tw14262888404564151532 : True := trivial
theorem tw16425387513101598487 : True := trivial
theorem tw6180666800282076388 : True := trivial
theorem tw16311131612458187407 : True := trivial
theorem tw15983777169398994800 : True := trivial
theorem tw15568268436240091097 : True := trivial
theorem tw7180485127954831391 : True := trivial
theorem tw15378583962723211713 : True := trivial
theorem tw14276912625563093843 : True := trivial
theorem tw5762582700896820201 : True := trivial
theorem tw10044517661599358402 : True := trivial
theorem tw6158690934436662661 : True := trivial
theorem tw185068348852087731 : True := trivial
theorem tw9232920719158683042 : True := trivial
theorem tw1817881978922859144 : True := trivial
theorem tw15864696199558231916 : True := trivial
theorem tw16173097631375825638 : True := trivial
theorem tw688370044510825442 : True := trivial
theorem tw16709309379994558197 : True := trivial
theorem tw13318718721631797723 : True := trivial
theorem tw1442974920565996591 : True := trivial
theorem tw4302207924500322993 : True := trivial
theorem tw7494974289223715698 : True := trivial
theorem tw7634545434083728042 : True := trivial
theorem tw1062325859387439289 : True := trivial
theorem tw7482323731441118274 : True := trivial
theorem tw17378103244472972174 : True := trivial
theorem tw13627658321596245065 : True := trivial
theorem tw16117537788891701041 : True := trivial
theorem tw14114897116636405171 : True := trivial
theorem tw6142446046747118292 : True := trivial
theorem tw8142420895931733932 : True := trivial
theorem tw14648883792979381862 : True := trivial
theorem tw7442742590834169578 : True := trivial
theorem tw6329539187195780188 : True := trivial
theorem tw13157578642603675942 : True := trivial
theorem tw2469162263677432345 : True := trivial
theorem tw10781738303449778233 : True := trivial
theorem tw1957683650389862859 : True := trivial
theorem tw12693257629264281411 : True := trivial
theorem tw16217544068353573417 : True := trivial
theorem tw14482042548549292026 : True := trivial
theorem tw18442926461743964525 : True := trivial
theorem tw4409870499121379682 : True := trivial
theorem tw7900478242119854878 : True := trivial
theorem tw11977159181299116642 : True := trivial
theorem tw5643984691002933964 : True := trivial
theorem tw9060196833962858544 : True := trivial
theorem tw5019492768873994031 : True := trivial
theorem tw4022748036093622906 : True := trivial
theorem tw12990080299006647416 : True := trivial
theorem tw11179590351205228736 : True := trivial
theorem tw10129951469179010357 : True := trivial
theorem tw15777394704464843819 : True := trivial
theorem tw11716249284563763701 : True := trivial
theorem tw12244014419721538961 : True := trivial
theorem tw17079253848244406920 : True := trivial
theorem tw2213097127383854658 : True := trivial
theorem tw16366773036136280332 : True := trivial
theorem tw3692073728710551986 : True := trivial
theorem tw12543666149929474953 : True := trivial
theorem tw6603417243213704733 : True := trivial
theorem tw15842881165214325338 : True := trivial
theorem tw15817701421900096272 : True := trivial
theorem tw16195465817301759621 : True := trivial
theorem tw16256709143077799714 : True := trivial
theorem tw4965823857907761709 : True := trivial
theorem tw17843568568411961564 : True := trivial
theorem tw13911303581267653424 : True := trivial
theorem tw9711827649345594991 : True := trivial
theorem tw15152150541373243525 : True := trivial
theorem tw4871020063855932841 : True := trivial
theorem tw7489449459502940896 : True := trivial
theorem tw6958023286952523387 : True := trivial
theorem tw8329542428891212027 : True := trivial
theorem tw1903221027210042917 : True := trivial
theorem tw12181117355813270050 : True := trivial
theorem tw18401173905235204590 : True := trivial
theorem tw12151262020284445135 : True := trivial
theorem tw5218285111995197359 : True := trivial
theorem tw14995908047145905899 : True := trivial
theorem tw12536769146583535168 : True := trivial
theorem tw13791400632330352804 : True := trivial
theorem tw14865024961676412599 : True := trivial
theorem tw9233976500321093115 : True := trivial
theorem tw5128344119927166483 : True := trivial
theorem tw10129697193844605386 : True := trivial
theorem tw13465856016858386227 : True := trivial
theorem tw6081133021415406571 : True := trivial
theorem tw12176975343779741994 : True := trivial
theorem tw6192341682453652809 : True := trivial
theorem tw2348962960905262852 : True := trivial
theorem tw4928160223101207256 : True := trivial
theorem tw10067782972956060405 : True := trivial
theorem tw13514123876316932284 : True := trivial
theorem tw17062053345412330181 : True := trivial
theorem tw13175657705185013777 : True := trivial
theorem tw3999921590113683792 : True := trivial
theorem tw16682785643488718496 : True := trivial
theorem tw2113127398013366845 : True := trivial
theorem tw4916325613800260817 : True := trivial
theorem tw10206810910739166569 : True := trivial
theorem tw14794077539165067838 : True := trivial
theorem tw914682115801001425 : True := trivial
theorem tw14554723367076064483 : True := trivial
theorem tw3077640360171733327 : True := trivial
theorem tw1025461377003747697 : True := trivial
theorem tw10247838339004510869 : True := trivial
theorem tw8198945461901583253 : True := trivial
theorem tw923388975533373224 : True := trivial
theorem tw8278880356999190007 : True := trivial
theorem tw4142351658705390047 : True := trivial
theorem tw14916847335091371971 : True := trivial
theorem tw4465592113661439950 : True := trivial
theorem tw15204495237796780891 : True := trivial
theorem tw8040457182021915248 : True := trivial
theorem tw4757033888335307911 : True := trivial
theorem tw12571927846874920525 : True := trivial
theorem tw14204218895888011642 : True := trivial
theorem tw11854889775315079177 : True := trivial
theorem tw17602119532838792914 : True := trivial
theorem tw2769839097160980672 : True := trivial
theorem tw14588636061030846298 : True := trivial
theorem tw7490196597156441915 : True := trivial
theorem tw3228084359578123549 : True := trivial
theorem tw5777223715743017912 : True := trivial
theorem tw16152900024803169005 : True := trivial
theorem tw8173972925083650473 : True := trivial
theorem tw14628524128349025627 : True := trivial
theorem tw17882706711239789186 : True := trivial
theorem tw1134252856719247855 : True := trivial
theorem tw3086101641824966007 : True := trivial
theorem tw11068631322110613378 : True := trivial
theorem tw12574074402537403981 : True := trivial
theorem tw4129196240454636958 : True := trivial
theorem tw11587687014658246223 : True := trivial
theorem tw2545482668520876455 : True := trivial
theorem tw14724963545144785169 : True := trivial
theorem tw14232015411115689842 : True := trivial
theorem tw14741284900961168535 : True := trivial
theorem tw8571044055988476564 : True := trivial
theorem tw13376938218725342572 : True := trivial
theorem tw2007195241405705446 : True := trivial
theorem tw4873445092166095356 : True := trivial
theorem tw1706497122568182893 : True := trivial
theorem tw17419562273957421082 : True := trivial
theorem tw15914886179884105025 : True := trivial
theorem tw7471540934699076437 : True := trivial
theorem tw491760090910567228 : True := trivial
theorem tw7847978757763881294 : True := trivial
theorem tw18014491400409677588 : True := trivial
theorem tw10647419123867959204 : True := trivial
theorem tw587026601087189170 : True := trivial
theorem tw11439741403645296208 : True := trivial
theorem tw15761885045513628324 : True := trivial
theorem tw3167515237608257075 : True := trivial
theorem tw15321646802639226708 : True := trivial
theorem tw9701979180343994091 : True := trivial
theorem tw13006329949537610778 : True := trivial
theorem tw15133950928698159222 : True := trivial
theorem tw16496570666788897315 : True := trivial
theorem tw13956626989787528767 : True := trivial
theorem tw2729665676535739161 : True := trivial
theorem tw13540166409698196780 : True := trivial
theorem tw11928064723909805667 : True := trivial
theorem tw1175721153650433729 : True := trivial
theorem tw7896394786171288357 : True := trivial
theorem tw15277503652133195622 : True := trivial
theorem tw8075816916850411467 : True := trivial
theorem tw1239515962410196809 : True := trivial
theorem tw4152843585218428631 : True := trivial
theorem tw18063384858362191815 : True := trivial
theorem tw3493460026513166074 : True := trivial
theorem tw10829662335333712010 : True := trivial
theorem tw2883304385269015566 : True := trivial
theorem tw7985042633485012391 : True := trivial
theorem tw215047216753814569 : True := trivial
theorem tw17778623935411465064 : True := trivial
theorem tw6232429780561809240 : True := trivial
theorem tw8317286140105117398 : True := trivial
theorem tw15691639895175814492 : True := trivial
theorem tw13573100583640383550 : True := trivial
theorem tw13636082218238630264 : True := trivial
theorem tw2258754446027475874 : True := trivial
theorem tw13376929166472651886 : True := trivial
theorem tw3821064974088843636 : True := trivial
theorem tw2629845104211227219 : True := trivial
theorem tw14506879988081831367 : True := trivial
theorem tw9109861906842358682 : True := trivial
theorem tw16052684222228735018 : True := trivial
theorem tw14615842214037011323 : True := trivial
theorem tw13879149516177557636 : True := trivial
theorem tw13717973824649947661 : True := trivial
theorem tw13577745494989432648 : True := trivial
theorem tw5203352181642364011 : True := trivial
theorem tw11038043114239806215 : True := trivial
theorem tw2729674149857551291 : True := trivial
theorem tw6594157055434070827 : True := trivial
theorem tw13936711156050380684 : True := trivial
theorem tw3698283813213129274 : True := trivial
theorem tw13606234816481984576 : True := trivial
theorem tw9764142462876773861 : True := trivial
theorem tw13621667681103926787 : True := trivial
theorem tw14418721164924479478 : True := trivial
theorem tw13830484414990646659 : True := trivial
theorem tw15655325262706593469 : True := trivial
theorem tw12243827552341982182 : True := trivial
theorem tw9195582133141984452 : True := trivial
theorem tw18099446183146449728 : True := trivial
theorem tw10660498294047162756 : True := trivial
theorem tw2420249254709066435 : True := trivial
theorem tw9872598887166599186 : True := trivial
theorem tw8580164557795413439 : True := trivial
theorem tw7408949131051778253 : True := trivial
theorem tw10316789704141524925 : True := trivial
theorem tw17164797934617003021 : True := trivial
theorem tw3812638077206108386 : True := trivial
theorem tw8541238734840865244 : True := trivial
theorem tw7523047003841021893 : True := trivial
theorem tw10230976977474357616 : True := trivial
theorem tw7327708137163696846 : True := trivial
theorem tw15270973144449125127 : True := trivial
theorem tw12337489485222115117 : True := trivial
theorem tw18424658929609982643 : True := trivial
theorem tw8327917477448298804 : True := trivial
theorem tw18332277241032654470 : True := trivial
theorem tw10654143082689086588 : True := trivial
theorem tw6295559858647335740 : True := trivial
theorem tw10478766906383725428 : True := trivial
theorem tw11170003623244352990 : True := trivial
theorem tw12712182107864448177 : True := trivial
theorem tw9985637117083482743 : True := trivial
theorem tw1336142156464976785 : True := trivial
theorem tw1928746345319839251 : True := trivial
theorem tw6172775653467182633 : True := trivial
theorem tw8566812752102405862 : True := trivial
theorem tw11714248920497755200 : True := trivial
theorem tw9764037192163317681 : True := trivial
theorem tw14083772977555469138 : True := trivial
theorem tw14341289389928821438 : True := trivial
theorem tw6907898650083804881 : True := trivial
theorem tw17975823255963288392 : True := trivial
theorem tw3924376242086857142 : True := trivial
theorem tw366927980383080960 : True := trivial
theorem tw15248451260888655395 : True := trivial
theorem tw11340096485280905306 : True := trivial
theorem tw18217148395603378420 : True := trivial
theorem tw2449038600532735789 : True := trivial
theorem tw4945062380957817738 : True := trivial
theorem tw10615322818724753036 : True := trivial
theorem tw9134758956231513687 : True := trivial
theorem tw1136603151647827463 : True := trivial
theorem tw12111772617647667425 : True := trivial
theorem tw9871307035920303453 : True := trivial
theorem tw6984475898644967707 : True := trivial
theorem tw91042323020559328 : True := trivial
theorem tw11681633894111869613 : True := trivial
theorem tw10491343975942522837 : True := trivial
theorem tw14152161410443668272 : True := trivial
theorem tw11662660501598172351 : True := trivial
theorem tw17792446382245096593 : True := trivial
theorem tw14274375515772413018 : True := trivial
theorem tw7218902319218619239 : True := trivial
theorem tw8632030491705790358 : True := trivial
theorem tw4415862853422226231 : True := trivial
theorem tw5644073559931017939 : True := trivial
theorem tw10340756029163509717 : True := trivial
theorem tw5590049398969757817 : True := trivial
theorem tw5694712189054003831 : True := trivial
theorem tw17386648841652208292 : True := trivial
theorem tw464105715473763460 : True := trivial
theorem tw17771219352699410114 : True := trivial
theorem tw4965185269844423047 : True := trivial
theorem tw1416893012750496699 : True := trivial
theorem tw895822804661463326 : True := trivial
theorem tw3721160890316123179 : True := trivial
theorem tw3880715165421378457 : True := trivial
theorem tw38980301233285987 : True := trivial
theorem tw6034855251167651471 : True := trivial
theorem tw6452392355146612471 : True := trivial
theorem tw10658657415678979886 : True := trivial
theorem tw3697640499901119857 : True := trivial
theorem tw10693170141825776250 : True := trivial
theorem tw9354889458205879851 : True := trivial
theorem tw1181823858601676049 : True := trivial
theorem tw11528172189227437559 : True := trivial
theorem tw12979133559387644411 : True := trivial
theorem tw13505829613755993648 : True := trivial
theorem tw9802354240679893597 : True := trivial
theorem tw12640364355032085600 : True := trivial
theorem tw16151828544744741088 : True := trivial
theorem tw4397878425815066657 : True := trivial
theorem tw14076888607650122933 : True := trivial
theorem tw3254166240058537959 : True := trivial
theorem tw12951918126692611594 : True := trivial
theorem tw5391214634968813887 : True := trivial
theorem tw7274479560315520317 : True := trivial
theorem tw724558779965727449 : True := trivial
theorem tw4630540819353255210 : True := trivial
theorem tw3010456380685177376 : True := trivial
theorem tw14813413376255278089 : True := trivial
theorem tw6676456077488021215 : True := trivial
theorem tw1402711551878844617 : True := trivial
theorem tw17257373317449429666 : True := trivial
theorem tw11077864101282554545 : True := trivial
theorem tw15820336687792804314 : True := trivial
theorem tw1458428609800732863 : True := trivial
theorem tw8098753598556866154 : True := trivial
theorem tw732130421693675866 : True := trivial
theorem tw7132198210477899606 : True := trivial
theorem tw9286648192671470386 : True := trivial
theorem tw14435485720601780474 : True := trivial
theorem tw11139050296586030477 : True := trivial
theorem tw2309960279687097690 : True := trivial
theorem tw15292917617116115718 : True := trivial
theorem tw14431140875502924054 : True := trivial
theorem tw5925594357386219990 : True := trivial
theorem tw1086339275329668826 : True := trivial
theorem tw4129787215137042429 : True := trivial
theorem tw7254289202197347678 : True := trivial
theorem tw3209132219039941867 : True := trivial
theorem tw7786236524826833857 : True := trivial
theorem tw15519304240262825294 : True := trivial
theorem tw9406037732133929013 : True := trivial
theorem tw18414851568111941470 : True := trivial
theorem tw2188876987068109100 : True := trivial
theorem tw17829811766528310339 : True := trivial
theorem tw1601283090963246469 : True := trivial
theorem tw6331113063107157348 : True := trivial
theorem tw632659558308995701 : True := trivial
theorem tw12177916225885029685 : True := trivial
theorem tw5117816409628131132 : True := trivial
theorem tw15022074994624594345 : True := trivial
theorem tw1279807345051092668 : True := trivial
theorem tw9205210567950157405 : True := trivial
theorem tw15272223161625126303 : True := trivial
theorem tw17441032603840494376 : True := trivial
theorem tw17947827494016901224 : True := trivial
theorem tw254704530121581687 : True := trivial
theorem tw2875804297364748341 : True := trivial
theorem tw14605371681450811622 : True := trivial
theorem tw15239374257970883444 : True := trivial
theorem tw2221946121289314725 : True := trivial
theorem tw16644384583928197213 : True := trivial
theorem tw10929596050870928483 : True := trivial
theorem tw11839185847324730714 : True := trivial
theorem tw11848121791985163189 : True := trivial
theorem tw12556955188206990849 : True := trivial
theorem tw10413350286647490681 : True := trivial
theorem tw5648089332546919893 : True := trivial
theorem tw10531692059888780727 : True := trivial
theorem tw12066408178571579222 : True := trivial
theorem tw11029273103068939102 : True := trivial
theorem tw4914193813368885619 : True := trivial
theorem tw1001354112657205372 : True := trivial
theorem tw14753796554941420082 : True := trivial
theorem tw10422822751781443467 : True := trivial
theorem tw12530465290300385435 : True := trivial
theorem tw2811348167975186345 : True := trivial
theorem tw3655545948312868118 : True := trivial
theorem tw8641497105035360225 : True := trivial
theorem tw7213276415901901155 : True := trivial
theorem tw9337688305621232269 : True := trivial
theorem tw13711421396325976661 : True := trivial
theorem tw8295222315832393791 : True := trivial
theorem tw4832867071568933438 : True := trivial
theorem tw15270488632383273919 : True := trivial
theorem tw11013032812596705834 : True := trivial
theorem tw11599714604792633838 : True := trivial
theorem tw15038311646191832542 : True := trivial
theorem tw11795749533171821259 : True := trivial
theorem tw11055793554737527673 : True := trivial
theorem tw1604467305427312675 : True := trivial
theorem tw2641466649547006028 : True := trivial
theorem tw2443138356639437906 : True := trivial
theorem tw17026708375991361518 : True := trivial
theorem tw3802257522861542556 : True := trivial
theorem tw17046900438068990300 : True := trivial
theorem tw12904550259763055344 : True := trivial
theorem tw4852196614346853388 : True := trivial
theorem tw3245614912997322488 : True := trivial
theorem tw12744301583193201770 : True := trivial
theorem tw7724552259674012809 : True := trivial
theorem tw13291629158670309009 : True := trivial
theorem tw16462032421694202786 : True := trivial
theorem tw14619121105308321506 : True := trivial
theorem tw14273300841964646718 : True := trivial
theorem tw10773684851784831942 : True := trivial
theorem tw16257540814954697362 : True := trivial
theorem tw9662700127633329741 : True := trivial
theorem tw15774063484618780642 : True := trivial
theorem tw17696943269121831919 : True := trivial
theorem tw7597906260676547583 : True := trivial
theorem tw13126314665859216381 : True := trivial
theorem tw2537202381390032644 : True := trivial
theorem tw1611223535147633917 : True := trivial
theorem tw14456731889284326653 : True := trivial
theorem tw14974848787801997480 : True := trivial
theorem tw2982362290690361634 : True := trivial
theorem tw3162234044945950049 : True := trivial
theorem tw13989460713491264934 : True := trivial
theorem tw3157396808684921015 : True := trivial
theorem tw13992032846046338368 : True := trivial
theorem tw17629407134205299659 : True := trivial
theorem tw11948847686194854289 : True := trivial
theorem tw1665471197413221933 : True := trivial
theorem tw5231004871390875848 : True := trivial
theorem tw1623055411893324466 : True := trivial
theorem tw11959341513301021931 : True := trivial
theorem tw16292075583999787346 : True := trivial
theorem tw1728901784832713859 : True := trivial
theorem tw7581686828146687531 : True := trivial
theorem tw5475405800796409049 : True := trivial
theorem tw16764403672329801467 : True := trivial
theorem tw13654208887261589752 : True := trivial
theorem tw13662243943675084291 : True := trivial
theorem tw2460335794079292665 : True := trivial
theorem tw6115876336327132370 : True := trivial
theorem tw6245255871924676904 : True := trivial
theorem tw6582520080676826614 : True := trivial
theorem tw1239203780450751940 : True := trivial
theorem tw3005888068014482363 : True := trivial
theorem tw4496116311381862555 : True := trivial
theorem tw11405033136317731048 : True := trivial
theorem tw7824135853775185179 : True := trivial
theorem tw12004857622933762645 : True := trivial
theorem tw10369383543480489102 : True := trivial
theorem tw14614982267320103108 : True := trivial
theorem tw4169606960448643654 : True := trivial
theorem tw4327526640103457680 : True := trivial
theorem tw8922349977323105252 : True := trivial
theorem tw9432591394096805492 : True := trivial
theorem tw2990046231079225457 : True := trivial
theorem tw10810575219051501517 : True := trivial
theorem tw7228794841912985498 : True := trivial
theorem tw3936887384927793104 : True := trivial
theorem tw10610857487352011012 : True := trivial
theorem tw9233228608899290340 : True := trivial
theorem tw799192118262618755 : True := trivial
theorem tw6540224532423560640 : True := trivial
theorem tw9224500691388281318 : True := trivial
theorem tw7972404832925187584 : True := trivial
theorem tw8289828788520059698 : True := trivial
theorem tw17643813794921624489 : True := trivial
theorem tw18075637076885952771 : True := trivial
theorem tw18132077088905949226 : True := trivial
theorem tw7608122124830658418 : True := trivial
theorem tw6836149910108699248 : True := trivial
theorem tw8013799789279080624 : True := trivial
theorem tw5766914571028004106 : True := trivial
theorem tw4598327468389672255 : True := trivial
theorem tw9760538867491093419 : True := trivial
theorem tw9864775602852447967 : True := trivial
theorem tw17338326585267447090 : True := trivial
theorem tw16614620938514107896 : True := trivial
theorem tw17469829954139798660 : True := trivial
theorem tw15384831449598857818 : True := trivial
theorem tw5689809272799428188 : True := trivial
theorem tw12109141842600738147 : True := trivial
theorem tw15803310741607183685 : True := trivial
theorem tw4626614002717739246 : True := trivial
theorem tw6227681720322927021 : True := trivial
theorem tw4997661425911502219 : True := trivial
theorem tw10490145413388542032 : True := trivial
theorem tw17732043537596422458 : True := trivial
theorem tw11336766345130633882 : True := trivial
theorem tw9787673855990500415 : True := trivial
theorem tw6509485096914776002 : True := trivial
theorem tw2775229762718492085 : True := trivial
theorem tw880044393835457782 : True := trivial
theorem tw1356671642460653251 : True := trivial
theorem tw16493292946844026033 : True := trivial
theorem tw663960307711956705 : True := trivial
theorem tw11329868271127972394 : True := trivial
theorem tw1139406290160509728 : True := trivial
theorem tw12082339246532237790 : True := trivial
theorem tw1904471608614720256 : True := trivial
theorem tw4264367053554175596 : True := trivial
theorem tw6571518913313230658 : True := trivial
theorem tw9024945310993825080 : True := trivial
theorem tw17762033186401411764 : True := trivial
theorem tw10415466623812130304 : True := trivial
theorem tw860389694953024449 : True := trivial
theorem tw7603437429990114989 : True := trivial
theorem tw17215323311611314457 : True := trivial
theorem tw8236613473490594537 : True := trivial
theorem tw14911518222910560400 : True := trivial
theorem tw16264231789233175589 : True := trivial
theorem tw6402349977424000377 : True := trivial
theorem tw2042308703570897785 : True := trivial
theorem tw8111699303596443494 : True := trivial
theorem tw10021987228338270472 : True := trivial
theorem tw1364488390335334321 : True := trivial
theorem tw14175770589004779105 : True := trivial
theorem tw1045808623566592819 : True := trivial
theorem tw10030581909588097197 : True := trivial
theorem tw3129761445249200466 : True := trivial
theorem tw9594965514941812042 : True := trivial
theorem tw15272253364206803657 : True := trivial
theorem tw12621135510559945742 : True := trivial
theorem tw10738714864417831344 : True := trivial
theorem tw15352530045207427876 : True := trivial
theorem tw17383374625869632060 : True := trivial
theorem tw5071441725333321154 : True := trivial
theorem tw4360033863303230914 : True := trivial
theorem tw16295353569481156621 : True := trivial
theorem tw6313332648793554551 : True := trivial
theorem tw16159579323226804571 : True := trivial
theorem tw11707206199275906206 : True := trivial
theorem tw964593443772792551 : True := trivial
theorem tw8127418063089751402 : True := trivial
theorem tw1336833640354662317 : True := trivial
theorem tw12509424288711492602 : True := trivial
theorem tw13926774140790105766 : True := trivial
theorem tw9107373635081766313 : True := trivial
theorem tw13869835302270282295 : True := trivial
theorem tw4584733909642366456 : True := trivial
theorem tw14421521140613904028 : True := trivial
theorem tw17288761161278655592 : True := trivial
theorem tw14598123658868310778 : True := trivial
theorem tw2930837398580031018 : True := trivial
theorem tw8725655857949051202 : True := trivial
theorem tw15329378667925222578 : True := trivial
theorem tw9025636041408197959 : True := trivial
theorem tw11330214689690353978 : True := trivial
theorem tw7301560412563751933 : True := trivial
theorem tw16651813752264105352 : True := trivial
theorem tw13509195473588781073 : True := trivial
theorem tw16501178351406147015 : True := trivial
theorem tw192620251279040108 : True := trivial
theorem tw1608427477794138815 : True := trivial
theorem tw17778440105222264326 : True := trivial
theorem tw9574863976240557368 : True := trivial
theorem tw12872888483031965579 : True := trivial
theorem tw4481936105188916265 : True := trivial
theorem tw1758081998690208717 : True := trivial
theorem tw14539285145746023406 : True := trivial
theorem tw10976210722321282473 : True := trivial
theorem tw7868481662167588188 : True := trivial
theorem tw750655187303436849 : True := trivial
theorem tw7436912439960401118 : True := trivial
theorem tw1480172795362778103 : True := trivial
theorem tw15017642062744338795 : True := trivial
theorem tw4588767707785076771 : True := trivial
theorem tw5074949719145183764 : True := trivial
theorem tw6620914892300522717 : True := trivial
theorem tw16482853356754159207 : True := trivial
theorem tw13098815412620762452 : True := trivial
theorem tw4658153841776449764 : True := trivial
theorem tw16429440589956194080 : True := trivial
theorem tw11764531239785436348 : True := trivial
theorem tw7789029715634605014 : True := trivial
theorem tw5932949924779639745 : True := trivial
theorem tw17541621289123602197 : True := trivial
theorem tw7621620285054935700 : True := trivial
theorem tw12720800511775175249 : True := trivial
theorem tw8605832203430936368 : True := trivial
theorem tw13551760480118849719 : True := trivial
theorem tw1740586692101008 : True := trivial
theorem tw17423627284532296624 : True := trivial
theorem tw2290264943202966134 : True := trivial
theorem tw8718491277580812293 : True := trivial
theorem tw1062173522338468605 : True := trivial
theorem tw8175134920581466752 : True := trivial
theorem tw6588857621658914926 : True := trivial
theorem tw1204488909764019411 : True := trivial
theorem tw360874756542394149 : True := trivial
theorem tw10453239919867844487 : True := trivial
theorem tw12703051208718064264 : True := trivial
theorem tw2857477575311013953 : True := trivial
theorem tw9186691363300348205 : True := trivial
theorem tw18216849592648519038 : True := trivial
theorem tw8017701294819281655 : True := trivial
theorem tw14170952409364438422 : True := trivial
theorem tw2499052153626762094 : True := trivial
theorem tw16487528244866854766 : True := trivial
theorem tw9853192204303369299 : True := trivial
theorem tw14633448106514167643 : True := trivial
theorem tw11229222064377214223 : True := trivial
theorem tw1307424333309366480 : True := trivial
theorem tw13726344388847712255 : True := trivial
theorem tw2737647490439728163 : True := trivial
theorem tw17313079724966369317 : True := trivial
theorem tw6824325862010929764 : True := trivial
theorem tw4304605025309701346 : True := trivial
theorem tw9122114235957647771 : True := trivial
theorem tw15983848763381303500 : True := trivial
theorem tw9232557543266604078 : True := trivial
theorem tw12905213735201720314 : True := trivial
theorem tw17425342079957653904 : True := trivial
theorem tw3414986397991527745 : True := trivial
theorem tw13643031666086395961 : True := trivial
theorem tw12660615691254349233 : True := trivial
theorem tw2557204258120812407 : True := trivial
theorem tw3198527537695061835 : True := trivial
theorem tw4671868237265384987 : True := trivial
theorem tw1105547089569594 : True := trivial
theorem tw2775817525389061398 : True := trivial
theorem tw10801544430081989864 : True := trivial
theorem tw4594475928296832988 : True := trivial
theorem tw11432950300506106189 : True := trivial
theorem tw6958117476256044720 : True := trivial
theorem tw493568530769299670 : True := trivial
theorem tw3794953961301222174 : True := trivial
theorem tw11817800661086190156 : True := trivial
theorem tw16035131988243700968 : True := trivial
theorem tw13011929030888144216 : True := trivial
theorem tw18302562453963783605 : True := trivial
theorem tw4551770560516526812 : True := trivial
theorem tw12016234428626876835 : True := trivial
theorem tw8745965555778518305 : True := trivial
theorem tw7071186147719123420 : True := trivial
theorem tw14671246454560112062 : True := trivial
theorem tw10022633339342423319 : True := trivial
theorem tw5400632762049066405 : True := trivial
theorem tw10824739722008319262 : True := trivial
theorem tw7036828341366252660 : True := trivial
theorem tw6959193358725916439 : True := trivial
theorem tw2157555378600359879 : True := trivial
theorem tw5681979592026779201 : True := trivial
theorem tw17679269572285577629 : True := trivial
theorem tw14942889025389619059 : True := trivial
theorem tw1394843309169517333 : True := trivial
theorem tw4874553180859168773 : True := trivial
theorem tw9816105229018428277 : True := trivial
theorem tw4263288679215737193 : True := trivial
theorem tw9641545340573579677 : True := trivial
theorem tw5125707151730823707 : True := trivial
theorem tw761614979340812346 : True := trivial
theorem tw11323809662024983133 : True := trivial
theorem tw2034760344169204651 : True := trivial
theorem tw1023596795474910220 : True := trivial
theorem tw8262402985410804375 : True := trivial
theorem tw4389333959175326639 : True := trivial
theorem tw17245287281375188863 : True := trivial
theorem tw13965411720012568827 : True := trivial
theorem tw12655967377066427484 : True := trivial
theorem tw5231461497689256318 : True := trivial
theorem tw12115043245962328668 : True := trivial
theorem tw17198265959523801768 : True := trivial
theorem tw14447560837740320102 : True := trivial
theorem tw6510874675152052303 : True := trivial
theorem tw9451697171080724609 : True := trivial
theorem tw14780686893997404421 : True := trivial
theorem tw14627270933988127990 : True := trivial
theorem tw13811082677261610329 : True := trivial
theorem tw18237244521254158871 : True := trivial
theorem tw14533836967933683448 : True := trivial
theorem tw3583136608524933824 : True := trivial
theorem tw13526089932257758136 : True := trivial
theorem tw17616014671029572423 : True := trivial
theorem tw5074202991863682465 : True := trivial
theorem tw5865276655844555134 : True := trivial
theorem tw14986796964874100585 : True := trivial
theorem tw7390152199174860159 : True := trivial
theorem tw450643868061833454 : True := trivial
theorem tw6804417430337966705 : True := trivial
theorem tw688282565907335975 : True := trivial
theorem tw2113144022286153156 : True := trivial
theorem tw2692875386143763220 : True := trivial
theorem tw11542013008760867434 : True := trivial
theorem tw189351135729156557 : True := trivial
theorem tw8428941244589934271 : True := trivial
theorem tw15176657804749610948 : True := trivial
theorem tw272135470122988671 : True := trivial
theorem tw15609066151034045314 : True := trivial
theorem tw12072334281361718720 : True := trivial
theorem tw17739641987240543852 : True := trivial
theorem tw17087644529407992948 : True := trivial
theorem tw4446027925164716766 : True := trivial
theorem tw6150098200703130003 : True := trivial
theorem tw6907017011662357765 : True := trivial
theorem tw15490347340637179213 : True := trivial
theorem tw2926583364825351861 : True := trivial
theorem tw496211158115599746 : True := trivial
theorem tw4310669976903994439 : True := trivial
theorem tw13957561101668997870 : True := trivial
theorem tw8222424058112663 : True := trivial
theorem tw10300820900234283812 : True := trivial
theorem tw4921823215204213501 : True := trivial
theorem tw8437958538873321988 : True := trivial
theorem tw9406521650322266574 : True := trivial
theorem tw14578005031250682094 : True := trivial
theorem tw13069478414157156067 : True := trivial
theorem tw17874174440306235541 : True := trivial
theorem tw877176816918927201 : True := trivial
theorem tw9591081372334693351 : True := trivial
theorem tw15261315993347186050 : True := trivial
theorem tw11105542652365119887 : True := trivial
theorem tw6358805062707878381 : True := trivial
theorem tw2881023085914769254 : True := trivial
theorem tw16205637154904523456 : True := trivial
theorem tw6799333389712025041 : True := trivial
theorem tw9028781030456118163 : True := trivial
theorem tw16292714613873685523 : True := trivial
theorem tw3654065327506401286 : True := trivial
theorem tw1382906324559363805 : True := trivial
theorem tw639527273328225723 : True := trivial
theorem tw1503559812550092035 : True := trivial
theorem tw16145788672655466317 : True := trivial
theorem tw13700740109250122406 : True := trivial
theorem tw9336175188456285381 : True := trivial
theorem tw2655006434203295447 : True := trivial
theorem tw419619341300262901 : True := trivial
theorem tw11614073637530601240 : True := trivial
theorem tw12267657234448579807 : True := trivial
theorem tw1810517670208920985 : True := trivial
theorem tw5556733477056157933 : True := trivial
theorem tw17788135431440240533 : True := trivial
theorem tw6926109774346483705 : True := trivial
theorem tw15936384378796610388 : True := trivial
theorem tw1897418195698215176 : True := trivial
theorem tw4366985863466387946 : True := trivial
theorem tw4572241868436137332 : True := trivial
theorem tw6421167696408649482 : True := trivial
theorem tw5093893644246298370 : True := trivial
theorem tw15337850298808133752 : True := trivial
theorem tw3452315507907134780 : True := trivial
theorem tw10874029647728756043 : True := trivial
theorem tw11799436181203625218 : True := trivial
theorem tw17134781006804088408 : True := trivial
theorem tw16326585577624424733 : True := trivial
theorem tw1972247043419928985 : True := trivial
theorem tw2189610273390204871 : True := trivial
theorem tw5314129797376464021 : True := trivial
theorem tw5042198851558460908 : True := trivial
theorem tw92522960255720257 : True := trivial
theorem tw11141491052105755924 : True := trivial
theorem tw6318770958038708620 : True := trivial
theorem tw13595647498380546737 : True := trivial
theorem tw2111133716505193291 : True := trivial
theorem tw5444817868828109418 : True := trivial
theorem tw5873175977870162125 : True := trivial
theorem tw2652924890275952832 : True := trivial
theorem tw2118568203015544196 : True := trivial
theorem tw11061146774522027834 : True := trivial
theorem tw11485094928021543875 : True := trivial
theorem tw17552921159656654738 : True := trivial
theorem tw1933957166290049112 : True := trivial
theorem tw18293563307633537274 : True := trivial
theorem tw8675785352645426527 : True := trivial
theorem tw15458729908717445166 : True := trivial
theorem tw8484569269333001905 : True := trivial
theorem tw393331241337933005 : True := trivial
theorem tw9678691626628683337 : True := trivial
theorem tw3842645251624014277 : True := trivial
theorem tw9077471136788300266 : True := trivial
theorem tw2979269912470821859 : True := trivial
theorem tw1398994020042781247 : True := trivial
theorem tw11229465960692825965 : True := trivial
theorem tw13865773289233046183 : True := trivial
theorem tw8553497886496080244 : True := trivial
theorem tw13007284378507903495 : True := trivial
theorem tw6221724739069649905 : True := trivial
theorem tw5653500874436614760 : True := trivial
theorem tw9271409032962245858 : True := trivial
theorem tw6856073909512117586 : True := trivial
theorem tw7606075469457233098 : True := trivial
theorem tw12358540347114058749 : True := trivial
theorem tw3944056983394477874 : True := trivial
theorem tw6831856398336409515 : True := trivial
theorem tw9200878025760455381 : True := trivial
theorem tw5625735999310129839 : True := trivial
theorem tw12297895722344540107 : True := trivial
theorem tw5340528483604495155 : True := trivial
theorem tw11730713516601812123 : True := trivial
theorem tw14897565450762513458 : True := trivial
theorem tw13213890495814837661 : True := trivial
theorem tw16447072614907846124 : True := trivial
theorem tw14283351314122962183 : True := trivial
theorem tw2036140208671115300 : True := trivial
theorem tw11856653483462674427 : True := trivial
theorem tw9012903120568545880 : True := trivial
theorem tw17373809366683945944 : True := trivial
theorem tw757796345206426334 : True := trivial
theorem tw1622907456340305396 : True := trivial
theorem tw4395101971037735285 : True := trivial
theorem tw3495012057705178389 : True := trivial
theorem tw1635975642092495167 : True := trivial
theorem tw1195087391972370189 : True := trivial
theorem tw7628721700698715963 : True := trivial
theorem tw4341823381770486351 : True := trivial
theorem tw6001118487667964463 : True := trivial
theorem tw17813837322252013855 : True := trivial
theorem tw2484520956400500957 : True := trivial
theorem tw11334624706978749652 : True := trivial
theorem tw13422440884184426541 : True := trivial
theorem tw4696478268861911563 : True := trivial
theorem tw13186587780417854938 : True := trivial
theorem tw8883549987687468242 : True := trivial
theorem tw10544208724635059995 : True := trivial
theorem tw12169166811395009059 : True := trivial
theorem tw3459280081002202776 : True := trivial
theorem tw11102385429076146495 : True := trivial
theorem tw9124566522258597112 : True := trivial
theorem tw5864390817712203565 : True := trivial
theorem tw1218766356127065671 : True := trivial
theorem tw9837992485257834715 : True := trivial
theorem tw18380941634200778139 : True := trivial
theorem tw733782463690868948 : True := trivial
theorem tw1669426985832674533 : True := trivial
theorem tw16842359752322565176 : True := trivial
theorem tw8240741176803991363 : True := trivial
theorem tw17990767288502353482 : True := trivial
theorem tw17263050946349994741 : True := trivial
theorem tw1691085422322135336 : True := trivial
theorem tw13796762076391575532 : True := trivial
theorem tw18301043419942276549 : True := trivial
theorem tw17825164390078046000 : True := trivial
theorem tw11564727491952775537 : True := trivial
theorem tw4016348489084876516 : True := trivial
theorem tw18141315375866891123 : True := trivial
theorem tw13644397338051232432 : True := trivial
theorem tw2307548540286817711 : True := trivial
theorem tw17748962028948715026 : True := trivial
theorem tw17722754813859656788 : True := trivial
theorem tw14179072470631587717 : True := trivial
theorem tw14812969048196467085 : True := trivial
theorem tw4269988644784579883 : True := trivial
theorem tw6955778865691181870 : True := trivial
theorem tw3800103710831492591 : True := trivial
theorem tw17421420116272198265 : True := trivial
theorem tw1696899127903768160 : True := trivial
theorem tw9976892236155094132 : True := trivial
theorem tw5685869400007267950 : True := trivial
theorem tw14570907407021122107 : True := trivial
theorem tw14046215084197546179 : True := trivial
theorem tw1693908659520114368 : True := trivial
theorem tw8783147434736682343 : True := trivial
theorem tw8973723103573615228 : True := trivial
theorem tw8583912334131033987 : True := trivial
theorem tw10303416241724577836 : True := trivial
theorem tw9959292242865226466 : True := trivial
theorem tw15355429544751126909 : True := trivial
theorem tw6105799265606246577 : True := trivial
theorem tw4734096140912714884 : True := trivial
theorem tw12558379945377653341 : True := trivial
theorem tw11991008964157611630 : True := trivial
theorem tw3391722073306003324 : True := trivial
theorem tw4632651480625333838 : True := trivial
theorem tw17205235600440024906 : True := trivial
theorem tw3372453296807313700 : True := trivial
theorem tw1129279158118502478 : True := trivial
theorem tw14697073180156429252 : True := trivial
theorem tw13035466192699358086 : True := trivial
theorem tw11582150713818756351 : True := trivial
theorem tw17769120739568408948 : True := trivial
theorem tw11835610730315392991 : True := trivial
theorem tw2820641685738068187 : True := trivial
theorem tw17392113788547518154 : True := trivial
theorem tw2722620147108433580 : True := trivial
theorem tw13440047456798958706 : True := trivial
theorem tw15229194571932430049 : True := trivial
theorem tw17107200903764775289 : True := trivial
theorem tw15651245741189941559 : True := trivial
theorem tw723754456750943832 : True := trivial
theorem tw13957081979095389062 : True := trivial
theorem tw324402625633491111 : True := trivial
theorem tw13098968075508784038 : True := trivial
theorem tw9233306289945945504 : True := trivial
theorem tw16785374288796209530 : True := trivial
theorem tw567672012267012220 : True := trivial
theorem tw5132225982408837780 : True := trivial
theorem tw16645639924841345745 : True := trivial
theorem tw5653280071027023685 : True := trivial
theorem tw9198764302984210490 : True := trivial
theorem tw15839453966208173565 : True := trivial
theorem tw13808274935286563163 : True := trivial
theorem tw9627974933821922401 : True := trivial
theorem tw15874819848566375639 : True := trivial
theorem tw689678134357032861 : True := trivial
theorem tw963030059042949079 : True := trivial
theorem tw17971983683150910136 : True := trivial
theorem tw3545602111039714236 : True := trivial
theorem tw7276708715706642546 : True := trivial
theorem tw18446028391202082551 : True := trivial
theorem tw17439313626428723032 : True := trivial
theorem tw13996018433708578298 : True := trivial
theorem tw4443000356735434084 : True := trivial
theorem tw14042681725084939264 : True := trivial
theorem tw15017640922322480451 : True := trivial
theorem tw3491247371224098677 : True := trivial
theorem tw16169033862870981365 : True := trivial
theorem tw3629606065699056369 : True := trivial
theorem tw2686336930238932915 : True := trivial
theorem tw9766585479169535733 : True := trivial
theorem tw9232467305642875634 : True := trivial
theorem tw14759645001723767604 : True := trivial
theorem tw14800071698548672527 : True := trivial
theorem tw1894414745215986804 : True := trivial
theorem tw16049255193494943890 : True := trivial
theorem tw3688674906453432155 : True := trivial
theorem tw3565347013902926559 : True := trivial
theorem tw1903763937221642473 : True := trivial
theorem tw8330876117743783664 : True := trivial
theorem tw9481404585459702417 : True := trivial
theorem tw414606922181788840 : True := trivial
theorem tw3537314828708456199 : True := trivial
theorem tw8915506167789954091 : True := trivial
theorem tw17047237185327465889 : True := trivial
theorem tw11385136955173923860 : True := trivial
theorem tw6714403386229443678 : True := trivial
theorem tw12269332775304319251 : True := trivial
theorem tw11420143069745263265 : True := trivial
theorem tw11685648785709574210 : True := trivial
theorem tw7091927231917774362 : True := trivial
theorem tw14250732299006668610 : True := trivial
theorem tw17965762096686416303 : True := trivial
theorem tw17547478895097920710 : True := trivial
theorem tw6745658038011340662 : True := trivial
theorem tw13755750497533573502 : True := trivial
theorem tw2832829106948708224 : True := trivial
theorem tw6213884256112224760 : True := trivial
theorem tw4334535945522599025 : True := trivial
theorem tw9522441536205606140 : True := trivial
theorem tw10068246707071224065 : True := trivial
theorem tw9467045277684367102 : True := trivial
theorem tw2822327337896729135 : True := trivial
theorem tw14062211983186324313 : True := trivial
theorem tw18197426259083157295 : True := trivial
theorem tw18256722252201142784 : True := trivial
theorem tw2489662063818216752 : True := trivial
theorem tw14301206065732418627 : True := trivial
theorem tw7870827658451755158 : True := trivial
theorem tw10142074541233483291 : True := trivial
theorem tw2263054743569491385 : True := trivial
theorem tw1183099792262242372 : True := trivial
theorem tw1311369816289704596 : True := trivial
theorem tw2584178043960843732 : True := trivial
theorem tw17588950811034099984 : True := trivial
theorem tw5767787270938367506 : True := trivial
theorem tw2981407691103828000 : True := trivial
theorem tw17134953499026072575 : True := trivial
theorem tw3206124159064778065 : True := trivial
theorem tw4537622004484261193 : True := trivial
theorem tw13673762487195516465 : True := trivial
theorem tw8519452333248848416 : True := trivial
theorem tw15675262567809459443 : True := trivial
theorem tw7165539169708803114 : True := trivial
theorem tw5642472820302957916 : True := trivial
theorem tw10237104403996022839 : True := trivial
theorem tw10056068614434756326 : True := trivial
theorem tw17090047509934131588 : True := trivial
theorem tw7103049316533985585 : True := trivial
theorem tw8641457325715316558 : True := trivial
theorem tw9058074516774538553 : True := trivial
theorem tw16582766717105651706 : True := trivial
theorem tw14576170542280355848 : True := trivial
theorem tw16146586664809587287 : True := trivial
theorem tw12231663645183754901 : True := trivial
theorem tw2691907051439723889 : True := trivial
theorem tw3949884661428828888 : True := trivial
theorem tw14261071996186788766 : True := trivial
theorem tw634422253321694607 : True := trivial
theorem tw17221043202813004803 : True := trivial
theorem tw17793577147878825999 : True := trivial
theorem tw9733885053204622564 : True := trivial
theorem tw2927586958999282726 : True := trivial
theorem tw9867131451940457681 : True := trivial
theorem tw18153316127833180399 : True := trivial
theorem tw14432958615156474031 : True := trivial
theorem tw8833297481502596009 : True := trivial
theorem tw6917509516151598500 : True := trivial
theorem tw3872006797815737621 : True := trivial
theorem tw1201261429338391986 : True := trivial
theorem tw12641107159587287667 : True := trivial
theorem tw17092845438052343106 : True := trivial
theorem tw14971409208214859606 : True := trivial
theorem tw18377349369838279029 : True := trivial
theorem tw16845642515992270340 : True := trivial
theorem tw11299246211215024228 : True := trivial
theorem tw7226440767178109041 : True := trivial
theorem tw7242287654182949040 : True := trivial
theorem tw16661079255787550220 : True := trivial
theorem tw17498121964671944272 : True := trivial
theorem tw12133401484128271640 : True := trivial
theorem tw1962419705370922357 : True := trivial
theorem tw10006569245560724264 : True := trivial
theorem tw4921710853562603456 : True := trivial
theorem tw4163095804207602878 : True := trivial
theorem tw9143871649686578218 : True := trivial
theorem tw4010968673758018366 : True := trivial
theorem tw3437521876201636151 : True := trivial
theorem tw15910077301882906051 : True := trivial
theorem tw8880175539425164514 : True := trivial
theorem tw18350772791737414437 : True := trivial
theorem tw18399511714989211661 : True := trivial
theorem tw9244627342331799476 : True := trivial
theorem tw10691569902806605026 : True := trivial
theorem tw131168790353700332 : True := trivial
theorem tw13482740762772833618 : True := trivial
theorem tw14596245354174143867 : True := trivial
theorem tw9146625386567341822 : True := trivial
theorem tw9936755599630727382 : True := trivial
theorem tw9075143357809284933 : True := trivial
theorem tw13856245496128848456 : True := trivial
theorem tw9188712510573494137 : True := trivial
theorem tw10368226741487972273 : True := trivial
theorem tw17731873362218880682 : True := trivial
theorem tw9794827353007118171 : True := trivial
theorem tw11481482024316250775 : True := trivial
theorem tw9618790656874929534 : True := trivial
theorem tw10227907062475352450 : True := trivial
theorem tw3938429137573437173 : True := trivial
theorem tw7897480297443424768 : True := trivial
theorem tw11604651743413481894 : True := trivial
theorem tw17575946758454648326 : True := trivial
theorem tw12498801164957720768 : True := trivial
theorem tw6434831100897098473 : True := trivial
theorem tw16925247755822200429 : True := trivial
theorem tw6280744577212178967 : True := trivial
theorem tw8936045036549061007 : True := trivial
theorem tw1040942465302228826 : True := trivial
theorem tw5205018154728874271 : True := trivial
theorem tw15325350752691552790 : True := trivial
theorem tw13980047069432147932 : True := trivial
theorem tw4511587614095521559 : True := trivial
theorem tw18288856423523328951 : True := trivial
theorem tw6929580309583256189 : True := trivial
theorem tw4583451304686160933 : True := trivial
theorem tw16369094798091793406 : True := trivial
theorem tw16049400906219842642 : True := trivial
theorem tw13481347221270056699 : True := trivial
theorem tw1639852771784199499 : True := trivial
theorem tw3036780336436866816 : True := trivial
theorem tw18332396272479845823 : True := trivial
theorem tw10604974900678022857 : True := trivial
theorem tw5358811323460712175 : True := trivial
theorem tw5517997065466405301 : True := trivial
theorem tw6626899878924363770 : True := trivial
theorem tw4179335738067745904 : True := trivial
theorem tw3000284380156983912 : True := trivial
theorem tw10139549166899319516 : True := trivial
theorem tw7374738882317188505 : True := trivial
theorem tw9915974962907544668 : True := trivial
theorem tw17095561014986608943 : True := trivial
theorem tw10899297037302600505 : True := trivial
theorem tw7850789039304054407 : True := trivial
theorem tw10535823532228108036 : True := trivial
theorem tw16644599591020255398 : True := trivial
theorem tw5938612238683212945 : True := trivial
theorem tw9197441238985400414 : True := trivial
theorem tw3207982842343390419 : True := trivial
theorem tw1771022848620615218 : True := trivial
theorem tw3384576791481665151 : True := trivial
theorem tw4038751070210573986 : True := trivial
theorem tw14669036782136800951 : True := trivial
theorem tw6939269023205265167 : True := trivial
theorem tw16765538874934119498 : True := trivial
theorem tw14808917886432945119 : True := trivial
theorem tw12024457285919764240 : True := trivial
theorem tw11398878802801860266 : True := trivial
theorem tw8545377727587583046 : True := trivial
theorem tw11653767939637345402 : True := trivial
theorem tw10688121957631104837 : True := trivial
theorem tw216754636431568465 : True := trivial
theorem tw9337994433505410208 : True := trivial
theorem tw15292550117779835129 : True := trivial
theorem tw4920293082804703452 : True := trivial
theorem tw14550627658116004734 : True := trivial
theorem tw18178653006171785399 : True := trivial
theorem tw11219197311670875830 : True := trivial
theorem tw13448501456092571456 : True := trivial
theorem tw17660656436435061943 : True := trivial
theorem tw879742412623706057 : True := trivial
theorem tw14691118335089619078 : True := trivial
theorem tw10517913462079842471 : True := trivial
theorem tw2815157136737243967 : True := trivial
theorem tw8384077070965327256 : True := trivial
theorem tw2261155157956297553 : True := trivial
theorem tw12823103656021187015 : True := trivial
theorem tw8373324403079560293 : True := trivial
theorem tw18036940636570103178 : True := trivial
theorem tw9012645539418184926 : True := trivial
theorem tw7437872015234344361 : True := trivial
theorem tw18241306109839215035 : True := trivial
theorem tw18350656348348716526 : True := trivial
theorem tw17275246619361413968 : True := trivial
theorem tw16579256153617486829 : True := trivial
theorem tw9220123977384944564 : True := trivial
theorem tw3185574679729256774 : True := trivial
theorem tw7111413333481196534 : True := trivial
theorem tw11945881476143550384 : True := trivial
theorem tw12083907693637945934 : True := trivial
theorem tw17218077420258529182 : True := trivial
theorem tw8227954478408993782 : True := trivial
theorem tw3677660559529013134 : True := trivial
theorem tw9141730529080462434 : True := trivial
theorem tw2907766894276952470 : True := trivial
theorem tw15189504806285881355 : True := trivial
theorem tw10523768145262292908 : True := trivial
theorem tw3458364444083795505 : True := trivial
theorem tw15263480578793320072 : True := trivial
theorem tw13272053586511539575 : True := trivial
theorem tw13517178264792913453 : True := trivial
theorem tw2831683504964715872 : True := trivial
theorem tw9809348006778605148 : True := trivial
theorem tw13735210314067319253 : True := trivial
theorem tw14449264467051763139 : True := trivial
theorem tw9425005201151958267 : True := trivial
theorem tw11605050727881492284 : True := trivial
theorem tw7446587480655111460 : True := trivial
theorem tw16632709816643138436 : True := trivial
theorem tw7797262328304546464 : True := trivial
theorem tw1666060544913764016 : True := trivial
theorem tw11880005989834154327 : True := trivial
theorem tw11507774612699257412 : True := trivial
theorem tw964120111479559494 : True := trivial
theorem tw1708889907163085442 : True := trivial
theorem tw16302448280431429274 : True := trivial
theorem tw12261368861630774610 : True := trivial
theorem tw1255892591181741300 : True := trivial
theorem tw7710221910646594173 : True := trivial
theorem tw1367789857631709122 : True := trivial
theorem tw589827906722356045 : True := trivial
theorem tw6045441349334968276 : True := trivial
theorem tw5209912409785511054 : True := trivial
theorem tw5374345753138397973 : True := trivial
theorem tw14163222414270267518 : True := trivial
theorem tw4768971281502890327 : True := trivial
theorem tw17232405478099451613 : True := trivial
theorem tw14690885647387817961 : True := trivial
theorem tw9522796629013984965 : True := trivial
theorem tw5249387180305771506 : True := trivial
theorem tw7588081087781298875 : True := trivial
theorem tw8617749801832152494 : True := trivial
theorem tw14354545990349001548 : True := trivial
theorem tw3990482448453361871 : True := trivial
theorem tw15999447631507840963 : True := trivial
theorem tw17587292704137462225 : True := trivial
theorem tw10630749394370587821 : True := trivial
theorem tw7348368725519119517 : True := trivial
theorem tw14348630780400588333 : True := trivial
theorem tw6862822209344776876 : True := trivial
theorem tw554096470706704003 : True := trivial
theorem tw8550201209080847324 : True := trivial
theorem tw17549355920398669366 : True := trivial
theorem tw3067333201026954849 : True := trivial
theorem tw6559197033300093434 : True := trivial
theorem tw4501150255718681157 : True := trivial
theorem tw2582343778485822261 : True := trivial
theorem tw5825637079886600410 : True := trivial
theorem tw17315881273929738963 : True := trivial
theorem tw9405958695328208879 : True := trivial
theorem tw3692876768901723462 : True := trivial
theorem tw1222137087000373608 : True := trivial
theorem tw17644456053776059241 : True := trivial
theorem tw9892631512627025426 : True := trivial
theorem tw11405401992642016700 : True := trivial
theorem tw15594878339979229442 : True := trivial
theorem tw1675503269097568119 : True := trivial
theorem tw4247633889572936344 : True := trivial
theorem tw12894651308921749279 : True := trivial
theorem tw2801694976112518814 : True := trivial
theorem tw17245685053749995162 : True := trivial
theorem tw14971029435878414237 : True := trivial
theorem tw4907385220296170042 : True := trivial
theorem tw10326736585705371595 : True := trivial
theorem tw2845741994285523436 : True := trivial
theorem tw5312038990115675722 : True := trivial
theorem tw18348127356316228092 : True := trivial
theorem tw3949484534213462979 : True := trivial
theorem tw17098142901190101832 : True := trivial
theorem tw18251566478770082968 : True := trivial
theorem tw14286476641839159970 : True := trivial
theorem tw6127298724618107059 : True := trivial
theorem tw2761542924794043239 : True := trivial
theorem tw16614730716478931058 : True := trivial
theorem tw12027846727723908973 : True := trivial
theorem tw9334143288893162158 : True := trivial
theorem tw15467084513116967401 : True := trivial
theorem tw969518509543845853 : True := trivial
theorem tw687295936554476020 : True := trivial
theorem tw2104286893573567984 : True := trivial
theorem tw16785169592720707948 : True := trivial
theorem tw14429751642520506877 : True := trivial
theorem tw1876850269564135414 : True := trivial
theorem tw4228535334810991020 : True := trivial
theorem tw17674276899328131353 : True := trivial
theorem tw2819105229479332209 : True := trivial
theorem tw17395325568291994142 : True := trivial
theorem tw7458665396453680672 : True := trivial
theorem tw12763302860395704044 : True := trivial
theorem tw3661128318288877329 : True := trivial
theorem tw5182183539684505719 : True := trivial
theorem tw3947553575703956167 : True := trivial
theorem tw109399749708247881 : True := trivial
theorem tw16975818133943495312 : True := trivial
theorem tw7641794609283618480 : True := trivial
theorem tw15930899101987198323 : True := trivial
theorem tw1443653560988566077 : True := trivial
theorem tw1899363301216993612 : True := trivial
theorem tw3904204930342815932 : True := trivial
theorem tw14569661893080337558 : True := trivial
theorem tw13383507857533627606 : True := trivial
theorem tw2106632778592778311 : True := trivial
theorem tw11421621577258994942 : True := trivial
theorem tw11108230714915784791 : True := trivial
theorem tw7744118192531109722 : True := trivial
theorem tw11025881326347811459 : True := trivial
theorem tw10066043141349850802 : True := trivial
theorem tw11396013465942566148 : True := trivial
theorem tw14178252529675885027 : True := trivial
theorem tw14300270976301683378 : True := trivial
theorem tw18033587208379023018 : True := trivial
theorem tw9365197880519359765 : True := trivial
theorem tw5189595518395099209 : True := trivial
theorem tw4081141455805197017 : True := trivial
theorem tw15569231722758686097 : True := trivial
theorem tw11830265267145233084 : True := trivial
theorem tw16901598798785439071 : True := trivial
theorem tw785509347753785881 : True := trivial
theorem tw5976217050215278133 : True := trivial
theorem tw713126286788241501 : True := trivial
theorem tw7107547377117708292 : True := trivial
theorem tw14027913787781533855 : True := trivial
theorem tw15285054821560564662 : True := trivial
theorem tw8593228144578743267 : True := trivial
theorem tw1308765899383443740 : True := trivial
theorem tw15746606208677958920 : True := trivial
theorem tw6208700910789821763 : True := trivial
theorem tw17063885968800391041 : True := trivial
theorem tw17495617495269470092 : True := trivial
theorem tw4635064498753887618 : True := trivial
theorem tw15587574868711881663 : True := trivial
theorem tw11218226238565090295 : True := trivial
theorem tw17770709940752558129 : True := trivial
theorem tw11109516530057437595 : True := trivial
theorem tw9823600669342080230 : True := trivial
theorem tw11239004873681690249 : True := trivial
theorem tw2662551387496659885 : True := trivial
theorem tw11711121615299583306 : True := trivial
theorem tw12379009244275614048 : True := trivial
theorem tw13043382744039302837 : True := trivial
theorem tw36980576929935308 : True := trivial
theorem tw11614730668698327751 : True := trivial
theorem tw10033628859128460145 : True := trivial
theorem tw14553151194277440428 : True := trivial
theorem tw1314103206362394952 : True := trivial
theorem tw976147237324806848 : True := trivial
theorem tw17968069851568841210 : True := trivial
theorem tw4633111369817348433 : True := trivial
theorem tw2717548192309284678 : True := trivial
theorem tw13598391662741145823 : True := trivial
theorem tw1483620966562231428 : True := trivial
theorem tw13217411417634501627 : True := trivial
theorem tw18235378205656832823 : True := trivial
theorem tw13956196500058825188 : True := trivial
theorem tw3358132859095500517 : True := trivial
theorem tw1297848909665487848 : True := trivial
theorem tw6527586751898769317 : True := trivial
theorem tw16453648614862505024 : True := trivial
theorem tw9911987092540592416 : True := trivial
theorem tw11631770762660521732 : True := trivial
theorem tw11593430992102322555 : True := trivial
theorem tw603796331397305702 : True := trivial
theorem tw3650118764001480253 : True := trivial
theorem tw17689670581952008809 : True := trivial
theorem tw16150616109657260493 : True := trivial
theorem tw15510412242002314525 : True := trivial
theorem tw4025939325625522024 : True := trivial
theorem tw11257452524954207102 : True := trivial
theorem tw5996577820344981062 : True := trivial
theorem tw10409666894413453705 : True := trivial
theorem tw5271819660248292350 : True := trivial
theorem tw10766296548058556826 : True := trivial
theorem tw7775005149684607276 : True := trivial
theorem tw12961590547648430188 : True := trivial
theorem tw11064864243094063404 : True := trivial
theorem tw17584864026466643375 : True := trivial
theorem tw2613716870021140976 : True := trivial
theorem tw9235228953826689674 : True := trivial
theorem tw8305091156015245717 : True := trivial
theorem tw6088621276205137892 : True := trivial
theorem tw17353140701749245818 : True := trivial
theorem tw3018884363014700743 : True := trivial
theorem tw17305605799390256042 : True := trivial
theorem tw18308507001023174066 : True := trivial
theorem tw899101890298638454 : True := trivial
theorem tw14238422039128845833 : True := trivial
theorem tw16175906844002644722 : True := trivial
theorem tw14835689834673818052 : True := trivial
theorem tw38314572207892106 : True := trivial
theorem tw12981184024282720022 : True := trivial
theorem tw17238852828990424073 : True := trivial
theorem tw12504380885618002105 : True := trivial
theorem tw9250744320061033116 : True := trivial
theorem tw13460223106315899200 : True := trivial
theorem tw16739622157730286043 : True := trivial
theorem tw12931505546917840438 : True := trivial
theorem tw3428915626750414970 : True := trivial
theorem tw13508187780272069102 : True := trivial
theorem tw856213577634507721 : True := trivial
theorem tw4831850377406170619 : True := trivial
theorem tw8786202976709351593 : True := trivial
theorem tw1306605017376103649 : True := trivial
theorem tw17359847521019922766 : True := trivial
theorem tw16999662579125535921 : True := trivial
theorem tw5067553090346633142 : True := trivial
theorem tw13819213312266637517 : True := trivial
theorem tw17221347343584724399 : True := trivial
theorem tw9911783679414011389 : True := trivial
theorem tw4193530378180402340 : True := trivial
theorem tw9896428846753231667 : True := trivial
theorem tw9314926215702100618 : True := trivial
theorem tw863357146909572376 : True := trivial
theorem tw11850294996898390700 : True := trivial
theorem tw6828721018092582824 : True := trivial
theorem tw6969815812619666026 : True := trivial
theorem tw9409061936640244532 : True := trivial
theorem tw13132486392164910186 : True := trivial
theorem tw14444445122478151734 : True := trivial
theorem tw17350055062397419507 : True := trivial
theorem tw1528519728606043910 : True := trivial
theorem tw2489213574533991695 : True := trivial
theorem tw10884860185465281557 : True := trivial
theorem tw11162336534160344676 : True := trivial
theorem tw14733510846183223774 : True := trivial
theorem tw10026893481465303715 : True := trivial
theorem tw6509335816938512350 : True := trivial
theorem tw2995639800482598519 : True := trivial
theorem tw902834474493092075 : True := trivial
theorem tw7422190854976701425 : True := trivial
theorem tw16870399423592367571 : True := trivial
theorem tw1425492453931388204 : True := trivial
theorem tw5580752209711608390 : True := trivial
theorem tw14352023821650058678 : True := trivial
theorem tw11462985194118272516 : True := trivial
theorem tw17972213897384213588 : True := trivial
theorem tw10786094212879058020 : True := trivial
theorem tw13386394041431697396 : True := trivial
theorem tw10885066805303462001 : True := trivial
theorem tw6457120774139763607 : True := trivial
theorem tw2858065433796381763 : True := trivial
theorem tw14119781062385817608 : True := trivial
theorem tw10252490590334570149 : True := trivial
theorem tw8943463946528454227 : True := trivial
theorem tw8934481910277754732 : True := trivial
theorem tw3907413108611026098 : True := trivial
theorem tw12793463080088414536 : True := trivial
theorem tw7838607747344154484 : True := trivial
theorem tw16750197070128887342 : True := trivial
theorem tw3014604725919510833 : True := trivial
theorem tw9737083084250156384 : True := trivial
theorem tw11588896232283620135 : True := trivial
theorem tw5857968860022616907 : True := trivial
theorem tw13455673240184477552 : True := trivial
theorem tw8762996567111248448 : True := trivial
theorem tw14420083158933202327 : True := trivial
theorem tw15838748041312398865 : True := trivial
theorem tw10785589863265767425 : True := trivial
theorem tw1930126145938605189 : True := trivial
theorem tw13548336840910688053 : True := trivial
theorem tw2673159699088737512 : True := trivial
theorem tw14070293163315214373 : True := trivial
theorem tw5799042170677937192 : True := trivial
theorem tw9147772484052489324 : True := trivial
theorem tw14449154634356646647 : True := trivial
theorem tw13156911984865658094 : True := trivial
theorem tw7546894669438276422 : True := trivial
theorem tw10313878965664451039 : True := trivial
theorem tw8497500485098949886 : True := trivial
theorem tw432060981493917345 : True := trivial
theorem tw156697355840084504 : True := trivial
theorem tw2415917349732293876 : True := trivial
theorem tw6188715337800181850 : True := trivial
theorem tw4586332811119523906 : True := trivial
theorem tw1023946747318957969 : True := trivial
theorem tw6338754675228479589 : True := trivial
theorem tw4194836322521357455 : True := trivial
theorem tw9712475581222784118 : True := trivial
theorem tw3637524202455726874 : True := trivial
theorem tw17190139822793962620 : True := trivial
theorem tw13299448490687989838 : True := trivial
theorem tw11278894416018451881 : True := trivial
theorem tw8217685776740042541 : True := trivial
theorem tw5523395566187794686 : True := trivial
theorem tw2487211121721221640 : True := trivial
theorem tw183599539339440915 : True := trivial
theorem tw12360435716832891145 : True := trivial
theorem tw8176678402761688394 : True := trivial
theorem tw7442062456081361447 : True := trivial
theorem tw5558503548344356891 : True := trivial
theorem tw2651239629999418722 : True := trivial
theorem tw11435087632484635406 : True := trivial
theorem tw12975444819809379802 : True := trivial
theorem tw13354123751207024295 : True := trivial
theorem tw3860729842574568592 : True := trivial
theorem tw13744025793699413990 : True := trivial
theorem tw16977954901233709233 : True := trivial
theorem tw13247509055474906875 : True := trivial
theorem tw14552458143999955942 : True := trivial
theorem tw3992202436087823621 : True := trivial
theorem tw7612646622993119556 : True := trivial
theorem tw6155809894891053852 : True := trivial
theorem tw12981582515988048688 : True := trivial
theorem tw14972749759624977795 : True := trivial
theorem tw10643115667242895985 : True := trivial
theorem tw3858346719997325004 : True := trivial
theorem tw9240777281817242984 : True := trivial
theorem tw1537044956864117322 : True := trivial
theorem tw6594797480935291054 : True := trivial
theorem tw3226619145469553110 : True := trivial
theorem tw13219854573236628364 : True := trivial
theorem tw7926867188038794068 : True := trivial
theorem tw8375229501803634856 : True := trivial
theorem tw5641185299698311778 : True := trivial
theorem tw676688894408448546 : True := trivial
theorem tw7657033442416169113 : True := trivial
theorem tw5901605141603404743 : True := trivial
theorem tw243915527506424557 : True := trivial
theorem tw13513720239607133748 : True := trivial
theorem tw3561636675155509305 : True := trivial
theorem tw10734222200975186846 : True := trivial
theorem tw15072142288067727444 : True := trivial
theorem tw1387045385333296478 : True := trivial
theorem tw17342037774608642992 : True := trivial
theorem tw2071978562636742704 : True := trivial
theorem tw1120413008627821488 : True := trivial
theorem tw4884906303823191421 : True := trivial
theorem tw18163292757910642164 : True := trivial
theorem tw1169576468782904905 : True := trivial
theorem tw17783648886485707563 : True := trivial
theorem tw16058300020730533769 : True := trivial
theorem tw3066055261665997187 : True := trivial
theorem tw11242539992413593459 : True := trivial
theorem tw2503661507628472471 : True := trivial
theorem tw1617270109536551570 : True := trivial
theorem tw16774957072547551527 : True := trivial
theorem tw10413632308633002922 : True := trivial
theorem tw1390976767907362259 : True := trivial
theorem tw13906077000715647727 : True := trivial
theorem tw7618209732067370030 : True := trivial
theorem tw18162547390140486200 : True := trivial
theorem tw13314523750867465355 : True := trivial
theorem tw7650998130235716871 : True := trivial
theorem tw4601822580320859457 : True := trivial
theorem tw10559112551657495504 : True := trivial
theorem tw15348582452501706577 : True := trivial
theorem tw11247362673567238696 : True := trivial
theorem tw8748169983150011629 : True := trivial
theorem tw5830793700272022589 : True := trivial
theorem tw10238449937090628319 : True := trivial
theorem tw9819700314885694567 : True := trivial
theorem tw5576360556241527034 : True := trivial
theorem tw17603197487493373493 : True := trivial
theorem tw14082427352621319456 : True := trivial
theorem tw869383699509340252 : True := trivial
theorem tw9020506738111500884 : True := trivial
theorem tw16979753591494222663 : True := trivial
theorem tw1044512042250266894 : True := trivial
theorem tw8357786217182900869 : True := trivial
theorem tw11390912994064087106 : True := trivial
theorem tw5848810631767874823 : True := trivial
theorem tw16353472243352770972 : True := trivial
theorem tw8153502426428289417 : True := trivial
theorem tw12706381185553553018 : True := trivial
theorem tw8885412231671042853 : True := trivial
theorem tw1687263315216153898 : True := trivial
theorem tw3742580955002901763 : True := trivial
theorem tw2326997014992589430 : True := trivial
theorem tw1576983073884250286 : True := trivial
theorem tw9278904612009473132 : True := trivial
theorem tw1487292311007738068 : True := trivial
theorem tw2244252643209539344 : True := trivial
theorem tw397162009901954504 : True := trivial
theorem tw10292416856105333179 : True := trivial
theorem tw6448013246877937696 : True := trivial
theorem tw4225744736795989057 : True := trivial
theorem tw17105427403053447208 : True := trivial
theorem tw4145736292575968395 : True := trivial
theorem tw8125899869280386485 : True := trivial
theorem tw1000414558692091736 : True := trivial
theorem tw6353347078804548341 : True := trivial
theorem tw16047463918395281294 : True := trivial
theorem tw8662302190684641467 : True := trivial
theorem tw861990930986715738 : True := trivial
theorem tw14021108606314576450 : True := trivial
theorem tw3098528214409065127 : True := trivial
theorem tw15022910341994858015 : True := trivial
theorem tw2290004515315470484 : True := trivial
theorem tw7556106513519143348 : True := trivial
theorem tw3505077172007822135 : True := trivial
theorem tw8022702234923344694 : True := trivial
theorem tw1931510902807601024 : True := trivial
theorem tw2623895754878669572 : True := trivial
theorem tw9882103218158843390 : True := trivial
theorem tw16937528147179460766 : True := trivial
theorem tw17869310637392664038 : True := trivial
theorem tw17283890406520733570 : True := trivial
theorem tw16080217383485251787 : True := trivial
theorem tw17687368217897816180 : True := trivial
theorem tw17979613561922252332 : True := trivial
theorem tw7593212896120758213 : True := trivial
theorem tw16453560292436379918 : True := trivial
theorem tw6186676475191616965 : True := trivial
theorem tw17468868553556582103 : True := trivial
theorem tw15959623628546737454 : True := trivial
theorem tw11169987745216896471 : True := trivial
theorem tw17837812829347195289 : True := trivial
theorem tw15518163046242160989 : True := trivial
theorem tw2137353118456528818 : True := trivial
theorem tw14743629253888156562 : True := trivial
theorem tw18096289316634358836 : True := trivial
theorem tw7317224351813914968 : True := trivial
theorem tw13380228015419033149 : True := trivial
theorem tw3595495971978729565 : True := trivial
theorem tw16883833252575226915 : True := trivial
theorem tw5630899557300387341 : True := trivial
theorem tw12111619543888602941 : True := trivial
theorem tw11525709350957401266 : True := trivial
theorem tw8475119944375566820 : True := trivial
theorem tw8295049769995375029 : True := trivial
theorem tw2070186278604168891 : True := trivial
theorem tw10644084941167550007 : True := trivial
theorem tw3248721713269024472 : True := trivial
theorem tw13435855799522013625 : True := trivial
theorem tw5745729974648452379 : True := trivial
theorem tw13438141401332927729 : True := trivial
theorem tw12449293420721649714 : True := trivial
theorem tw16306002756393247773 : True := trivial
theorem tw3896883851670670192 : True := trivial
theorem tw14796851752296155321 : True := trivial
theorem tw7882941904288722215 : True := trivial
theorem tw14551639570467095247 : True := trivial
theorem tw8442417828479561896 : True := trivial
theorem tw2120778016656808557 : True := trivial
theorem tw13626316363502803442 : True := trivial
theorem tw8858289695778420862 : True := trivial
theorem tw11022309987477449421 : True := trivial
theorem tw118786413794393406 : True := trivial
theorem tw1786194953901100955 : True := trivial
theorem tw1521588198549943146 : True := trivial
theorem tw1558369768931484924 : True := trivial
theorem tw1500132102031990333 : True := trivial
theorem tw6940389042240122116 : True := trivial
theorem tw16331534407607441267 : True := trivial
theorem tw3331911526222650678 : True := trivial
theorem tw9007372988668002132 : True := trivial
theorem tw11186561930592322731 : True := trivial
theorem tw5160137279160733243 : True := trivial
theorem tw13630631662932955604 : True := trivial
theorem tw2128010715021896354 : True := trivial
theorem tw8404818405775560940 : True := trivial
theorem tw14656148924682364831 : True := trivial
theorem tw5516261653348099831 : True := trivial
theorem tw2405275817440910280 : True := trivial
theorem tw17689796096158603322 : True := trivial
theorem tw7627587042331798080 : True := trivial
theorem tw6063292974639696382 : True := trivial
theorem tw4683603808910975290 : True := trivial
theorem tw14009921382680789176 : True := trivial
theorem tw5334936187457011817 : True := trivial
theorem tw12799005129453458876 : True := trivial
theorem tw15761861914350243711 : True := trivial
theorem tw1415307148282073654 : True := trivial
theorem tw13533937478872051576 : True := trivial
theorem tw3547155085644625854 : True := trivial
theorem tw11027513917053662633 : True := trivial
theorem tw16114010781086526341 : True := trivial
theorem tw182898818135680053 : True := trivial
theorem tw14248857131823534114 : True := trivial
theorem tw8427088765691081742 : True := trivial
theorem tw2749702769560741167 : True := trivial
theorem tw10401016649714304665 : True := trivial
theorem tw3698478274514590316 : True := trivial
theorem tw3925128499841348139 : True := trivial
theorem tw14086851621872290351 : True := trivial
theorem tw3079310420811393374 : True := trivial
theorem tw12785341217090757586 : True := trivial
theorem tw13729932727341566062 : True := trivial
theorem tw4055829641511619404 : True := trivial
theorem tw8973421101087346329 : True := trivial
theorem tw10183253223779093485 : True := trivial
theorem tw5209618821767505240 : True := trivial
theorem tw15010243877280204395 : True := trivial
theorem tw15930608002014748625 : True := trivial
theorem tw16724264221210989705 : True := trivial
theorem tw17824888658579143089 : True := trivial
theorem tw9402634658448646167 : True := trivial
theorem tw10961073544925416480 : True := trivial
theorem tw15214230021113692124 : True := trivial
theorem tw1070700556791870421 : True := trivial
theorem tw11587620334271328909 : True := trivial
theorem tw9142758598496956334 : True := trivial
theorem tw15989776620626159295 : True := trivial
theorem tw4399190981209301643 : True := trivial
theorem tw18312421485516725871 : True := trivial
theorem tw1177645070285458652 : True := trivial
theorem tw14426004809126907328 : True := trivial
theorem tw15365324160333310657 : True := trivial
theorem tw6979139064535599178 : True := trivial
theorem tw12581926854272057715 : True := trivial
theorem tw10499579105655846188 : True := trivial
theorem tw1247066546662355259 : True := trivial
theorem tw9517702429464115006 : True := trivial
theorem tw14364799575432963118 : True := trivial
theorem tw5148065582262765086 : True := trivial
theorem tw13271724766316863241 : True := trivial
theorem tw9747757372317607088 : True := trivial
theorem tw10289999106924682571 : True := trivial
theorem tw7147942479957134969 : True := trivial
theorem tw2156987120488082736 : True := trivial
theorem tw2225967999993547775 : True := trivial
theorem tw10407214461875860482 : True := trivial
theorem tw2358506269615314025 : True := trivial
theorem tw12020621602258636531 : True := trivial
theorem tw18085211389022442027 : True := trivial
theorem tw6273622397202579875 : True := trivial
theorem tw5537813951919470745 : True := trivial
theorem tw844639733716593472 : True := trivial
theorem tw8683953544697331050 : True := trivial
theorem tw13933685656095406524 : True := trivial
theorem tw15927881659298070230 : True := trivial
theorem tw15506160157770331179 : True := trivial
theorem tw3284977564223018310 : True := trivial
theorem tw18154283801486596779 : True := trivial
theorem tw3274678895684253087 : True := trivial
theorem tw476908863575831173 : True := trivial
theorem tw8084230328338776882 : True := trivial
theorem tw17246375369627791473 : True := trivial
theorem tw4413160760851857910 : True := trivial
theorem tw5960586745016925477 : True := trivial
theorem tw12124476974482836802 : True := trivial
theorem tw219092996504378475 : True := trivial
theorem tw8483780713881518584 : True := trivial
theorem tw8683888393197175433 : True := trivial
theorem tw2731874487461014333 : True := trivial
theorem tw12107287572429715040 : True := trivial
theorem tw5585639405946798027 : True := trivial
theorem tw1894930616855364890 : True := trivial
theorem tw15705800186102432361 : True := trivial
theorem tw6561520818271995874 : True := trivial
theorem tw9803056114575318626 : True := trivial
theorem tw14965427323423860181 : True := trivial
theorem tw365559705949420001 : True := trivial
theorem tw8748907305924625124 : True := trivial
theorem tw8700591077143036766 : True := trivial
theorem tw14121775736558042808 : True := trivial
theorem tw11097123720241610561 : True := trivial
theorem tw11133289793520349501 : True := trivial
theorem tw7771474026714154517 : True := trivial
theorem tw2874244054568992469 : True := trivial
theorem tw12862596654289328512 : True := trivial
theorem tw523919513930642605 : True := trivial
theorem tw1872417974910227539 : True := trivial
theorem tw1088834293932135218 : True := trivial
theorem tw5436745677328300299 : True := trivial
theorem tw17005324388122884327 : True := trivial
theorem tw11677016600888835789 : True := trivial
theorem tw18003133335078929996 : True := trivial
theorem tw3879498252235557412 : True := trivial
theorem tw18097971384691247926 : True := trivial
theorem tw6724019561306911698 : True := trivial
theorem tw2199192974306659449 : True := trivial
theorem tw16460054972015558565 : True := trivial
theorem tw17873721511205981308 : True := trivial
theorem tw13428083754641711632 : True := trivial
theorem tw11412472833457745887 : True := trivial
theorem tw10973442105706224366 : True := trivial
theorem tw11483567746155315671 : True := trivial
theorem tw12399287065464825829 : True := trivial
theorem tw29384865171372656 : True := trivial
theorem tw12571156007922540129 : True := trivial
theorem tw3405407656340214891 : True := trivial
theorem tw3652075249354213780 : True := trivial
theorem tw2047742509102455096 : True := trivial
theorem tw6444166581626271447 : True := trivial
theorem tw3323664125122932570 : True := trivial
theorem tw6106287975937187344 : True := trivial
theorem tw4270955966405111805 : True := trivial
theorem tw15153214935971880846 : True := trivial
theorem tw11002747720111537952 : True := trivial
theorem tw2736759568803384933 : True := trivial
theorem tw1639287372607099791 : True := trivial
theorem tw12668690219165916833 : True := trivial
theorem tw10937479044996769518 : True := trivial
theorem tw6144653627201757949 : True := trivial
theorem tw17062693275239982780 : True := trivial
theorem tw14488859629029201581 : True := trivial
theorem tw6407305803463990368 : True := trivial
theorem tw6995129236331001543 : True := trivial
theorem tw16314034444513957317 : True := trivial
theorem tw16244442995048409644 : True := trivial
theorem tw6265735671936576594 : True := trivial
theorem tw8696341786438074056 : True := trivial
theorem tw18343680927972141796 : True := trivial
theorem tw18076599858921827682 : True := trivial
theorem tw5702464917330496856 : True := trivial
theorem tw14345812126468399187 : True := trivial
theorem tw9722006209855205409 : True := trivial
theorem tw15690248163502314402 : True := trivial
theorem tw4522739709834933804 : True := trivial
theorem tw10920486907265610152 : True := trivial
theorem tw6389681956683578163 : True := trivial
theorem tw18014859554462559768 : True := trivial
theorem tw11316274223407650208 : True := trivial
theorem tw3443452905869009735 : True := trivial
theorem tw5615966215884578626 : True := trivial
theorem tw12881739894150868774 : True := trivial
theorem tw15732936447431553937 : True := trivial
theorem tw17021064782614469435 : True := trivial
theorem tw12690247769174047079 : True := trivial
theorem tw5185918350091932537 : True := trivial
theorem tw14674279395921877464 : True := trivial
theorem tw11293678326373841089 : True := trivial
theorem tw8582506366187688039 : True := trivial
theorem tw7380134811820889605 : True := trivial
theorem tw18256876715914196668 : True := trivial
theorem tw13338511493898137675 : True := trivial
theorem tw7150778008348348288 : True := trivial
theorem tw14676032235492878703 : True := trivial
theorem tw4080014724172866503 : True := trivial
theorem tw10625977201585628813 : True := trivial
theorem tw3473832849692589345 : True := trivial
theorem tw16570479742213407292 : True := trivial
theorem tw5069437295144183415 : True := trivial
theorem tw11275817928789912808 : True := trivial
theorem tw882262442307746463 : True := trivial
theorem tw514174508561378671 : True := trivial
theorem tw13480942797461078814 : True := trivial
theorem tw4085221463602834864 : True := trivial
theorem tw10096753174941958318 : True := trivial
theorem tw12493304764905321255 : True := trivial
theorem tw6903675476317457272 : True := trivial
theorem tw16699109692161123553 : True := trivial
theorem tw28322381502424866 : True := trivial
theorem tw3368441525350338570 : True := trivial
theorem tw14883328118462792225 : True := trivial
theorem tw15686607636553803314 : True := trivial
theorem tw2945975515144091718 : True := trivial
theorem tw1714068149775809528 : True := trivial
theorem tw9730207614932786296 : True := trivial
theorem tw14216446832136912128 : True := trivial
theorem tw6000952576640452710 : True := trivial
theorem tw12283841276241928124 : True := trivial
theorem tw5094698055804217642 : True := trivial
theorem tw17259014234574983420 : True := trivial
theorem tw1338840187672401775 : True := trivial
theorem tw16283484112283874054 : True := trivial
theorem tw15169928682956427396 : True := trivial
theorem tw5333228033147971477 : True := trivial
theorem tw10878671821124171503 : True := trivial
theorem tw5143141617902202459 : True := trivial
theorem tw12087648999230584990 : True := trivial
theorem tw4294451458679178695 : True := trivial
theorem tw15789617273516372245 : True := trivial
theorem tw709299095723535984 : True := trivial
theorem tw18010876053727827330 : True := trivial
theorem tw12346403774097450059 : True := trivial
theorem tw11058448854357706792 : True := trivial
theorem tw2090653128090697979 : True := trivial
theorem tw14929329670874920199 : True := trivial
theorem tw10192468877428177608 : True := trivial
theorem tw259411454389408146 : True := trivial
theorem tw5637265845907411231 : True := trivial
theorem tw1187864825060627547 : True := trivial
theorem tw10873684338724141511 : True := trivial
theorem tw4087351079272776348 : True := trivial
theorem tw2949756435925553360 : True := trivial
theorem tw7822673269410115977 : True := trivial
theorem tw14937357449954693231 : True := trivial
theorem tw8404566052051885173 : True := trivial
theorem tw15697578622676396065 : True := trivial
theorem tw6082489904071942472 : True := trivial
theorem tw2047072380321669369 : True := trivial
theorem tw13675470309026057665 : True := trivial
theorem tw1383359695495856282 : True := trivial
theorem tw1555561098036561363 : True := trivial
theorem tw13958408847595671544 : True := trivial
theorem tw16865636507983954284 : True := trivial
theorem tw3787468944267670799 : True := trivial
theorem tw7021718748306408724 : True := trivial
theorem tw5673217713224942034 : True := trivial
theorem tw14097071162172064393 : True := trivial
theorem tw11836140115549266800 : True := trivial
theorem tw16883668850352610119 : True := trivial
theorem tw1101072495563756221 : True := trivial
theorem tw6247462390522531027 : True := trivial
theorem tw10359590367222190917 : True := trivial
theorem tw1566639127431165546 : True := trivial
theorem tw11557742362171556866 : True := trivial
theorem tw3027476751154937553 : True := trivial
theorem tw13923409294685384846 : True := trivial
theorem tw7396543300952597763 : True := trivial
theorem tw3431630524080040598 : True := trivial
theorem tw7227605341305374692 : True := trivial
theorem tw7633491131715601661 : True := trivial
theorem tw13894252080394477491 : True := trivial
theorem tw1791708503479516384 : True := trivial
theorem tw13783615777142146781 : True := trivial
theorem tw17501940892938927208 : True := trivial
theorem tw1906765722220309433 : True := trivial
theorem tw836695154343010312 : True := trivial
theorem tw7950356011287764439 : True := trivial
theorem tw17712616091106239066 : True := trivial
theorem tw9011735664230083773 : True := trivial
theorem tw11138916283544261368 : True := trivial
theorem tw14145644522501960031 : True := trivial
theorem tw18258696359124444742 : True := trivial
theorem tw8916445563948935134 : True := trivial
theorem tw16365732643694113024 : True := trivial
theorem tw1998444458601959439 : True := trivial
theorem tw10645618449361681279 : True := trivial
theorem tw11311503144761220929 : True := trivial
theorem tw8168678989195866348 : True := trivial
theorem tw4841494222693871916 : True := trivial
theorem tw15613088429293610051 : True := trivial
theorem tw5573402329383264782 : True := trivial
theorem tw2149071887478626262 : True := trivial
theorem tw15541952589736924703 : True := trivial
theorem tw17428663552108877220 : True := trivial
theorem tw9462566677740111017 : True := trivial
theorem tw2911830524136661990 : True := trivial
theorem tw15309602695541558623 : True := trivial
theorem tw6806714175579074044 : True := trivial
theorem tw13448596159823550615 : True := trivial
theorem tw6540539982238045846 : True := trivial
theorem tw13507922802608089252 : True := trivial
theorem tw3124768108017631260 : True := trivial
theorem tw15558378147856479071 : True := trivial
theorem tw5577575844952705613 : True := trivial
theorem tw10701026009439585682 : True := trivial
theorem tw6914619654074311275 : True := trivial
theorem tw4180519847728265328 : True := trivial
theorem tw236358810352359810 : True := trivial
theorem tw9007246022367499206 : True := trivial
theorem tw4813781975104179023 : True := trivial
theorem tw15698546572472430566 : True := trivial
theorem tw14550172490852230929 : True := trivial
theorem tw15504291129610619448 : True := trivial
theorem tw6660545050086430227 : True := trivial
theorem tw7988351493518999571 : True := trivial
theorem tw15217732267927594826 : True := trivial
theorem tw12663624379696211321 : True := trivial
theorem tw14599018961174171659 : True := trivial
theorem tw13343273718918609860 : True := trivial
theorem tw17988192527321027359 : True := trivial
theorem tw9148408094715359024 : True := trivial
theorem tw5242145033907530929 : True := trivial
theorem tw8660283991114967406 : True := trivial
theorem tw15167037578523375085 : True := trivial
theorem tw15168170161321100085 : True := trivial
theorem tw4838071925807594700 : True := trivial
theorem tw14803772678980794878 : True := trivial
theorem tw17134969215516040925 : True := trivial
theorem tw18424821151155288605 : True := trivial
theorem tw2074535860433114191 : True := trivial
theorem tw12562610865223312348 : True := trivial
theorem tw17127126597349631722 : True := trivial
theorem tw12226283180100846709 : True := trivial
theorem tw3658693896041627236 : True := trivial
theorem tw11884738620735766374 : True := trivial
theorem tw13923028104903399240 : True := trivial
theorem tw2326783356284278500 : True := trivial
theorem tw98452394334117647 : True := trivial
theorem tw13425769595410522833 : True := trivial
theorem tw12054926506686396399 : True := trivial
theorem tw17414575063232657204 : True := trivial
theorem tw3546783482877856938 : True := trivial
theorem tw13698878568655804647 : True := trivial
theorem tw12424578257700845520 : True := trivial
theorem tw3916711650153603110 : True := trivial
theorem tw14528101313814044331 : True := trivial
theorem tw2563353047958527164 : True := trivial
theorem tw3893126768155452293 : True := trivial
theorem tw1875048185412942809 : True := trivial
theorem tw13357229933513516475 : True := trivial
theorem tw5829316640929220859 : True := trivial
theorem tw14427961530108044096 : True := trivial
theorem tw10624501004776594426 : True := trivial
theorem tw4374537522111884271 : True := trivial
theorem tw723185611229668482 : True := trivial
theorem tw8396401832921518935 : True := trivial
theorem tw9982623004737212951 : True := trivial
theorem tw3994169755764347844 : True := trivial
theorem tw5188765255589745084 : True := trivial
theorem tw18024685934105195381 : True := trivial
theorem tw9255682319554975248 : True := trivial
theorem tw9998913356577436072 : True := trivial
theorem tw2901695272111753596 : True := trivial
theorem tw8944698121810904918 : True := trivial
theorem tw1385477224872533027 : True := trivial
theorem tw11854117325673227196 : True := trivial
theorem tw329141943154869238 : True := trivial
theorem tw7357058347557149704 : True := trivial
theorem tw10490257822402415730 : True := trivial
theorem tw6255426547544993086 : True := trivial
theorem tw8995191107318604303 : True := trivial
theorem tw13730612801676527717 : True := trivial
theorem tw15864407873535629518 : True := trivial
theorem tw7597645533077904449 : True := trivial
theorem tw14735316804633294440 : True := trivial
theorem tw2200298987917590768 : True := trivial
theorem tw4930538288915348780 : True := trivial
theorem tw998026559521504593 : True := trivial
theorem tw15419984715618195326 : True := trivial
theorem tw12973745332742583478 : True := trivial
theorem tw8211871959447765918 : True := trivial
theorem tw17097768353931033141 : True := trivial
theorem tw1430303919160843261 : True := trivial
theorem tw6744809963827638495 : True := trivial
theorem tw10282602823382774576 : True := trivial
theorem tw3460976535992612414 : True := trivial
theorem tw1269132640263578138 : True := trivial
theorem tw16537703587056273260 : True := trivial
theorem tw11990710488164742004 : True := trivial
theorem tw2974449383219153627 : True := trivial
theorem tw6399314658153250566 : True := trivial
theorem tw10942974396893713269 : True := trivial
theorem tw9677266341113404487 : True := trivial
theorem tw7928214773567552522 : True := trivial
theorem tw10072563765181447205 : True := trivial
theorem tw2402379879437417748 : True := trivial
theorem tw5946748274956244589 : True := trivial
theorem tw10474749632077423771 : True := trivial
theorem tw7006094497214258422 : True := trivial
theorem tw10122059612565458082 : True := trivial
theorem tw6180656961281173655 : True := trivial
theorem tw12849413355999134942 : True := trivial
theorem tw15274227692947548769 : True := trivial
theorem tw9527389110742283568 : True := trivial
theorem tw8076549508447372473 : True := trivial
theorem tw11905072141480594851 : True := trivial
theorem tw4070218871135075128 : True := trivial
theorem tw244911215054287079 : True := trivial
theorem tw5212988830738332127 : True := trivial
theorem tw9926225241081230965 : True := trivial
theorem tw1705347541951429976 : True := trivial
theorem tw6455881134873588853 : True := trivial
theorem tw2228753476969634653 : True := trivial
theorem tw8158716957947554554 : True := trivial
theorem tw7197973166532121367 : True := trivial
theorem tw18253224796335188132 : True := trivial
theorem tw12960376347512681500 : True := trivial
theorem tw5444464647772912561 : True := trivial
theorem tw968778179349503787 : True := trivial
theorem tw12162184056772910726 : True := trivial
theorem tw10771789822189584059 : True := trivial
theorem tw13967587154065289461 : True := trivial
theorem tw13753414080142038054 : True := trivial
theorem tw1945669422751770135 : True := trivial
theorem tw9730500255466588816 : True := trivial
theorem tw13571181934949179860 : True := trivial
theorem tw861125565578233505 : True := trivial
theorem tw4959258178407608516 : True := trivial
theorem tw3988889879501844054 : True := trivial
theorem tw10450727845213351666 : True := trivial
theorem tw6403997191094636712 : True := trivial
theorem tw9154924873321785177 : True := trivial
theorem tw7641145247805345776 : True := trivial
theorem tw16231790289301817823 : True := trivial
theorem tw13288335733756859472 : True := trivial
theorem tw2461237872894700334 : True := trivial
theorem tw15214764629613522869 : True := trivial
theorem tw8647392130306490803 : True := trivial
theorem tw18019408855270785834 : True := trivial
theorem tw8995534953502348993 : True := trivial
theorem tw8714124993999463442 : True := trivial
theorem tw11359855801665921629 : True := trivial
theorem tw5370978325708467585 : True := trivial
theorem tw2092785574431015559 : True := trivial
theorem tw5129754014310535209 : True := trivial
theorem tw13918778078975912410 : True := trivial
theorem tw13851924830782147059 : True := trivial
theorem tw16455315789364398901 : True := trivial
theorem tw13683683507276958926 : True := trivial
theorem tw273863220485231023 : True := trivial
theorem tw8065479966601715534 : True := trivial
theorem tw15306184389640628069 : True := trivial
theorem tw2106560549606705704 : True := trivial
theorem tw2512164714244725093 : True := trivial
theorem tw4155582093348663362 : True := trivial
theorem tw16486335622823799745 : True := trivial
theorem tw5062583684713489178 : True := trivial
theorem tw16251826867150958037 : True := trivial
theorem tw11293035416516881783 : True := trivial
theorem tw2791198409754798699 : True := trivial
theorem tw5585088645056059580 : True := trivial
theorem tw10266624365430037713 : True := trivial
theorem tw6159989686470161182 : True := trivial
theorem tw2107405722475995122 : True := trivial
theorem tw14880370908690498350 : True := trivial
theorem tw7375740246938780860 : True := trivial
theorem tw14358381945618322745 : True := trivial
theorem tw6667128165883102396 : True := trivial
theorem tw16040094856995250455 : True := trivial
theorem tw6062016995257204304 : True := trivial
theorem tw7071228255294598645 : True := trivial
theorem tw133363866970597522 : True := trivial
theorem tw11661401201984087566 : True := trivial
theorem tw16665523708154394530 : True := trivial
theorem tw11800455680916626339 : True := trivial
theorem tw10795975756878521893 : True := trivial
theorem tw9206051016347806872 : True := trivial
theorem tw13697906417995527048 : True := trivial
theorem tw15157285748929628410 : True := trivial
theorem tw13540589833324055297 : True := trivial
theorem tw232003963321619571 : True := trivial
theorem tw14081549652137926979 : True := trivial
theorem tw5874685121981956133 : True := trivial
theorem tw15268125124562921896 : True := trivial
theorem tw14849339521462016120 : True := trivial
theorem tw16463143761824623048 : True := trivial
theorem tw4696822814330806323 : True := trivial
theorem tw4857948118486751680 : True := trivial
theorem tw16438548034507589460 : True := trivial
theorem tw10351926400384417519 : True := trivial
theorem tw15472091135564827533 : True := trivial
theorem tw11103184252766234723 : True := trivial
theorem tw10949221519270565918 : True := trivial
theorem tw15233983257606050629 : True := trivial
theorem tw6886679383727359408 : True := trivial
theorem tw3685293248069548125 : True := trivial
theorem tw8259629118616524047 : True := trivial
theorem tw15349749125302409960 : True := trivial
theorem tw2364848744892675096 : True := trivial
theorem tw15771748467924665077 : True := trivial
theorem tw3806252683816541430 : True := trivial
theorem tw17885369055238406755 : True := trivial
theorem tw7460616839230442285 : True := trivial
theorem tw5105828726811827905 : True := trivial
theorem tw14222219932378796896 : True := trivial
theorem tw10104567060836122784 : True := trivial
theorem tw12546324315719041245 : True := trivial
theorem tw5916027049878727667 : True := trivial
theorem tw5508383233846317314 : True := trivial
theorem tw13190219640384529218 : True := trivial
theorem tw14496715300280548120 : True := trivial
theorem tw12624751121482235391 : True := trivial
theorem tw11581874506240056974 : True := trivial
theorem tw9474425852886275956 : True := trivial
theorem tw4520744919641544926 : True := trivial
theorem tw366347084816761711 : True := trivial
theorem tw4610018397563840650 : True := trivial
theorem tw6827726287682122637 : True := trivial
theorem tw239318060469566747 : True := trivial
theorem tw14061134784150719498 : True := trivial
theorem tw14938562992831128185 : True := trivial
theorem tw18148963451525063607 : True := trivial
theorem tw6387174386874819063 : True := trivial
theorem tw18381862407583301963 : True := trivial
theorem tw6138112482707524024 : True := trivial
theorem tw14968546843742071968 : True := trivial
theorem tw2204634493571162879 : True := trivial
theorem tw13360080824931034807 : True := trivial
theorem tw11677689124374944166 : True := trivial
theorem tw641527223693223678 : True := trivial
theorem tw1508939921914916684 : True := trivial
theorem tw14800739030114531674 : True := trivial
theorem tw289351214431950326 : True := trivial
theorem tw14407290568559646290 : True := trivial
theorem tw2198733080844816146 : True := trivial
theorem tw2801362577194215750 : True := trivial
theorem tw7621332771867119663 : True := trivial
theorem tw16720456229777829641 : True := trivial
theorem tw10343659222537563544 : True := trivial
theorem tw15094256605709896019 : True := trivial
theorem tw10009317977004028000 : True := trivial
theorem tw15596680718910237146 : True := trivial
theorem tw5716628891714158363 : True := trivial
theorem tw8486878369837660407 : True := trivial
theorem tw1409978954939433004 : True := trivial
theorem tw2737177041243207796 : True := trivial
theorem tw9738983298032565756 : True := trivial
theorem tw8906488839077088522 : True := trivial
theorem tw6227878016381048271 : True := trivial
theorem tw12637744867886133628 : True := trivial
theorem tw17614960322692831066 : True := trivial
theorem tw8000180681730694774 : True := trivial
theorem tw614558043089811310 : True := trivial
theorem tw14657534442920306962 : True := trivial
theorem tw15984181841557483923 : True := trivial
theorem tw14113081738768413968 : True := trivial
theorem tw3573234308069972146 : True := trivial
theorem tw5650650917578163662 : True := trivial
theorem tw15452906965078176619 : True := trivial
theorem tw738841620414127394 : True := trivial
theorem tw1172061905103296492 : True := trivial
theorem tw16237258315315752977 : True := trivial
theorem tw9374488263318950410 : True := trivial
theorem tw7553538189438063356 : True := trivial
theorem tw11864627132703129457 : True := trivial
theorem tw10480570858281003894 : True := trivial
theorem tw8446893348164473121 : True := trivial
theorem tw10904851374006233942 : True := trivial
theorem tw16431632290861813053 : True := trivial
theorem tw3271795811133555322 : True := trivial
theorem tw10918363084170576351 : True := trivial
theorem tw7238039804920480030 : True := trivial
theorem tw12879927289367985117 : True := trivial
theorem tw7009909810384632514 : True := trivial
theorem tw10202395595379686587 : True := trivial
theorem tw2701938934368866645 : True := trivial
theorem tw14256819554376828507 : True := trivial
theorem tw11413163804509300452 : True := trivial
theorem tw3601579620574824352 : True := trivial
theorem tw1832328763097260887 : True := trivial
theorem tw8396230872316384535 : True := trivial
theorem tw10542198366158342024 : True := trivial
theorem tw8176661241578841937 : True := trivial
theorem tw4651772689367869383 : True := trivial
theorem tw6133535111683866486 : True := trivial
theorem tw14139011123820974261 : True := trivial
theorem tw6183170732168668672 : True := trivial
theorem tw15762055085880860179 : True := trivial
theorem tw3552912275275724086 : True := trivial
theorem tw6706863682674867956 : True := trivial
theorem tw12317753249295291292 : True := trivial
theorem tw6251441721352527959 : True := trivial
theorem tw13542431714363975409 : True := trivial
theorem tw12870607082653321816 : True := trivial
theorem tw8122968673699180066 : True := trivial
theorem tw17411308892574726815 : True := trivial
theorem tw4486521876190859277 : True := trivial
theorem tw12649017965818580582 : True := trivial
theorem tw16731048872936973562 : True := trivial
theorem tw14319119475414111183 : True := trivial
theorem tw4070694048512513258 : True := trivial
theorem tw17984124951322529083 : True := trivial
theorem tw8149116627493346817 : True := trivial
theorem tw4108798677578002656 : True := trivial
theorem tw8877276818786051428 : True := trivial
theorem tw16696674727368647758 : True := trivial
theorem tw14501173147482915762 : True := trivial
theorem tw4271203718191791434 : True := trivial
theorem tw16003567330155289009 : True := trivial
theorem tw2531821618991348760 : True := trivial
theorem tw6193084291541439137 : True := trivial
theorem tw10426014127580908328 : True := trivial
theorem tw2420743326394038334 : True := trivial
theorem tw5350977836198789584 : True := trivial
theorem tw15176163051956000439 : True := trivial
theorem tw7743842288033334158 : True := trivial
theorem tw3538118868781870980 : True := trivial
theorem tw6278965183283390618 : True := trivial
theorem tw17472633115075149583 : True := trivial
theorem tw15702165734688626653 : True := trivial
theorem tw5380530128571979450 : True := trivial
theorem tw13313372609975555909 : True := trivial
theorem tw14648687091464277499 : True := trivial
theorem tw7496454863691361335 : True := trivial
theorem tw1603177490877103936 : True := trivial
theorem tw3100426303955427288 : True := trivial
theorem tw17053584317636969695 : True := trivial
theorem tw18148171594494523452 : True := trivial
theorem tw8883181153421227680 : True := trivial
theorem tw17243022955584595061 : True := trivial
theorem tw7008402797645538871 : True := trivial
theorem tw15560064216937962339 : True := trivial
theorem tw17803543581457348023 : True := trivial
theorem tw10667934170471389539 : True := trivial
theorem tw635047884524593023 : True := trivial
theorem tw6780613945561639880 : True := trivial
theorem tw84343586275669380 : True := trivial
theorem tw11882120488719475948 : True := trivial
theorem tw4006901818265393999 : True := trivial
theorem tw6423123746774071935 : True := trivial
theorem tw13364125572446732543 : True := trivial
theorem tw6199008886999437048 : True := trivial
theorem tw12242648190001905069 : True := trivial
theorem tw7514468472302094676 : True := trivial
theorem tw13694950366767363653 : True := trivial
theorem tw6585855966270902576 : True := trivial
theorem tw6212056105078262658 : True := trivial
theorem tw6258053440289370756 : True := trivial
theorem tw8269811409344534100 : True := trivial
theorem tw3036574997832675523 : True := trivial
theorem tw1265082131720745508 : True := trivial
theorem tw13025030300079889775 : True := trivial
theorem tw16682524592995293804 : True := trivial
theorem tw14475165532435241697 : True := trivial
theorem tw10372888015898579593 : True := trivial
theorem tw8465419716540504262 : True := trivial
theorem tw3886271311754328360 : True := trivial
theorem tw13631728542868345312 : True := trivial
theorem tw10991537627446591396 : True := trivial
theorem tw8566403763335352447 : True := trivial
theorem tw17156416258399599838 : True := trivial
theorem tw9471473264126939168 : True := trivial
theorem tw9207096897922247394 : True := trivial
theorem tw16587797641275427641 : True := trivial
theorem tw14087351725651508379 : True := trivial
theorem tw5506966987064914457 : True := trivial
theorem tw12354633186048782201 : True := trivial
theorem tw11934208395251038536 : True := trivial
theorem tw14544285751609812514 : True := trivial
theorem tw16653333803930401373 : True := trivial
theorem tw8039306995159145379 : True := trivial
theorem tw1081478152116204009 : True := trivial
theorem tw15850553684143492752 : True := trivial
theorem tw17714953405827072790 : True := trivial
theorem tw7181763288889679127 : True := trivial
theorem tw1109835597509957221 : True := trivial
theorem tw12715509510295650867 : True := trivial
theorem tw5824939801019035157 : True := trivial
theorem tw16257070695961656388 : True := trivial
theorem tw6872384062192516089 : True := trivial
theorem tw1393724270192848973 : True := trivial
theorem tw832187447593870849 : True := trivial
theorem tw915663825461903306 : True := trivial
theorem tw6730998444191508178 : True := trivial
theorem tw17654891710243276672 : True := trivial
theorem tw8973494660343719624 : True := trivial
theorem tw14333377570439270713 : True := trivial
theorem tw13911811151818613365 : True := trivial
theorem tw7144472940558078546 : True := trivial
theorem tw10355255972039489743 : True := trivial
theorem tw14811434846544158731 : True := trivial
theorem tw4012432604411511811 : True := trivial
theorem tw7351472858151347481 : True := trivial
theorem tw17393383420277054801 : True := trivial
theorem tw1819295447263988336 : True := trivial
theorem tw3731033694657904610 : True := trivial
theorem tw14927178164762556630 : True := trivial
theorem tw16105630494654654161 : True := trivial
theorem tw11886393404615902710 : True := trivial
theorem tw17973726621644156924 : True := trivial
theorem tw5829072655527240854 : True := trivial
theorem tw13240330389288729518 : True := trivial
theorem tw11703893336822753264 : True := trivial
theorem tw11136658263188582332 : True := trivial
theorem tw3258112219383730397 : True := trivial
theorem tw10493773270090487783 : True := trivial
theorem tw4321888764482581458 : True := trivial
theorem tw16574522222290319829 : True := trivial
theorem tw10378063292821785478 : True := trivial
theorem tw15365503120310175694 : True := trivial
theorem tw3336895763833486209 : True := trivial
theorem tw14435020274755105738 : True := trivial
theorem tw8317236397116844748 : True := trivial
theorem tw5528380148673072093 : True := trivial
theorem tw11944837164276950236 : True := trivial
theorem tw3693057125356778412 : True := trivial
theorem tw909380622898290048 : True := trivial
theorem tw9493074718353403926 : True := trivial
theorem tw3811181633299624959 : True := trivial
theorem tw6913052755048738424 : True := trivial
theorem tw17539039848744192823 : True := trivial
theorem tw2310800164276771288 : True := trivial
theorem tw1312474195380794385 : True := trivial
theorem tw6980482773563389058 : True := trivial
theorem tw844030226373920033 : True := trivial
theorem tw6119429247127757445 : True := trivial
theorem tw8021143908647612775 : True := trivial
theorem tw10124461865155599926 : True := trivial
theorem tw16504095803696095784 : True := trivial
theorem tw17271386151971166024 : True := trivial
theorem tw6097096269361295305 : True := trivial
theorem tw16508570022192526795 : True := trivial
theorem tw15639688177154082407 : True := trivial
theorem tw4798273374116860910 : True := trivial
theorem tw13668297550752541041 : True := trivial
theorem tw8265782304099398731 : True := trivial
theorem tw8412425049283548582 : True := trivial
theorem tw6204507211462140052 : True := trivial
theorem tw15253443849897783817 : True := trivial
theorem tw15360313953883589085 : True := trivial
theorem tw2963881334378708313 : True := trivial
theorem tw293819717115944539 : True := trivial
theorem tw3971864774877636911 : True := trivial
theorem tw1253153794714474211 : True := trivial
theorem tw2608265103703645584 : True := trivial
theorem tw6695200527986521003 : True := trivial
theorem tw9543129628620508886 : True := trivial
theorem tw761777602555166275 : True := trivial
theorem tw18427806795460723095 : True := trivial
theorem tw9215096031686037998 : True := trivial
theorem tw8687782705761209521 : True := trivial
theorem tw8451539010648815968 : True := trivial
theorem tw10156414067486028591 : True := trivial
theorem tw486599105071583913 : True := trivial
theorem tw5998299503780291469 : True := trivial
theorem tw8100461409133516074 : True := trivial
theorem tw8890776489901711613 : True := trivial
theorem tw11225846609739556956 : True := trivial
theorem tw4405097978644863223 : True := trivial
theorem tw72893022412842514 : True := trivial
theorem tw17437526839533810586 : True := trivial
theorem tw6772877913310274368 : True := trivial
theorem tw6852164067374892724 : True := trivial
theorem tw1894077974881195511 : True := trivial
theorem tw11012777390250567565 : True := trivial
theorem tw13516401846638062424 : True := trivial
theorem tw10293778300028305135 : True := trivial
theorem tw17534073652340905316 : True := trivial
theorem tw9980972887393264616 : True := trivial
theorem tw18322884172208178479 : True := trivial
theorem tw11754455592291965090 : True := trivial
theorem tw17890936765825980021 : True := trivial
theorem tw7688130529687402929 : True := trivial
theorem tw103167222794483739 : True := trivial
theorem tw10407249253704292414 : True := trivial
theorem tw10074469153018548599 : True := trivial
theorem tw17630044906363032536 : True := trivial
theorem tw12213843561439415240 : True := trivial
theorem tw3492596557483509039 : True := trivial
theorem tw16708070414006010013 : True := trivial
theorem tw2578873585271209281 : True := trivial
theorem tw16427356801999304428 : True := trivial
theorem tw711459345529592045 : True := trivial
theorem tw17908994780478200617 : True := trivial
theorem tw14187913199495336302 : True := trivial
theorem tw3668029733460542543 : True := trivial
theorem tw9407318365960274557 : True := trivial
theorem tw12964394882346753429 : True := trivial
theorem tw6416277663324868381 : True := trivial
theorem tw9339209733741965838 : True := trivial
theorem tw8821777736918041530 : True := trivial
theorem tw12664252174830974080 : True := trivial
theorem tw8527382373849231170 : True := trivial
theorem tw13275121255326723692 : True := trivial
theorem tw250507434099111457 : True := trivial
theorem tw15622170672010608037 : True := trivial
theorem tw4883291089346735450 : True := trivial
theorem tw11279076456606261245 : True := trivial
theorem tw4403228778824276932 : True := trivial
theorem tw1917501608009968333 : True := trivial
theorem tw6086718172679028931 : True := trivial
theorem tw17728162532936856533 : True := trivial
theorem tw762609881881508197 : True := trivial
theorem tw3811358075409473382 : True := trivial
theorem tw13939645232997748768 : True := trivial
theorem tw13983122565500919670 : True := trivial
theorem tw12627582261537349687 : True := trivial
theorem tw5541171225208640345 : True := trivial
theorem tw17442088839999931496 : True := trivial
theorem tw3366131230660044204 : True := trivial
theorem tw6498527346508211841 : True := trivial
theorem tw14397944082140810319 : True := trivial
theorem tw1405822358085536330 : True := trivial
theorem tw2241728642218305627 : True := trivial
theorem tw5735682055835265809 : True := trivial
theorem tw14426717597130600262 : True := trivial
theorem tw16475584488237475523 : True := trivial
theorem tw12844795796754699479 : True := trivial
theorem tw14482985346176248849 : True := trivial
theorem tw9454968440612547502 : True := trivial
theorem tw14983843883378657090 : True := trivial
theorem tw11985156047827098204 : True := trivial
theorem tw14936704192761244261 : True := trivial
theorem tw507301078562952718 : True := trivial
theorem tw10501846933466038327 : True := trivial
theorem tw11141574237280262120 : True := trivial
theorem tw14649365359962844324 : True := trivial
theorem tw16654793701622238567 : True := trivial
theorem tw11245551652590965555 : True := trivial
theorem tw447610396910590030 : True := trivial
theorem tw14341168510057780191 : True := trivial
theorem tw11760878886502126210 : True := trivial
theorem tw5678619852107584274 : True := trivial
theorem tw2249426302187761329 : True := trivial
theorem tw12788949186226577763 : True := trivial
theorem tw8826216463897654411 : True := trivial
theorem tw9682705512961938938 : True := trivial
theorem tw6945648633802160408 : True := trivial
theorem tw15807733762147020817 : True := trivial
theorem tw1065157602476383147 : True := trivial
theorem tw17993489619842566374 : True := trivial
theorem tw782728547136427619 : True := trivial
theorem tw11978308463321419397 : True := trivial
theorem tw17151560799452803597 : True := trivial
theorem tw6341227150140280315 : True := trivial
theorem tw861229661821431240 : True := trivial
theorem tw13864613034752993178 : True := trivial
theorem tw18033490916367608809 : True := trivial
theorem tw2070049290703355154 : True := trivial
theorem tw5461935522068843069 : True := trivial
theorem tw15021834263451852855 : True := trivial
theorem tw10900746236288768717 : True := trivial
theorem tw10059408833465618084 : True := trivial
theorem tw9866966937034177716 : True := trivial
theorem tw13836758353050372683 : True := trivial
theorem tw8254437088249555227 : True := trivial
theorem tw6714703281039151999 : True := trivial
theorem tw17158926034708449383 : True := trivial
end PySem.W.Fast
open PySem PySem.W PyProof.Rows
set_option maxRecDepth 100000 in
set_option maxHeartbeats 0 in
theorem PySem.Challenge.cw_tribunal_k22_runs_of_programs_holds : PySem.Challenge.rw_tribunal_k22_runs_of_programs.Holds := by
  w_on; o_law; k_head; (case hw => w_witness2)
  k_fill
  refine Toy.walk (l := PySem.Challenge.rw_tribunal_k22_runs_of_programs) rfl rfl (fun w h Y => PySem.W.kIn_of Y) ?F
  case F =>
    intro w mg fa h KX G hmg
    refine' Toy.all_mk KX G hmg ?c_DIGITS ?c_MODULUS ?c_MOST_VALUES ?c_MOST_STEPS ?n_len ?n_range ?n_isinstance ?n_int ?n_bool ?n_list ?n_tuple ?n_str ?n_dict ?n_sorted ?n_max ?g_Run ?g_Machine ?a_Run_init ?i_Run_init ?l_Run_init ?q_Run_init ?k_Run_init ?a_run ?l_run ?q_run ?k_run ?a_plus ?l_plus ?q_plus ?k_plus ?a_minus ?l_minus ?q_minus ?k_minus ?a_times ?l_times ?q_times ?k_times ?a_append_digit ?l_append_digit ?q_append_digit ?k_append_digit ?a_is_less ?l_is_less ?q_is_less ?k_is_less ?a_is_equal ?l_is_equal ?q_is_equal ?k_is_equal ?a_Machine_init ?i_Machine_init ?l_Machine_init ?q_Machine_init ?k_Machine_init ?a_Machine_push ?i_Machine_push ?l_Machine_push ?q_Machine_push ?k_Machine_push ?a_Machine_take ?i_Machine_take ?l_Machine_take ?q_Machine_take ?k_Machine_take ?a_Machine_push_number ?i_Machine_push_number ?l_Machine_push_number ?q_Machine_push_number ?k_Machine_push_number ?a_Machine_combine ?i_Machine_combine ?l_Machine_combine ?q_Machine_combine ?k_Machine_combine ?a_Machine_move ?i_Machine_move ?l_Machine_move ?q_Machine_move ?k_Machine_move ?a_Machine_jump ?i_Machine_jump ?l_Machine_jump ?q_Machine_jump ?k_Machine_jump ?a_Machine_settle ?i_Machine_settle ?l_Machine_settle ?q_Machine_settle ?k_Machine_settle ?a_Machine_perform ?i_Machine_perform ?l_Machine_perform ?q_Machine_perform ?k_Machine_perform ?a_Machine_finish ?i_Machine_finish ?l_Machine_finish ?q_Machine_finish ?k_Machine_finish ?a_law_cell ?l_law_cell ?q_law_cell ?k_law_cell ?a_law_is_integer ?l_law_is_integer ?q_law_is_integer ?k_law_is_integer ?a_law_row ?l_law_row ?q_law_row ?k_law_row ?a_law_reckon ?l_law_reckon ?q_law_reckon ?k_law_reckon ?a_law_need ?l_law_need ?q_law_need ?k_law_need ?a_law_act ?l_law_act ?q_law_act ?k_law_act ?a_law_sign ?l_law_sign ?q_law_sign ?k_law_sign ?a_law_run ?l_law_run ?q_law_run ?k_law_run ?a_law ?l_law ?q_law ?k_law ?pg_Run ?hd_Run ?po_Run ?sa_Run ?mk_Run ?kc_Run ?no_Run_well ?no_Run_store ?no_Run_paid ?no_Run_steps ?pg_Machine ?hd_Machine ?po_Machine ?sa_Machine ?mk_Machine ?kc_Machine ?no_Machine_code ?no_Machine_given ?no_Machine_amount ?no_Machine_store ?no_Machine_stack ?no_Machine_place ?no_Machine_paid ?no_Machine_steps ?g_OF_TWO ?l_OF_TWO ?kl_OF_TWO ?lo_OF_TWO ?g_Failed ?x_Failed ?kc_Failed ?b_Failed ?t_Failed ?xga_Failed ?xgt_Failed ?xhd_Failed ?xcc_Failed ?xsp_Failed ?xtk_Failed ?xmo_Failed ?te1_Failed ?te2_Failed ?te3_Failed ?te4_Failed_Failed
    (case c_DIGITS => k_is)
    (case c_MODULUS => k_is)
    (case c_MOST_VALUES => k_is)
    (case c_MOST_STEPS => k_is)
    (case n_len => k_is)
    (case n_range => k_is)
    (case n_isinstance => k_is)
    (case n_int => k_is)
    (case n_bool => k_is)
    (case n_list => k_is)
    (case n_tuple => k_is)
    (case n_str => k_is)
    (case n_dict => k_is)
    (case n_sorted => k_is)
    (case n_max => k_is)
    (case g_Run => k_is)
    (case g_Machine => k_is)
    (case a_Run_init => k_is)
    (case i_Run_init => k_is)
    (case l_Run_init => k_is)
    (case q_Run_init => k_is)
    (case k_Run_init => k_is)
    (case a_run => k_is)
    (case l_run => k_is)
    (case q_run => k_is)
    (case k_run => k_is)
    (case a_plus => k_is)
    (case l_plus => k_is)
    (case q_plus => k_is)
    (case k_plus => k_is)
    (case a_minus => k_is)
    (case l_minus => k_is)
    (case q_minus => k_is)
    (case k_minus => k_is)
    (case a_times => k_is)
    (case l_times => k_is)
    (case q_times => k_is)
    (case k_times => k_is)
    (case a_append_digit => k_is)
    (case l_append_digit => k_is)
    (case q_append_digit => k_is)
    (case k_append_digit => k_is)
    (case a_is_less => k_is)
    (case l_is_less => k_is)
    (case q_is_less => k_is)
    (case k_is_less => k_is)
    (case a_is_equal => k_is)
    (case l_is_equal => k_is)
    (case q_is_equal => k_is)
    (case k_is_equal => k_is)
    (case a_Machine_init => k_is)
    (case i_Machine_init => k_is)
    (case l_Machine_init => k_is)
    (case q_Machine_init => k_is)
    (case k_Machine_init => k_is)
    (case a_Machine_push => k_is)
    (case i_Machine_push => k_is)
    (case l_Machine_push => k_is)
    (case q_Machine_push => k_is)
    (case k_Machine_push => k_is)
    (case a_Machine_take => k_is)
    (case i_Machine_take => k_is)
    (case l_Machine_take => k_is)
    (case q_Machine_take => k_is)
    (case k_Machine_take => k_is)
    (case a_Machine_push_number => k_is)
    (case i_Machine_push_number => k_is)
    (case l_Machine_push_number => k_is)
    (case q_Machine_push_number => k_is)
    (case k_Machine_push_number => k_is)
    (case a_Machine_combine => k_is)
    (case i_Machine_combine => k_is)
    (case l_Machine_combine => k_is)
    (case q_Machine_combine => k_is)
    (case k_Machine_combine => k_is)
    (case a_Machine_move => k_is)
    (case i_Machine_move => k_is)
    (case l_Machine_move => k_is)
    (case q_Machine_move => k_is)
    (case k_Machine_move => k_is)
    (case a_Machine_jump => k_is)
    (case i_Machine_jump => k_is)
    (case l_Machine_jump => k_is)
    (case q_Machine_jump => k_is)
    (case k_Machine_jump => k_is)
    (case a_Machine_settle => k_is)
    (case i_Machine_settle => k_is)
    (case l_Machine_settle => k_is)
    (case q_Machine_settle => k_is)
    (case k_Machine_settle => k_is)
    (case a_Machine_perform => k_is)
    (case i_Machine_perform => k_is)
    (case l_Machine_perform => k_is)
    (case q_Machine_perform => k_is)
    (case k_Machine_perform => k_is)
    (case a_Machine_finish => k_is)
    (case i_Machine_finish => k_is)
    (case l_Machine_finish => k_is)
    (case q_Machine_finish => k_is)
    (case k_Machine_finish => k_is)
    (case a_law_cell => k_is)
    (case l_law_cell => k_is)
    (case q_law_cell => k_is)
    (case k_law_cell => k_is)
    (case a_law_is_integer => k_is)
    (case l_law_is_integer => k_is)
    (case q_law_is_integer => k_is)
    (case k_law_is_integer => k_is)
    (case a_law_row => k_is)
    (case l_law_row => k_is)
    (case q_law_row => k_is)
    (case k_law_row => k_is)
    (case a_law_reckon => k_is)
    (case l_law_reckon => k_is)
    (case q_law_reckon => k_is)
    (case k_law_reckon => k_is)
    (case a_law_need => k_is)
    (case l_law_need => k_is)
    (case q_law_need => k_is)
    (case k_law_need => k_is)
    (case a_law_act => k_is)
    (case l_law_act => k_is)
    (case q_law_act => k_is)
    (case k_law_act => k_is)
    (case a_law_sign => k_is)
    (case l_law_sign => k_is)
    (case q_law_sign => k_is)
    (case k_law_sign => k_is)
    (case a_law_run => k_is)
    (case l_law_run => k_is)
    (case q_law_run => k_is)
    (case k_law_run => k_is)
    (case a_law => k_is)
    (case l_law => k_is)
    (case q_law => k_is)
    (case k_law => k_is)
    (case pg_Run => k_is)
    (case hd_Run => k_is)
    (case po_Run => k_is)
    (case sa_Run => k_is)
    (case mk_Run => k_is)
    (case kc_Run => k_is)
    (case no_Run_well => k_is)
    (case no_Run_store => k_is)
    (case no_Run_paid => k_is)
    (case no_Run_steps => k_is)
    (case pg_Machine => k_is)
    (case hd_Machine => k_is)
    (case po_Machine => k_is)
    (case sa_Machine => k_is)
    (case mk_Machine => k_is)
    (case kc_Machine => k_is)
    (case no_Machine_code => k_is)
    (case no_Machine_given => k_is)
    (case no_Machine_amount => k_is)
    (case no_Machine_store => k_is)
    (case no_Machine_stack => k_is)
    (case no_Machine_place => k_is)
    (case no_Machine_paid => k_is)
    (case no_Machine_steps => k_is)
    (case g_OF_TWO => k_is)
    (case l_OF_TWO => k_is)
    (case kl_OF_TWO => exact ⟨⟨_, _, rfl, rfl⟩, ⟨_, _, rfl, rfl⟩, ⟨_, _, rfl, rfl⟩, ⟨_, _, rfl, rfl⟩, ⟨_, _, rfl, rfl⟩, ⟨_, _, rfl, rfl⟩, trivial⟩)
    (case lo_OF_TWO => exact rfl)
    (case g_Failed => k_is)
    (case x_Failed => k_exc)
    (case kc_Failed => k_is)
    (case b_Failed => k_is)
    (case t_Failed => k_is)
    (case xga_Failed => k_is)
    (case xgt_Failed => k_is)
    (case xhd_Failed => k_is)
    (case xcc_Failed => k_is)
    (case xsp_Failed => k_is)
    (case xtk_Failed => k_is)
    (case xmo_Failed => k_is)
    (case te1_Failed => k_is)
    (case te2_Failed => k_is)
    (case te3_Failed => k_is)
    (case te4_Failed_Failed => k_is)
