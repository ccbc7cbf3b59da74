import PyProof.Rows.All
import Wide.All
import OpenK.AllK
import Wide.FinOn
import HandS.ForMost
import HandS.IsInst
import HandS.TupLe
import HandS.Codes
import HandS.More
import HandS.Exc
import HandS.ExcOwn
import HandS.WordsExc
import HandS.ExcIs
import KE.KExcIs
import HandS.FStr
import HandS.Zip
import HandS.Star
import HandS.StrMore
import HandS.Text
import HandS.Walk
import HandS.Deep
import HandS.TryOnly
import KE.IntTextText
import KE.KUnpackStar
import KE.IntTextLaws
import KE.GoesMore
import KE.GoesEnum
import HandS.TupAny
import HandS.TryElse
import PySem.Challenge.RW_tribunal_k21_commands_that_do_not_fit
set_option Elab.async false
set_option pp.maxSteps 300
set_option pp.deepTerms.threshold 6
set_option linter.all false
set_option maxRecDepth 100000
set_option maxHeartbeats 4000000
namespace Toy
open PySem L2
def top (i : Nat) : Stmt := PySem.Challenge.pw_tribunal_k21_commands_that_do_not_fit.main.body.getD i (.Pass ⟨0, 0, 0, 0⟩)
abbrev s_command_text : Stmt := (top 12)
abbrev s_Reader_init : Stmt := (inClass (top 16) 0)
abbrev s_Reader_read_signs : Stmt := (inClass (top 16) 5)
abbrev s_Reader_skip : Stmt := (inClass (top 16) 2)
abbrev s_Reader_read_number : Stmt := (inClass (top 16) 3)
abbrev s_Reader_read_code : Stmt := (inClass (top 16) 4)
abbrev s_Reader_read_command : Stmt := (inClass (top 16) 1)
abbrev s_commands_of : Stmt := (top 14)
abbrev s_checked_text : Stmt := (top 13)
abbrev s_law_cell : Stmt := (top 20)
abbrev s_law_row : Stmt := (top 22)
abbrev s_law_number : Stmt := (top 23)
abbrev s_law_code : Stmt := (top 24)
abbrev s_law_place : Stmt := (top 25)
abbrev s_law_command : Stmt := (top 26)
abbrev s_law_text : Stmt := (top 27)
abbrev s_Pool_init : Stmt := (inClass (top 18) 0)
abbrev s_Pool_submit : Stmt := (inClass (top 18) 1)
abbrev s_law_spoilt : Stmt := (top 29)
abbrev s_law_right : Stmt := (top 30)
abbrev s_law_refused : Stmt := (top 31)
abbrev s_law : Stmt := (top 32)
abbrev sc_command_text_N : List Str := ["command", "kind", "parts", "text", "mark", "part"]
theorem sc_command_text : FnScope sc_command_text_N ["command"] (defScope s_command_text) := ⟨rfl, rfl, rfl, by decide +kernel, rfl, by decide +kernel, by decide +kernel⟩
abbrev sc_Reader_init_N : List Str := ["self", "text"]
theorem sc_Reader_init : FnScope sc_Reader_init_N ["self", "text"] (defScope s_Reader_init) := ⟨rfl, rfl, rfl, by decide +kernel, rfl, by decide +kernel, by decide +kernel⟩
abbrev sc_Reader_read_signs_N : List Str := ["self", "allowed", "begin"]
theorem sc_Reader_read_signs : FnScope sc_Reader_read_signs_N ["self", "allowed"] (defScope s_Reader_read_signs) := ⟨rfl, rfl, rfl, by decide +kernel, rfl, by decide +kernel, by decide +kernel⟩
abbrev sc_Reader_skip_N : List Str := ["self", "mark"]
theorem sc_Reader_skip : FnScope sc_Reader_skip_N ["self", "mark"] (defScope s_Reader_skip) := ⟨rfl, rfl, rfl, by decide +kernel, rfl, by decide +kernel, by decide +kernel⟩
abbrev sc_Reader_read_number_N : List Str := ["self", "digits"]
theorem sc_Reader_read_number : FnScope sc_Reader_read_number_N ["self"] (defScope s_Reader_read_number) := ⟨rfl, rfl, rfl, by decide +kernel, rfl, by decide +kernel, by decide +kernel⟩
abbrev sc_Reader_read_code_N : List Str := ["self", "code"]
theorem sc_Reader_read_code : FnScope sc_Reader_read_code_N ["self"] (defScope s_Reader_read_code) := ⟨rfl, rfl, rfl, by decide +kernel, rfl, by decide +kernel, by decide +kernel⟩
abbrev sc_Reader_read_command_N : List Str := ["self", "kind", "parts", "mark", "part"]
theorem sc_Reader_read_command : FnScope sc_Reader_read_command_N ["self"] (defScope s_Reader_read_command) := ⟨rfl, rfl, rfl, by decide +kernel, rfl, by decide +kernel, by decide +kernel⟩
abbrev sc_commands_of_N : List Str := ["block", "reader", "found"]
theorem sc_commands_of : FnScope sc_commands_of_N ["block"] (defScope s_commands_of) := ⟨rfl, rfl, rfl, by decide +kernel, rfl, by decide +kernel, by decide +kernel⟩
abbrev sc_checked_text_N : List Str := ["command", "text"]
theorem sc_checked_text : FnScope sc_checked_text_N ["command"] (defScope s_checked_text) := ⟨rfl, rfl, rfl, by decide +kernel, rfl, by decide +kernel, by decide +kernel⟩
abbrev sc_law_cell_N : List Str := ["script", "k"]
theorem sc_law_cell : FnScope sc_law_cell_N ["script", "k"] (defScope s_law_cell) := ⟨rfl, rfl, rfl, by decide +kernel, rfl, by decide +kernel, by decide +kernel⟩
abbrev sc_law_row_N : List Str := ["cell", "count", "size", "state", "row", "k"]
theorem sc_law_row : FnScope sc_law_row_N ["cell", "count", "size"] (defScope s_law_row) := ⟨rfl, rfl, rfl, by decide +kernel, rfl, by decide +kernel, by decide +kernel⟩
abbrev sc_law_number_N : List Str := ["cell"]
theorem sc_law_number : FnScope sc_law_number_N ["cell"] (defScope s_law_number) := ⟨rfl, rfl, rfl, by decide +kernel, rfl, by decide +kernel, by decide +kernel⟩
abbrev sc_law_code_N : List Str := ["cell", "signs", "digits", "digit"]
theorem sc_law_code : FnScope sc_law_code_N ["cell"] (defScope s_law_code) := ⟨rfl, rfl, rfl, by decide +kernel, rfl, by decide +kernel, by decide +kernel⟩
abbrev sc_law_place_N : List Str := ["cell"]
theorem sc_law_place : FnScope sc_law_place_N ["cell"] (defScope s_law_place) := ⟨rfl, rfl, rfl, by decide +kernel, rfl, by decide +kernel, by decide +kernel⟩
abbrev sc_law_command_N : List Str := ["cell", "more", "one"]
theorem sc_law_command : FnScope sc_law_command_N ["cell", "more"] (defScope s_law_command) := ⟨rfl, rfl, rfl, by decide +kernel, rfl, by decide +kernel, by decide +kernel⟩
abbrev sc_law_text_N : List Str := ["command"]
theorem sc_law_text : FnScope sc_law_text_N ["command"] (defScope s_law_text) := ⟨rfl, rfl, rfl, by decide +kernel, rfl, by decide +kernel, by decide +kernel⟩
abbrev sc_Pool_init_N : List Str := ["self"]
theorem sc_Pool_init : FnScope sc_Pool_init_N ["self"] (defScope s_Pool_init) := ⟨rfl, rfl, rfl, by decide +kernel, rfl, by decide +kernel, by decide +kernel⟩
abbrev sc_Pool_submit_N : List Str := ["self", "command"]
theorem sc_Pool_submit : FnScope sc_Pool_submit_N ["self", "command"] (defScope s_Pool_submit) := ⟨rfl, rfl, rfl, by decide +kernel, rfl, by decide +kernel, by decide +kernel⟩
abbrev sc_law_spoilt_N : List Str := ["cell", "more", "command", "way", "at"]
theorem sc_law_spoilt : FnScope sc_law_spoilt_N ["cell", "more"] (defScope s_law_spoilt) := ⟨rfl, rfl, rfl, by decide +kernel, rfl, by decide +kernel, by decide +kernel⟩
abbrev sc_law_right_N : List Str := ["command", "part", "sign"]
theorem sc_law_right : FnScope sc_law_right_N ["command"] (defScope s_law_right) := ⟨rfl, rfl, rfl, by decide +kernel, rfl, by decide +kernel, by decide +kernel⟩
abbrev sc_law_refused_N : List Str := ["command", "right", "pool", "e"]
theorem sc_law_refused : FnScope sc_law_refused_N ["command", "right"] (defScope s_law_refused) := ⟨rfl, rfl, rfl, by decide +kernel, rfl, by decide +kernel, by decide +kernel⟩
abbrev sc_law_N : List Str := ["script", "k", "cell", "more", "command", "right", "text", "e", "number"]
theorem sc_law : FnScope sc_law_N ["script"] (defScope s_law) := ⟨rfl, rfl, rfl, by decide +kernel, rfl, by decide +kernel, by decide +kernel⟩
/-! ### what stands where -/
structure DefAt (K : PySem.W.Frag) (mg : Str → Option Value) (x : Str) (st : Stmt) (ps : List Str) (f : Addr) : Prop where
  F : ∃ fd, Fun K x x st f fd ∧ Binds K fd ps []
  g : mg x = some (.ref f)
  kp : PySem.W.keepIn K (.ref f) = true
structure MethAt (K : PySem.W.Frag) (C : Addr) (x qual : Str) (st : Stmt) (ps : List Str) (f : Addr) : Prop where
  F : ∃ fd, Fun K x qual st f fd ∧ Binds K fd ps []
  fi : PySem.W.findIn K (.ref C) x = some (some (.ref f))
  isf : PySem.W.isFn K (.ref f) = true
  kp : PySem.W.keepIn K (.ref f) = true
theorem def_mk {K : PySem.W.Frag} {x qual : Str} {st : Stmt} {f : Addr} {ps : List Str} {oc : Value} {od an : Option Addr} {osl : Array (Option Value)} {kV doc pm cdv ct : Value}
    (l : K.lookup f = some ⟨oc, od, .func (PySem.W.fnOf x qual (defArgs st) (defBody st) (defScope st) .none kV doc pm an cdv ct), osl⟩)
    (c : PySem.W.codeIn K cdv qual = true) (k : PySem.W.keepIn K (.ref f) = true)
    (h : ∀ (kV doc pm : Value) (an : Option Addr) (cdv ct : Value) (us : List Value), us.length = ps.length → bindArgs (PySem.W.fnOf x qual (defArgs st) (defBody st) (defScope st) .none kV doc pm an cdv ct) ⟨us, []⟩ = pure (ps.zip us)) :
    ∃ fd, Fun K x qual st f fd ∧ Binds K fd ps [] := by
  have F := fun_mk (st := st) l c k
  exact ⟨_, F, F.binds h⟩
theorem mg_no {K : PySem.W.Frag} {h : Heap} {mg : Str → Option Value} {n : Str} (X : K.In h) (G : h.Ns mainGlobals mg) (e : PySem.W.nsIn K mainGlobals n = some none) : mg n = none := PySem.W.mg_none_of X G e
theorem same_new {H : Hp} {p : Addr} {o : HO} (n : H p = Option.none) : Same H (upd H p o) := fun b u e => by
  rw [upd_ne (ne_of_none e n)]
  exact e
theorem same_upd {H H2 : Hp} {p : Addr} {o : HO} (s : Same H H2) (n : H p = Option.none) : Same H (upd H2 p o) := fun b u e => by
  rw [upd_ne (ne_of_none e n)]
  exact s b u e
structure Ads where
  C_Reader : Addr
  C_Pool : Addr
  d_command_text : Addr
  d_Reader_init : Addr
  d_Reader_read_signs : Addr
  d_Reader_skip : Addr
  d_Reader_read_number : Addr
  d_Reader_read_code : Addr
  d_Reader_read_command : Addr
  d_commands_of : Addr
  d_checked_text : Addr
  d_law_cell : Addr
  d_law_row : Addr
  d_law_number : Addr
  d_law_code : Addr
  d_law_place : Addr
  d_law_command : Addr
  d_law_text : Addr
  d_Pool_init : Addr
  d_Pool_submit : Addr
  d_law_spoilt : Addr
  d_law_right : Addr
  d_law_refused : Addr
  P_MARKS : Addr
  M_MARKS_p : Addr
  M_MARKS_w : Addr
  M_MARKS_d : Addr
  M_MARKS_k : Addr
  C_BadCommand : Addr
  C_BadLine : Addr
  C_TribunalError : Addr
structure Txt (K : PySem.W.Frag) (mg : Str → Option Value) (a : Ads) : Prop where
  n_len : mg "len" = none
  n_range : mg "range" = none
  n_isinstance : mg "isinstance" = none
  n_int : mg "int" = none
  n_bool : mg "bool" = none
  n_list : mg "list" = none
  n_tuple : mg "tuple" = none
  n_str : mg "str" = none
  n_zip : mg "zip" = none
  n_enumerate : mg "enumerate" = none
  n_max : mg "max" = none
  n_abs : mg "abs" = none
  c_SIGNS : ∃ t, mg "SIGNS" = some (.str "0123456789ginasmtcehlujfyo" t)
  c_DIGITS : ∃ t, mg "DIGITS" = some (.str "0123456789" t)
  c_MOST_SIGNS : ∃ t, mg "MOST_SIGNS" = some (.int 60 t)
  c_MOST_DIGITS : ∃ t, mg "MOST_DIGITS" = some (.int 6 t)
  c_CODE_END : ∃ t, mg "CODE_END" = some (.str "z" t)
  g_Reader : mg "Reader" = some (.ref a.C_Reader)
  cl_Reader : Cls K a.C_Reader
  kc_Reader : PySem.W.keepIn K (.ref a.C_Reader) = true
  mk_Reader : PySem.W.makesIn K a.C_Reader = true
  a_Reader_text : NoAttr K a.C_Reader "text"
  a_Reader_at : NoAttr K a.C_Reader "at"
  g_Pool : mg "Pool" = some (.ref a.C_Pool)
  cl_Pool : Cls K a.C_Pool
  kc_Pool : PySem.W.keepIn K (.ref a.C_Pool) = true
  mk_Pool : PySem.W.makesIn K a.C_Pool = true
  a_Pool_waiting : NoAttr K a.C_Pool "waiting"
  d_command_text : DefAt K mg "command_text" s_command_text ["command"] a.d_command_text
  d_Reader_init : MethAt K a.C_Reader "__init__" "Reader.__init__" s_Reader_init ["self", "text"] a.d_Reader_init
  d_Reader_read_signs : MethAt K a.C_Reader "read_signs" "Reader.read_signs" s_Reader_read_signs ["self", "allowed"] a.d_Reader_read_signs
  d_Reader_skip : MethAt K a.C_Reader "skip" "Reader.skip" s_Reader_skip ["self", "mark"] a.d_Reader_skip
  d_Reader_read_number : MethAt K a.C_Reader "read_number" "Reader.read_number" s_Reader_read_number ["self"] a.d_Reader_read_number
  d_Reader_read_code : MethAt K a.C_Reader "read_code" "Reader.read_code" s_Reader_read_code ["self"] a.d_Reader_read_code
  d_Reader_read_command : MethAt K a.C_Reader "read_command" "Reader.read_command" s_Reader_read_command ["self"] a.d_Reader_read_command
  d_commands_of : DefAt K mg "commands_of" s_commands_of ["block"] a.d_commands_of
  d_checked_text : DefAt K mg "checked_text" s_checked_text ["command"] a.d_checked_text
  d_law_cell : DefAt K mg "_law_cell" s_law_cell ["script", "k"] a.d_law_cell
  d_law_row : DefAt K mg "_law_row" s_law_row ["cell", "count", "size"] a.d_law_row
  d_law_number : DefAt K mg "_law_number" s_law_number ["cell"] a.d_law_number
  d_law_code : DefAt K mg "_law_code" s_law_code ["cell"] a.d_law_code
  d_law_place : DefAt K mg "_law_place" s_law_place ["cell"] a.d_law_place
  d_law_command : DefAt K mg "_law_command" s_law_command ["cell", "more"] a.d_law_command
  d_law_text : DefAt K mg "_law_text" s_law_text ["command"] a.d_law_text
  d_Pool_init : MethAt K a.C_Pool "__init__" "Pool.__init__" s_Pool_init ["self"] a.d_Pool_init
  d_Pool_submit : MethAt K a.C_Pool "submit" "Pool.submit" s_Pool_submit ["self", "command"] a.d_Pool_submit
  d_law_spoilt : DefAt K mg "_law_spoilt" s_law_spoilt ["cell", "more"] a.d_law_spoilt
  d_law_right : DefAt K mg "_law_right" s_law_right ["command"] a.d_law_right
  d_law_refused : DefAt K mg "_law_refused" s_law_refused ["command", "right"] a.d_law_refused
theorem Txt.m_Reader {K : PySem.W.Frag} {mg : Str → Option Value} {a : Ads} (T : Txt K mg a) : Mk K a.C_Reader a.d_Reader_init := ⟨T.mk_Reader, T.d_Reader_init.fi, T.d_Reader_init.isf, T.kc_Reader⟩
theorem Txt.me_Reader_read_signs {K : PySem.W.Frag} {mg : Str → Option Value} {a : Ads} (T : Txt K mg a) : Meth K a.C_Reader "read_signs" a.d_Reader_read_signs := ⟨T.d_Reader_read_signs.fi, T.d_Reader_read_signs.isf, T.d_Reader_read_signs.kp⟩
theorem Txt.me_Reader_skip {K : PySem.W.Frag} {mg : Str → Option Value} {a : Ads} (T : Txt K mg a) : Meth K a.C_Reader "skip" a.d_Reader_skip := ⟨T.d_Reader_skip.fi, T.d_Reader_skip.isf, T.d_Reader_skip.kp⟩
theorem Txt.me_Reader_read_number {K : PySem.W.Frag} {mg : Str → Option Value} {a : Ads} (T : Txt K mg a) : Meth K a.C_Reader "read_number" a.d_Reader_read_number := ⟨T.d_Reader_read_number.fi, T.d_Reader_read_number.isf, T.d_Reader_read_number.kp⟩
theorem Txt.me_Reader_read_code {K : PySem.W.Frag} {mg : Str → Option Value} {a : Ads} (T : Txt K mg a) : Meth K a.C_Reader "read_code" a.d_Reader_read_code := ⟨T.d_Reader_read_code.fi, T.d_Reader_read_code.isf, T.d_Reader_read_code.kp⟩
theorem Txt.me_Reader_read_command {K : PySem.W.Frag} {mg : Str → Option Value} {a : Ads} (T : Txt K mg a) : Meth K a.C_Reader "read_command" a.d_Reader_read_command := ⟨T.d_Reader_read_command.fi, T.d_Reader_read_command.isf, T.d_Reader_read_command.kp⟩
theorem Txt.m_Pool {K : PySem.W.Frag} {mg : Str → Option Value} {a : Ads} (T : Txt K mg a) : Mk K a.C_Pool a.d_Pool_init := ⟨T.mk_Pool, T.d_Pool_init.fi, T.d_Pool_init.isf, T.kc_Pool⟩
theorem Txt.me_Pool_submit {K : PySem.W.Frag} {mg : Str → Option Value} {a : Ads} (T : Txt K mg a) : Meth K a.C_Pool "submit" a.d_Pool_submit := ⟨T.d_Pool_submit.fi, T.d_Pool_submit.isf, T.d_Pool_submit.kp⟩
section
open PyProof.Rows
/-! ### own rules: set(list of ints), k in that set; enumerate(a tuple) -/
theorem any_firstMet (zs : List Int) (k : Int) : (PyProof.Rows.firstMet (fun i => zs.getD i 0) zs.length).any (· == k) = decide (k ∈ zs) := by
  rw [PyProof.Rows.firstMet_any, Bool.eq_iff_iff, List.any_eq_true, decide_eq_true_iff]
  constructor
  · rintro ⟨y, hy, e⟩
    obtain ⟨i, hi, rfl⟩ := List.mem_map.mp hy
    have hi' : i < zs.length := List.mem_range.mp hi
    have e' : zs.getD i 0 = k := by simpa using e
    rw [← e', List.getD_eq_getElem?_getD, List.getElem?_eq_getElem hi']
    exact List.getElem_mem hi'
  · intro hk
    obtain ⟨i, hi, e⟩ := List.getElem_of_mem hk
    refine ⟨k, List.mem_map.mpr ⟨i, List.mem_range.mpr hi, ?_⟩, by simp⟩
    show zs.getD i 0 = k
    rw [List.getD_eq_getElem?_getD, List.getElem?_eq_getElem hi]
    exact e
/-- set(xs), xs a list of ints -/
def rSetOfL (K : PySem.W.Frag) : List V → Hp → VK → Prop := fun vs H Q => ∃ (l : Addr) (zs : List Int), vs = [V.ref l] ∧ SqL K H l (zs.map V.int) ∧ zs.length ≤ 1000 ∧
  ∀ (p : Addr) (n : Nat), H p = Option.none → Q (.ref p) (upd H p (.set (fun k => decide (k ∈ zs)) n))
theorem cr_set {X : Cx} (calm : X.calm = true) : CallR X (.type "set") (rSetOfL X.K) := by
  intro pins sh σ H vs us Q I rel hyp
  obtain ⟨l, zs, rfl, hl, few, q⟩ := hyp
  rw [Vals.ref1 rel]
  obtain ⟨its, rv, pl, _⟩ := I.list hl
  have isI := ints_of_vals rv
  have same : its.toArray.size = zs.length := by
    have e := rv.length
    rw [List.length_map] at e
    rw [List.size_toArray]
    exact e.symm
  refine PySem.call_set_list (items := its.toArray) (ns := zs) (I.ok.hd calm) pl.isList (by simpa using isI) (by rw [same]; unfold scanBound; omega) fun h' tk S kp => ?_
  have fresh : H sh.heap.objs.size = Option.none := I.hok.fresh (Nat.le_refl _)
  have e : (fun k => (PyProof.Rows.firstMet (fun i => zs.getD i 0) its.toArray.size).any (· == k)) = fun k => decide (k ∈ zs) := by
    funext k
    rw [same]
    exact any_firstMet zs k
  rw [e] at S
  exact ⟨.ref sh.heap.objs.size, upd H sh.heap.objs.size (.set (fun k => decide (k ∈ zs)) _), I.laid (t' := tk) (fun b o ho => kp b o (Heap.lt_size ho) ho) (Nat.le_refl _) S, rfl, q _ _ fresh⟩
/-- k in such a set -/
def rInSt (neg : Bool) : R2 := fun x y H Q => ∃ (k : Int) (b : Addr) (S : Int → Bool) (n : Nat), x = V.int k ∧ y = V.ref b ∧ H b = some (.set S n) ∧ Q (.bl (if neg then !S k else S k)) H
theorem op_in_set {X : Cx} : OpR X (compareOp .In) (rInSt false) := by
  intro pins sh σ H x y v u Q I r1 r2 hyp
  obtain ⟨k, b, S, n, rfl, rfl, hb, q⟩ := hyp
  obtain ⟨tk, rfl⟩ := r1
  cases r2
  have hS : sh.heap.SetOf (intKind X.prog X.w) b S n := I.hok b _ hb
  exact PySem.wpAny_inSet_of (PySem.intKind_is _ _ _ _) rfl hS ⟨.bl (S k), H, I.tok _, rfl, q⟩
/-- the pairs of enumerate over the tuple at a -/
def Itu (K : PySem.W.Frag) (a : Addr) : It where
  go i H := ∃ (ys : List V) (y : V), SqT K H a ys ∧ ys[i]? = some y
  yld i H v H' := ∃ (p : Addr) (y : V), v = .ref p ∧ H p = Option.none ∧ H' = upd H p (.tup [.int (i : Nat), y]) ∧ ∀ ys, SqT K H a ys → ys[i]? = some y
  stop i H := ∃ ys : List V, SqT K H a ys ∧ ys.length = i
theorem turn_enumT {P : Program} {w : World} {K : PySem.W.Frag} {elts : List Expr} {kk : Nat} {tpos : Pos} (a en it : Addr) (na : a ≠ it) (ne : en ≠ it) (nea : en ≠ a) :
    Turn P w K (.Tuple elts kk tpos) (Itu K a) [en, it] en (fun i h => (∃ old, IsEnum h en it ((i : Nat) : Int) old) ∧ h.IsTupleIter it a i) where
  mem := List.mem_cons_self
  obj := by
    rintro i h ⟨⟨old, he⟩, ⟨o, ho, hc, hd⟩⟩ b hb
    rcases List.mem_cons.mp hb with rfl | hb
    · exact ⟨_, he, fun v z => nomatch z⟩
    · rw [List.mem_singleton.mp hb]
      exact ⟨o, ho, fun v z => by rw [hd] at z; cases z⟩
  keep := by
    rintro i h h' ⟨⟨old, he⟩, hi⟩ kp
    exact ⟨⟨old, kp en List.mem_cons_self _ he⟩, hi.at fun o z => kp it (List.mem_cons_of_mem _ List.mem_cons_self) o z⟩
  item := by
    intro X hP hw hK calm i pins sh σ H E I fp st hg
    subst hP hw hK
    obtain ⟨⟨old, he⟩, hit⟩ := st
    obtain ⟨ys, y, hy, hix⟩ := hg
    obtain ⟨its, rv, tp, _⟩ := I.tuple hy
    obtain ⟨u, hu, ru⟩ := rv.get hix
    have hT : sh.heap.IsTuple a its.toArray := tp
    have hlen : i < its.toArray.size := by
      rw [List.size_toArray]
      exact (List.getElem?_eq_some_iff.mp hu).1
    have len : en < sh.heap.objs.size := Heap.lt_size he
    have lit : it < sh.heap.objs.size := by
      obtain ⟨_, z, _⟩ := hit
      exact Heap.lt_size z
    refine wpAny_pyNext_enum_itemD (Draws.tuple (by simp [I.ok.hd calm]) it a na its.toArray) he ⟨hit, hT⟩ hlen ne (by simp [ne, nea]) fun x h' tk hx ho hst hnew hsz kp => ?_
    have ex : x = u := by
      rw [List.getElem?_toArray, hu] at hx
      exact (Option.some.inj hx).symm
    subst ex
    refine ⟨_, rfl, wpAny_letOwnedTupleGo_enum (s := { sh with heap := h', toks := tk + 1 }) ho fun h2 he2 sb => ?_⟩
    have new2 : h2.get? sh.heap.objs.size = some { cls := .type "tuple", data := .seq #[.int i tk, x] } := (sb.2 _ (Nat.ne_of_gt len)).trans hnew
    have okN : ObjOk X.prog X.w (upd H sh.heap.objs.size (.tup [.int (i : Nat), y])) h2 sh.heap.objs.size (.tup [.int (i : Nat), y]) := by
      refine ⟨(by show 2 ≤ sizeLine; decide), [.int i tk, x], .cons ⟨_, rfl⟩ (.cons ru .nil), ?_⟩
      exact ⟨_, new2, rfl, _, rfl⟩
    have I2 : Inv X pins σ (upd H sh.heap.objs.size (.tup [.int (i : Nat), y])) { sh with heap := h2, toks := tk + 1 } := by
      refine I.turnedNew (ch := [en, it]) (fun b ob hb z => ?_) fp (Nat.le_refl _) okN
      have b1 : b ≠ en := fun q => hb (by rw [q]; exact List.mem_cons_self)
      have b2 : b ≠ it := fun q => hb (by rw [q]; exact List.mem_cons_of_mem _ List.mem_cons_self)
      exact (sb.2 b b1).trans (kp b ob b1 b2 z)
    refine ⟨.ref sh.heap.objs.size, _, I2, rfl, ⟨_, y, rfl, I.hok.fresh (Nat.le_refl _), rfl, fun zs hz => ?_⟩, ⟨⟨x, ?_⟩, hst.1.at fun o z => (sb.2 it (Ne.symm ne)).trans z⟩, fun b hb => ?_⟩
    · rw [I.tuple_inj hz hy]
      exact hix
    · have e1 : ((i + 1 : Nat) : Int) = (i : Int) + 1 := by omega
      rw [e1]
      exact he2
    · have lb : b < sh.heap.objs.size := by
        rcases List.mem_cons.mp hb with rfl | hb
        · exact len
        · rw [List.mem_singleton.mp hb]
          exact lit
      rw [upd_ne (Nat.ne_of_lt lb)]
      exact (fp b hb).1
  done := by
    intro X hP hw hK calm i pins sh σ H E I fp st hg
    subst hP hw hK
    obtain ⟨⟨old, he⟩, hit⟩ := st
    obtain ⟨ys, hy, rfl⟩ := hg
    obtain ⟨its, rv, tp, _⟩ := I.tuple hy
    have hT : sh.heap.IsTuple a its.toArray := tp
    have e : ys.length = its.toArray.size := by
      rw [List.size_toArray]
      exact rv.length
    rw [e] at hit
    obtain ⟨g0, g1, g2, g3, g4, g5⟩ := fp it (List.mem_cons_of_mem _ List.mem_cons_self)
    exact wpAny_pyNext_enum_endD (Draws.tuple (by simp [I.ok.hd calm]) it a na its.toArray) he ⟨hit, hT⟩ fun h' eb => ⟨rfl, I.turned (t' := sh.toks) (fun b o hb z => eb b o hb z) g0 g1 g3 g4 g5⟩
  self := by
    rintro A i s Q E ⟨⟨_, he⟩, _⟩ h
    exact wpAny_pyIter_enum he h
theorem meets_enum1 {v : Value} {o : Obj} {Z : Heap → Prop} (B : Begins v o Z) :
    Meets (Builtin.«enumerate.__new__» ⟨[.type "enumerate", v], []⟩) (fun _ R s => Z s.heap ∧
      R (.ok (.ret (.ref (s.heap.push o).objs.size))) { s with heap := (s.heap.push o).push { cls := .type "enumerate", data := .fields #[.none, .bool false, .ref s.heap.objs.size, rawInt 0, .none, .none] } }) :=
  .of_wp fun prog w A R s hyp => by
    obtain ⟨hp, g, d, tk, os⟩ := s
    obtain ⟨hz, hyp⟩ := hyp
    have sube := sub_enumerate
    have step : ∀ {A' : Around} {E' : Value → Shared → Prop} {Q' : Value → Shared → Prop}, Q' (.ref hp.objs.size) ⟨hp.push o, g, d, tk, os⟩ → wpAny (model prog w) A' (pyIter v) Q' E' ⟨hp, g, d, tk, os⟩ :=
      fun z => B.iter prog w _ _ ⟨hp, g, d, tk, os⟩ _ hz z
    wp_walk using step
    refine wpAny_stack_any fun st => wpAny_pure ?_
    split
    · rename_i c _ _ _ _ _
      cases (c == Value.type "enumerate") <;> (wp_walk using step; exact ⟨_, rfl, hyp⟩)
    · wp_walk using step
      exact ⟨_, rfl, hyp⟩
theorem call_enum1 {prog : Program} {w : World} {A : Around} {E : Value → Shared → Prop} {s : Shared} {v : Value} {o : Obj} {Z : Heap → Prop} {Q : Value → Shared → Prop} (B : Begins v o Z) (hz : Z s.heap)
    (fin : ∀ h', IsEnum h' (s.heap.objs.size + 1) s.heap.objs.size 0 .none → h'.get? s.heap.objs.size = some o → (∀ b u, s.heap.get? b = some u → h'.get? b = some u) → Q (.ref (s.heap.objs.size + 1)) { s with heap := h' }) :
    wpAny (model prog w) A (call (.type "enumerate") [v]) Q E s := by
  have size1 : (s.heap.push o).objs.size = s.heap.objs.size + 1 := Heap.size_push ..
  refine callType_new F.called_enumerate (by decide) (F.typeCall_enumerate_1 _) (F.newCall_enumerate_1 _) (fun obj => F.args_object_init_2 obj _) F.entry_enumerate_new (meets_enum1 B) ⟨hz, ?_⟩
  rw [size1]
  have isE : IsEnum ((s.heap.push o).push { cls := .type "enumerate", data := .fields #[.none, .bool false, .ref s.heap.objs.size, rawInt 0, .none, .none] }) (s.heap.objs.size + 1) s.heap.objs.size 0 .none := by
    have z := Heap.get?_push_size (s.heap.push o) (o := { cls := .type "enumerate", data := .fields #[.none, .bool false, .ref s.heap.objs.size, rawInt 0, .none, .none] }) rfl
    rwa [size1] at z
  exact ⟨⟨_, isE, rfl⟩, fin _ isE (Heap.get?_push_of_some _ (Heap.get?_push_size _ B.free)) fun b u z => Heap.get?_push_of_some _ (Heap.get?_push_of_some _ z)⟩
def iEnumT (K : PySem.W.Frag) (ta : TA) : TI := fun σ H R => ta σ H fun vs H1 => ∃ (a : Addr) (ys : List V), vs = [.ref a] ∧ SqT K H1 a ys ∧ R (Itu K a) H1
theorem pi_enumT {X : Cx} {e : Expr} {ta : TA} {p pos tpos : Pos} {elts : List Expr} {kk : Nat} (gl : Gl X "enumerate") (no : X.mg "enumerate" = none) (pa : PA X [e] ta) (plain : starEach [e] X.env = [(false, eval e X.env)] := by rfl) :
    PI X (.Tuple elts kk tpos) (.Call (.Name "enumerate" p) [e] [] pos) (iEnumT X.K ta) := by
  constructor
  intro pins s σ H R I hyp
  refine PyProof.Rows.Call_ (ld_blt I gl no boot_enumerate (PyProof.Rows.callWith_type1 (thn (pa.run pos pins s σ H _ I hyp) fun us s1 got => ?_) plain rfl))
  obtain ⟨vs, H1, I1, rel, a, ys, rfl, hy, q⟩ := got
  rw [Vals.ref1 rel]
  obtain ⟨its, rv, tp, _⟩ := I1.tuple hy
  have hT : s1.heap.IsTuple a its.toArray := tp
  have la : a < s1.heap.objs.size := by
    obtain ⟨_, z, _⟩ := hT
    exact Heap.lt_size z
  refine call_enum1 (begins_tuple a its.toArray) hT fun h' isE hit kp => wpAny_pyIter_enum isE ?_
  have I2 : Inv X pins σ H1 { s1 with heap := h' } := I1.kept (t' := s1.toks) kp
  refine ⟨s1.heap.objs.size + 1, [s1.heap.objs.size + 1, s1.heap.objs.size], _, _, H1, rfl, I2, turn_enumT a (s1.heap.objs.size + 1) s1.heap.objs.size (Nat.ne_of_lt la) (Nat.succ_ne_self _) (Nat.ne_of_gt (Nat.lt_succ_of_lt la)), ⟨⟨.none, isE⟩, _, hit, rfl, rfl⟩, fun b hb => ?_, q⟩
  have le : s1.heap.objs.size ≤ b := by
    rcases List.mem_cons.mp hb with rfl | hb
    · exact Nat.le_succ _
    · rw [List.mem_singleton.mp hb]
      exact Nat.le_refl _
  exact I1.fpOk le (I1.hok.fresh le)
/-- the forms that one uses: a word by the turn -/
theorem for_enumT {K : PySem.W.Frag} {a : Addr} {ys : List V} {g : TG} {tb : TS} {D : Ends} {σ : L2.St} {H : Hp} (Pv : Nat → L2.St → Hp → Prop) (h0 : Pv 0 σ H) (src : ∀ i σ H, i ≤ ys.length → Pv i σ H → SqT K H a ys)
    (turn : ∀ i y σ H p, ys[i]? = some y → Pv i σ H → H p = Option.none → g (.ref p) σ (upd H p (.tup [.int (i : Nat), y])) fun σ2 H2 => tb { D with nx := Pv (i + 1), ct := Pv (i + 1), bk := D.nx } σ2 H2) (fin : ∀ σ H, Pv ys.length σ H → D.nx σ H) :
    ∃ W : Nat → Nat → L2.St → Hp → Prop, (∃ m, W 0 m σ H) ∧ ∀ i m σ H, W i m σ H →
      ((Itu K a).stop i H ∧ D.nx σ H) ∨ ((Itu K a).go i H ∧ ∃ N : L2.St → Hp → Prop, (∀ σ' H', N σ' H' → ∃ m', m' < m ∧ W (i + 1) m' σ' H') ∧ ∀ x H', (Itu K a).yld i H x H' → g x σ H' fun σ2 H2 => tb { D with nx := N, ct := N, bk := D.nx } σ2 H2) := by
  refine ⟨fun i m σ H => m + i = ys.length ∧ Pv i σ H, ⟨ys.length, Nat.add_zero _, h0⟩, ?_⟩
  rintro i m σ H ⟨em, pv⟩
  have s := src i σ H (by omega) pv
  rcases Nat.lt_or_ge i ys.length with lt | ge
  · refine .inr ⟨⟨ys, ys[i], s, List.getElem?_eq_getElem lt⟩, Pv (i + 1), fun σ' H' z => ⟨m - 1, by omega, by omega, z⟩, ?_⟩
    rintro x H' ⟨p, y, rfl, hp, rfl, hy⟩
    exact turn i y σ H p (hy ys s) pv hp
  · have e : i = ys.length := by omega
    subst e
    exact .inl ⟨⟨ys, s, rfl⟩, fin σ H pv⟩
theorem lc_enumT {K : PySem.W.Frag} {a : Addr} {ys : List V} {g : TG} {tt : TT} {te : TE} {vs : List Nat} {σ : L2.St} {H1 : Hp} {D : Addr} {Qd : Hp → Prop} (Pv : Nat → Hp → Prop) (h0 : Pv 0 (upd H1 D (.lst []))) (src : ∀ i H, i ≤ ys.length → Pv i H → SqT K H a ys)
    (turn : ∀ i y H p, ys[i]? = some y → Pv i H → H p = Option.none → g (.ref p) (wipe σ vs) (upd H p (.tup [.int (i : Nat), y])) fun σ2 H2 => wipe σ2 vs = wipe σ vs ∧ tt σ2 H2 fun b H3 =>
      if b = true then te σ2 H3 fun y H4 => ∃ acc, H4 D = some (.lst acc) ∧ acc.length < sizeLine ∧ Pv (i + 1) (upd H4 D (.lst (acc ++ [y]))) else Pv (i + 1) H3) (fin : ∀ H, Pv ys.length H → Qd H) :
    ∃ W : Nat → Nat → Hp → Prop, (∃ m, W 0 m (upd H1 D (.lst []))) ∧ ∀ i m H, W i m H →
      ((Itu K a).stop i H ∧ Qd H) ∨ ((Itu K a).go i H ∧ ∃ Nx : Hp → Prop, (∀ H', Nx H' → ∃ m', m' < m ∧ W (i + 1) m' H') ∧ ∀ x H', (Itu K a).yld i H x H' → g x (wipe σ vs) H' fun σ2 H2 => wipe σ2 vs = wipe σ vs ∧ tt σ2 H2 fun b H3 =>
        if b = true then te σ2 H3 fun y H4 => ∃ acc, H4 D = some (.lst acc) ∧ acc.length < sizeLine ∧ Nx (upd H4 D (.lst (acc ++ [y]))) else Nx H3) := by
  refine ⟨fun i m H => m + i = ys.length ∧ Pv i H, ⟨ys.length, Nat.add_zero _, h0⟩, ?_⟩
  rintro i m H ⟨em, pv⟩
  have s := src i H (by omega) pv
  rcases Nat.lt_or_ge i ys.length with lt | ge
  · refine .inr ⟨⟨ys, ys[i], s, List.getElem?_eq_getElem lt⟩, Pv (i + 1), fun H' z => ⟨m - 1, by omega, by omega, z⟩, ?_⟩
    rintro x H' ⟨p, y, rfl, hp, rfl, hy⟩
    exact turn i y H p (hy ys s) pv hp
  · have e : i = ys.length := by omega
    subst e
    exact .inl ⟨⟨ys, s, rfl⟩, fin H pv⟩
/-- sum(t), t a tuple of ints -/
def rSumT (K : PySem.W.Frag) : List V → Hp → VK → Prop := fun vs H Q => ∃ (a : Addr) (zs : List Int), vs = [V.ref a] ∧ SqT K H a (zs.map V.int) ∧ Q (.int zs.sum) H
theorem cr_sumT {X : Cx} (calm : X.calm = true) : CallR X (.builtin "sum") (rSumT X.K) := by
  intro pins sh σ H vs us Q I rel hyp
  obtain ⟨a, zs, rfl, hz, q⟩ := hyp
  rw [Vals.ref1 rel]
  obtain ⟨its, rv, tp, _⟩ := I.tuple hz
  have hT : sh.heap.IsTuple a its.toArray := tp
  have isI : IntsAre its zs := Vals.ints rv
  obtain ⟨xs, ex⟩ := isI.allInts.items
  have en : numsOf (intItems xs).toList = zs := by
    rw [← ex]
    exact isI.numsOf
  rw [nums_intItems] at en
  rw [ex] at hT
  refine PySem.W.ktm_sumG (I.ok.hd calm) hT fun h' tk t' kp => ?_
  rw [preSum_eq, List.take_of_length_le (by simp), en]
  exact ⟨.int zs.sum, H, I.kept kp, ⟨_, rfl⟩, q⟩
/-- enumerate over a list, by a word -/
theorem for_enumL {K : PySem.W.Frag} {a : Addr} {ys : List V} {g : TG} {tb : TS} {D : Ends} {σ : L2.St} {H : Hp} (Pv : Nat → L2.St → Hp → Prop) (h0 : Pv 0 σ H) (src : ∀ i σ H, i ≤ ys.length → Pv i σ H → SqL K H a ys)
    (turn : ∀ i y σ H p, ys[i]? = some y → Pv i σ H → H p = Option.none → g (.ref p) σ (upd H p (.tup [.int (i : Nat), y])) fun σ2 H2 => tb { D with nx := Pv (i + 1), ct := Pv (i + 1), bk := D.nx } σ2 H2) (fin : ∀ σ H, Pv ys.length σ H → D.nx σ H) :
    ∃ W : Nat → Nat → L2.St → Hp → Prop, (∃ m, W 0 m σ H) ∧ ∀ i m σ H, W i m σ H →
      ((Ite K a).stop i H ∧ D.nx σ H) ∨ ((Ite K a).go i H ∧ ∃ N : L2.St → Hp → Prop, (∀ σ' H', N σ' H' → ∃ m', m' < m ∧ W (i + 1) m' σ' H') ∧ ∀ x H', (Ite K a).yld i H x H' → g x σ H' fun σ2 H2 => tb { D with nx := N, ct := N, bk := D.nx } σ2 H2) := by
  refine ⟨fun i m σ H => m + i = ys.length ∧ Pv i σ H, ⟨ys.length, Nat.add_zero _, h0⟩, ?_⟩
  rintro i m σ H ⟨em, pv⟩
  have s := src i σ H (by omega) pv
  rcases Nat.lt_or_ge i ys.length with lt | ge
  · refine .inr ⟨⟨ys, ys[i], s, List.getElem?_eq_getElem lt⟩, Pv (i + 1), fun σ' H' z => ⟨m - 1, by omega, by omega, z⟩, ?_⟩
    rintro x H' ⟨p, y, rfl, hp, rfl, hy⟩
    exact turn i y σ H p (hy ys s) pv hp
  · have e : i = ys.length := by omega
    subst e
    exact .inl ⟨⟨ys, s, Nat.le_refl _⟩, fin σ H pv⟩
/-- k in xs, xs a list of ints -/
theorem inV_ints (zs : List Int) (k : Int) : inV (V.int k) (zs.map V.int) = decide (k ∈ zs) := by
  induction zs with
  | nil => rfl
  | cons a r ih =>
    have e : inV (V.int k) ((a :: r).map V.int) = (eqV (V.int a) (V.int k) || inV (V.int k) (r.map V.int)) := rfl
    rw [e, ih]
    by_cases h : a = k
    · subst h
      simp [eqV]
    · have h' : ¬ k = a := fun z => h z.symm
      simp [eqV, h, h']
theorem flat_ints (zs : List Int) : (zs.map V.int).all flatV = true := by
  rw [List.all_eq_true]
  intro x hx
  obtain ⟨z, _, rfl⟩ := List.mem_map.mp hx
  rfl
end

/-! ### x, *xs = t, t a tuple -/
section
open PyProof.Rows
def gStarT (K : PySem.W.Frag) (t : TGs) : TG := fun v σ H Q => ∃ a x xs, v = .ref a ∧ SqT K H a (x :: xs) ∧ xs.length ≤ 1000 ∧ ∀ p, H p = none → t [x, .ref p] σ (_root_.L2.upd H p (.lst xs)) Q
theorem pg_starT {X : Cx} {e1 e2 : Expr} {k : Nat} {p2 pos : Pos} {t : TGs} (hc : X.calm = true) (h : PGs X [e1, e2] t)
    (hs : (assignEach [e1, .Starred e2 p2] X.env).map (·.2) = (assignEach [e1, e2] X.env).map (·.2) := by rfl) (hn : (assignEach [e1, .Starred e2 p2] X.env).length = 2 := by rfl)
    (hst : (assignEach [e1, .Starred e2 p2] X.env).findIdx? (·.1) = some 1 := by rfl) : PG X (.Tuple [e1, .Starred e2 p2] k pos) (gStarT X.K t) := by
  refine ⟨fun pins s σ H v u Q I r hw => ?_⟩
  obtain ⟨a, x, xs, e, hq, hl, hw⟩ := hw
  subst e
  cases r
  obtain ⟨its, rv, ht, hz⟩ := I.tuple hq
  cases its with
  | nil => cases rv
  | cons y ys =>
  have rx : RelV x y := by cases rv; assumption
  have rxs : Vals xs ys := by cases rv; assumption
  have hhd := I.ok.hd hc
  have lys := rxs.length
  rw [assign_Tuple]
  refine wpAny_bind (wpAny_standAt ?_)
  unfold unpack
  rw [hn, hst]
  refine wpAny_bind (wpAny_holding ?_)
  have hlt : a ≠ s.heap.objs.size := by obtain ⟨o, ho, _⟩ := ht; exact Nat.ne_of_lt (Heap.lt_size ho)
  unfold unpackItems
  refine wpAny_bind ?_
  unfold notIterableAtAll
  refine wpAny_bind (wpAny_specialOf ht.typeIs slot_tuple_iter.lookup ?_)
  refine wpAny_pure ?_
  simp only [Bool.false_eq_true, if_false]
  refine wpAny_bind (wpAny_holding (iter_tuple ht ?_))
  have h1z : (y :: ys).toArray.size = ys.length + 1 := by simp
  refine wpAny_bind (wpAny_holding (draw_tuple hlt 1 0 _ _ ⟨_, Heap.get?_push_size _ rfl, rfl, rfl⟩ (ht.push _) (by rw [h1z]; omega) fun h₁ hit₁ hs₁ => ?_))
  have hl₁ : IsTup h₁ a (y :: ys).toArray := (ht.push _).extBut hs₁.extBut hlt
  rw [Nat.zero_add] at hit₁
  obtain ⟨oi, hoi, _⟩ := id hit₁
  obtain ⟨ol, hol, _⟩ := id hl₁
  rw [List.drop_zero]
  have e1 : (y :: ys).toArray.toList.take 1 = [y] := rfl
  rw [e1]
  rw [if_neg (show ¬ ([y].length < 1) by simp)]
  refine wpAny_bind (wpAny_holding (PySem.W.kun_collect (s := { s with heap := h₁ }) (T := "tuple_iterator") (.inr (.inr (.inr rfl))) (Walks.tuple (A := X.A.in1) hhd s.heap.objs.size a hlt (y :: ys).toArray) (fun j u st => st.1.typeIs) (k := 1) (by rw [h1z]; omega) ⟨hit₁, hl₁⟩ (Heap.lt_size hoi) (Heap.lt_size hol) (fun h₂ tk hk => ?_) (by rw [h1z, sizeLine_eq]; omega)))
  have e2 : (y :: ys).toArray.toList.drop 1 = ys := rfl
  rw [e2]
  rw [if_neg (show ¬ (ys.length < 2 - 1 - 1) by omega)]
  have e3 : ys.take (ys.length - (2 - 1 - 1)) = ys := by simp
  have e4 : ys.drop (ys.length - (2 - 1 - 1)) = [] := by simp
  rw [e3, e4]
  have he : ∀ b o, s.heap.get? b = some o → h₂.get? b = some o := fun b o e => by
    have hb : b ≠ s.heap.objs.size := Nat.ne_of_lt (Heap.lt_size e)
    exact hk b o hb (hs₁.extBut b o hb (Heap.get?_push_of_some _ e))
  have I1 : Inv X pins σ H { s with heap := h₂, toks := tk } := I.kept he
  refine wpAny_bind (wpAny_newList (wpAny_pure ?_) (by rw [← lys, sizeLine_eq]; omega))
  have I2 : Inv X pins σ (upd H h₂.objs.size (.lst xs)) { s with heap := h₂.push { cls := .type "list", data := .seq ys.toArray }, toks := tk } :=
    I1.laid (t' := tk) (fun b o g => Heap.get?_push_of_some _ g) (Nat.le_refl _) ⟨by rw [sizeLine_eq]; omega, ys, 0, rxs, Heap.get?_push_size _ rfl⟩
  rw [hs]
  exact h.run pins _ σ _ [x, .ref h₂.objs.size] _ Q I2 (.cons rx (.cons rfl .nil)) (hw _ (I1.hok.fresh (Nat.le_refl _)))
end

/-! ### zip of a tuple and a list -/
section
open PyProof.Rows RZ
/-- an iterator that stands before an item, and behind it -/
structure Step (prog : Program) (w : World) (A : Around) (it l : Addr) (x : Value) (P P' : Heap → Prop) : Prop where
  next : ∀ (E : Value → Shared → Prop) (s : Shared) (Q : Value → Shared → Prop), P s.heap → (∀ h', P' h' → Heap.SameBut it s.heap h' → Q x { s with heap := h' }) → wpAny (model prog w) A (Builtin.SmallTypes.nextOf (.ref it)) Q E s
  off : ∀ c h h', c ≠ it → c ≠ l → P h → Heap.SameBut c h h' → P h'
  off' : ∀ c h h', c ≠ it → c ≠ l → P' h → Heap.SameBut c h h' → P' h'
  up' : ∀ h h', P' h → (∀ o, h.get? it = some o → h'.get? it = some o) → P' h'
/-- an iterator that has no more items -/
structure Stop (prog : Program) (w : World) (A : Around) (it l : Addr) (P : Heap → Prop) : Prop where
  next : ∀ (E : Value → Shared → Prop) (s : Shared) (Q : Value → Shared → Prop), P s.heap → (∀ h' e, Heap.ExtBut it s.heap h' → (∃ o, h'.get? e = some o ∧ o.cls = .type "StopIteration") → E (.ref e) { s with heap := h' }) → wpAny (model prog w) A (Builtin.SmallTypes.nextOf (.ref it)) Q E s
  off : ∀ c h h', c ≠ it → c ≠ l → P h → Heap.SameBut c h h' → P h'
theorem step_tup {prog : Program} {w : World} {A : Around} {it l : Addr} {i : Nat} {items : Array Value} {x : Value} (hx : items[i]? = some x) (d : l ≠ it) :
    Step prog w A it l x (fun h => h.IsTupleIter it l i ∧ h.IsTuple l items) (fun h => h.IsTupleIter it l (i + 1)) where
  next := fun E s Q p h => nextOf_tuple_item p.1 p.2 hx h
  off := fun c h h' c1 c2 p s => ⟨p.1.extBut s.extBut c1.symm, p.2.extBut s.extBut c2.symm⟩
  off' := fun c h h' c1 c2 p s => p.extBut s.extBut c1.symm
  up' := fun h h' p k => p.at k
theorem step_lst {prog : Program} {w : World} {A : Around} {it l : Addr} {i : Nat} {items : Array Value} {x : Value} (hx : items[i]? = some x) (d : l ≠ it) :
    Step prog w A it l x (fun h => h.IsListIter it l i ∧ h.IsList l items) (fun h => h.IsListIter it l (i + 1)) where
  next := fun E s Q p h => wpAny_nextOf_list_item p.1 p.2 hx h
  off := fun c h h' c1 c2 p s => ⟨p.1.extBut s.extBut c1.symm, p.2.extBut s.extBut c2.symm⟩
  off' := fun c h h' c1 c2 p s => p.extBut s.extBut c1.symm
  up' := fun h h' p k => p.at k
theorem stop_tup {prog : Program} {w : World} {A : Around} {it l : Addr} {i : Nat} {items : Array Value} (hh : A.handled = none) (hx : items[i]? = none) :
    Stop prog w A it l (fun h => h.IsTupleIter it l i ∧ h.IsTuple l items) where
  next := fun E s Q p h => nextOf_tuple_end hh p.1 p.2 hx h
  off := fun c h h' c1 c2 p s => ⟨p.1.extBut s.extBut c1.symm, p.2.extBut s.extBut c2.symm⟩
theorem stop_lst {prog : Program} {w : World} {A : Around} {it l : Addr} {i : Nat} {items : Array Value} (hh : A.handled = none) (hx : items[i]? = none) :
    Stop prog w A it l (fun h => h.IsListIter it l i ∧ h.IsList l items) where
  next := fun E s Q p h => wpAny_nextOf_list_end hh p.1 p.2 hx h
  off := fun c h h' c1 c2 p s => ⟨p.1.extBut s.extBut c1.symm, p.2.extBut s.extBut c2.symm⟩
variable {prog : Program} {w : World} {A : Around} {E : Value → Shared → Prop} {s : Shared}
theorem mix_item {z TI TO i1 i2 l1 l2 : Addr} {x y a b : Value} {P1 P1' P2 P2' : Heap → Prop} {Q : Value → Shared → Prop} (D : ZipApart z TI TO i1 i2 l1 l2)
    (n1 : Step prog w A i1 l1 x P1 P1') (n2 : Step prog w A i2 l2 y P2 P2') (hz : IsZip s.heap z TI TO .none) (hTI : IsPair s.heap TI (.ref i1) (.ref i2)) (hTO : IsPair s.heap TO a b) (p1 : P1 s.heap) (p2 : P2 s.heap)
    (hQ : ∀ h', IsZip h' z TI TO (rawInt s.heap.objs.size) → IsPair h' TO x y → P1' h' → P2' h' → IsPair h' s.heap.objs.size x y →
      (∀ c o, c ≠ z → c ≠ TO → c ≠ i1 → c ≠ i2 → s.heap.get? c = some o → h'.get? c = some o) → Q (.ref s.heap.objs.size) { s with heap := h' }) :
    wpAny (model prog w) A (Builtin.«zip.__next__» ⟨[.ref z], []⟩) (fun fin s' => ∃ v, fin = .done (.ret v) ∧ Q v s') E s := by
  show wpAny _ _ (field (.ref z) 2 >>= _) _ _ _
  refine wpAny_bind (wpAny_field hz rfl (x := .bool false) rfl ?_)
  show wpAny _ _ (field (.ref z) 3 >>= _) _ _ _
  refine wpAny_bind (wpAny_field hz rfl (x := .ref TI) rfl (wpAny_bind (wpAny_seqItems hTI rfl ?_)))
  show wpAny _ _ (Builtin.SmallTypes.ownedTupleIsFree (.ref z) >>= _) _ _ _
  refine wpAny_bind ?_
  unfold Builtin.SmallTypes.ownedTupleIsFree
  refine wpAny_bind (wpAny_field hz rfl (x := .none) rfl (wpAny_pure ?_))
  simp only [if_true]
  refine wpAny_bind (wpAny_rule (wpAny_bind (wpAny_field hz rfl (x := .ref TO) rfl (wpAny_bind (wpAny_setField_rec hz (by simp) fun g1 hz1 k1 => ?_)))))
  have hz1 : IsZip g1 z TI TO .ellipsis := hz1
  refine wpAny_bind ?_
  simp only [List.zipIdx_cons, List.zipIdx_nil, List.forIn_cons, List.forIn_nil]
  refine wpAny_bind (wpAny_bind (wpAny_onRaise ?_))
  show wpAny _ _ (Builtin.SmallTypes.nextOf (.ref i1) >>= _) _ _ _
  have q1 : P1 g1 := n1.off z s.heap g1 D.i1z.symm D.l1z.symm p1 k1
  refine wpAny_bind (n1.next _ { s with heap := g1 } _ q1 fun g2 r1 k2 => wpAny_pure ?_)
  have t2 : IsPair g2 TO a b := k2.extBut _ _ D.TOi1 (k1.extBut _ _ D.TOz hTO)
  refine wpAny_bind (wpAny_seqItems t2 rfl (wpAny_bind (wpAny_updateSeq_pair t2 fun g3 t3 k3 => ?_)))
  have t3 : IsPair g3 TO x b := t3
  refine wpAny_bind (wpAny_letGo (wpAny_pure (wpAny_bind (wpAny_bind (wpAny_onRaise ?_)))))
  show wpAny _ _ (Builtin.SmallTypes.nextOf (.ref i2) >>= _) _ _ _
  have q2 : P2 g3 := n2.off TO _ _ D.TOi2 D.l2TO.symm (n2.off i1 _ _ D.i12 D.l2i1.symm (n2.off z _ _ D.i2z.symm D.l2z.symm p2 k1) k2) k3
  refine wpAny_bind (n2.next _ { s with heap := g3 } _ q2 fun g4 r2 k4 => wpAny_pure ?_)
  have t4 : IsPair g4 TO x b := k4.extBut _ _ D.TOi2 t3
  refine wpAny_bind (wpAny_seqItems t4 rfl (wpAny_bind (wpAny_updateSeq_pair t4 fun g5 t5 k5 => ?_)))
  have t5 : IsPair g5 TO x y := t5
  refine wpAny_bind (wpAny_letGo (wpAny_pure (wpAny_pure (wpAny_bind (wpAny_seqItems t5 rfl (wpAny_bind (wpAny_newTuple ?_)))))))
  have size : g5.objs.size = s.heap.objs.size := by rw [k5.1, k4.1, k3.1, k2.1, k1.1]
  have hz5 : IsZip g5 z TI TO .ellipsis := k5.extBut _ _ D.TOz.symm (k4.extBut _ _ D.i2z.symm (k3.extBut _ _ D.TOz.symm (k2.extBut _ _ D.i1z.symm hz1)))
  have old : ∀ c o, c ≠ z → c ≠ TO → c ≠ i1 → c ≠ i2 → s.heap.get? c = some o → g5.get? c = some o := fun c o c1 c2 c3 c4 e =>
    k5.extBut _ _ c2 (k4.extBut _ _ c4 (k3.extBut _ _ c2 (k2.extBut _ _ c3 (k1.extBut _ _ c1 e))))
  have f1 : P1' g5 := n1.off' TO _ _ D.TOi1 D.l1TO.symm (n1.off' i2 _ _ D.i12.symm D.l1i2.symm (n1.off' TO _ _ D.TOi1 D.l1TO.symm r1 k3) k4) k5
  have f2 : P2' g5 := n2.off' TO _ _ D.TOi2 D.l2TO.symm r2 k5
  have zlt : z < g5.objs.size := Heap.lt_size hz5
  show wpAny _ _ (Builtin.SmallTypes.ownedTupleHandOut (.ref z) (.ref g5.objs.size) >>= _) _ _ _
  refine wpAny_bind ?_
  unfold Builtin.SmallTypes.ownedTupleHandOut
  have hz6 : IsZip (g5.push { cls := .type "tuple", data := .seq #[x, y] }) z TI TO .ellipsis := Heap.get?_push_of_some _ hz5
  refine wpAny_bind (wpAny_setField_rec hz6 (by simp) fun g7 hz7 k7 => ?_)
  have hz7 : IsZip g7 z TI TO (rawInt g5.objs.size) := hz7
  refine wpAny_setField_rec hz7 (by simp) fun g8 hz8 k8 => ?_
  have hz8 : IsZip g8 z TI TO (rawInt g5.objs.size) := hz8
  have up : ∀ c o, c ≠ z → g5.get? c = some o → g8.get? c = some o := fun c o c1 e => k8.extBut _ _ c1 (k7.extBut _ _ c1 (Heap.get?_push_of_some _ e))
  have new : IsPair g8 g5.objs.size x y := k8.extBut _ _ (Nat.ne_of_gt zlt) (k7.extBut _ _ (Nat.ne_of_gt zlt) (Heap.get?_push_size _ rfl))
  refine wpAny_pure ⟨_, rfl, ?_⟩
  show Q (.ref g5.objs.size) _
  rw [size] at hz8 new ⊢
  exact hQ g8 hz8 (up _ _ D.TOz t5) (n1.up' _ _ f1 fun o e => up _ o D.i1z e) (n2.up' _ _ f2 fun o e => up _ o D.i2z e) new fun c o c1 c2 c3 c4 e => up c o c1 (old c o c1 c2 c3 c4 e)
theorem mix_end1 {z TI TO i1 i2 l1 l2 : Addr} {a b : Value} {P1 : Heap → Prop} {Q : Fin → Shared → Prop} (D : ZipApart z TI TO i1 i2 l1 l2) (n1 : Stop prog w A i1 l1 P1)
    (hz : IsZip s.heap z TI TO .none) (hTI : IsPair s.heap TI (.ref i1) (.ref i2)) (hTO : IsPair s.heap TO a b) (p1 : P1 s.heap)
    (hE : ∀ h' e, (∀ c o, c ≠ z → c ≠ TO → c ≠ i1 → c ≠ i2 → s.heap.get? c = some o → h'.get? c = some o) → (∃ o, h'.get? e = some o ∧ o.cls = .type "StopIteration") → E (.ref e) { s with heap := h' }) :
    wpAny (model prog w) A (Builtin.«zip.__next__» ⟨[.ref z], []⟩) Q E s := by
  show wpAny _ _ (field (.ref z) 2 >>= _) _ _ _
  refine wpAny_bind (wpAny_field hz rfl (x := .bool false) rfl ?_)
  show wpAny _ _ (field (.ref z) 3 >>= _) _ _ _
  refine wpAny_bind (wpAny_field hz rfl (x := .ref TI) rfl (wpAny_bind (wpAny_seqItems hTI rfl ?_)))
  show wpAny _ _ (Builtin.SmallTypes.ownedTupleIsFree (.ref z) >>= _) _ _ _
  refine wpAny_bind ?_
  unfold Builtin.SmallTypes.ownedTupleIsFree
  refine wpAny_bind (wpAny_field hz rfl (x := .none) rfl (wpAny_pure ?_))
  simp only [if_true]
  refine wpAny_bind (wpAny_rule (wpAny_bind (wpAny_field hz rfl (x := .ref TO) rfl (wpAny_bind (wpAny_setField_rec hz (by simp) fun g1 hz1 k1 => ?_)))))
  have hz1 : IsZip g1 z TI TO .ellipsis := hz1
  refine wpAny_bind ?_
  simp only [List.zipIdx_cons, List.zipIdx_nil, List.forIn_cons, List.forIn_nil]
  refine wpAny_bind (wpAny_bind (wpAny_onRaise ?_))
  show wpAny _ _ (Builtin.SmallTypes.nextOf (.ref i1) >>= _) _ _ _
  refine wpAny_bind (n1.next _ { s with heap := g1 } _ (n1.off z s.heap g1 D.i1z.symm D.l1z.symm p1 k1) fun g2 e k2 he => ?_)
  obtain ⟨oe, hoe, hce⟩ := he
  have hz2 : IsZip g2 z TI TO .ellipsis := k2 _ _ D.i1z.symm hz1
  have hez : e ≠ z := fun q => by subst q; rw [hz2] at hoe; cases hoe; simp at hce
  exact wpAny_setField_rec hz2 (by simp) fun g3 _ k3 => hE g3 e (fun c o c1 _ c3 _ q => k3.extBut _ _ c1 (k2 _ _ c3 (k1.extBut _ _ c1 q))) ⟨oe, k3.extBut _ _ hez hoe, hce⟩
theorem next_mix_item {z TI TO i1 i2 l1 l2 : Addr} {x y a b : Value} {P1 P1' P2 P2' : Heap → Prop} {Q : Option Value → Shared → Prop} (D : ZipApart z TI TO i1 i2 l1 l2)
    (n1 : Step prog w A.in1 i1 l1 x P1 P1') (n2 : Step prog w A.in1 i2 l2 y P2 P2') (hz : IsZip s.heap z TI TO .none) (hTI : IsPair s.heap TI (.ref i1) (.ref i2)) (hTO : IsPair s.heap TO a b) (p1 : P1 s.heap) (p2 : P2 s.heap)
    (hQ : ∀ h', IsZip h' z TI TO (rawInt s.heap.objs.size) → IsPair h' TO x y → P1' h' → P2' h' → IsPair h' s.heap.objs.size x y →
      (∀ c o, c ≠ z → c ≠ TO → c ≠ i1 → c ≠ i2 → s.heap.get? c = some o → h'.get? c = some o) → Q (some (.ref s.heap.objs.size)) { s with heap := h' }) :
    wpAny (model prog w) A (pyNext (.ref z)) Q E s := by
  have hT : s.TypeIs (.ref z) "zip" := ⟨_, hz, rfl⟩
  unfold pyNext
  exact wpAny_bind (wpAny_attempt (wpAny_callSpecial?_slot (name := Str.ofString "__next__") hT F.slot_zip_next (wpAny_call_entry F.slot_zip_next hT F.entry_zip_next
    (mix_item D n1 n2 hz hTI hTO p1 p2 fun h' a1 a2 a3 a4 a5 a6 => wpAny_pure (hQ h' a1 a2 a3 a4 a5 a6)) (F.args_zip_next_1 _))))
theorem next_mix_end {z TI TO i1 i2 l1 l2 : Addr} {a b : Value} {P1 : Heap → Prop} {Q : Option Value → Shared → Prop} (D : ZipApart z TI TO i1 i2 l1 l2) (n1 : Stop prog w A.in1 i1 l1 P1)
    (hz : IsZip s.heap z TI TO .none) (hTI : IsPair s.heap TI (.ref i1) (.ref i2)) (hTO : IsPair s.heap TO a b) (p1 : P1 s.heap)
    (hQ : ∀ h', (∀ c o, c ≠ z → c ≠ TO → c ≠ i1 → c ≠ i2 → s.heap.get? c = some o → h'.get? c = some o) → Q none { s with heap := h' }) : wpAny (model prog w) A (pyNext (.ref z)) Q E s := by
  have hT : s.TypeIs (.ref z) "zip" := ⟨_, hz, rfl⟩
  unfold pyNext
  refine wpAny_bind (wpAny_attempt (wpAny_callSpecial?_slot (name := Str.ofString "__next__") hT F.slot_zip_next (wpAny_call_entry F.slot_zip_next hT F.entry_zip_next
    (mix_end1 D n1 hz hTI hTO p1 fun h' e hk he => ?_) (F.args_zip_next_1 _))))
  obtain ⟨o, ho, hc⟩ := he
  exact wpAny_bind (wpAny_isInstance (T := "StopIteration") (b := true) ⟨o, ho, hc⟩ isSubtype_stop (wpAny_pure (hQ _ hk)))
/-- the heap that zip(t, l) leaves -/
abbrev mixH1 (h : Heap) (l1 : Addr) : Heap := h.push { cls := .type "tuple_iterator", data := .fields #[.ref l1, .int 0 0] }
abbrev mixH2 (h : Heap) (l1 l2 : Addr) : Heap := (mixH1 h l1).push { cls := .type "list_iterator", data := .fields #[.ref l2, .int 0 0] }
abbrev mixH3 (h : Heap) (l1 l2 : Addr) : Heap := (mixH2 h l1 l2).push { cls := .type "tuple", data := .seq #[.ref h.objs.size, .ref (mixH1 h l1).objs.size] }
abbrev mixH4 (h : Heap) (l1 l2 : Addr) : Heap := (mixH3 h l1 l2).push { cls := .type "tuple", data := .seq #[.none, .none] }
abbrev mixH5 (h : Heap) (l1 l2 : Addr) : Heap := (mixH4 h l1 l2).push { cls := .type "zip", data := .fields #[.none, .bool false, .bool false, .ref (mixH2 h l1 l2).objs.size, .ref (mixH3 h l1 l2).objs.size] }
theorem meets_mix (l1 l2 : Addr) (xs ys : Array Value) : Meets (Builtin.«zip.__new__» ⟨[.type "zip", .ref l1, .ref l2], []⟩) (fun _ R s => s.heap.IsTuple l1 xs ∧ s.heap.IsList l2 ys ∧ R (.ok (.ret (.ref (mixH4 s.heap l1 l2).objs.size))) { s with heap := mixH5 s.heap l1 l2 }) :=
  .of_wp fun prog w A R s h => by
    obtain ⟨hp, g, d, tk, os⟩ := s
    obtain ⟨h1, h2, h⟩ := h
    have sub := sub_zip
    have t1 : Heap.IsTuple (Shared.heap ⟨hp, g, d, tk, os⟩) l1 xs := h1
    have t2 : Heap.IsList (Shared.heap ⟨hp.push { cls := .type "tuple_iterator", data := .fields #[.ref l1, .int 0 0] }, g, d, tk, os⟩) l2 ys := Heap.IsList.push h2 _
    wp_walk using wpAny_pyIter_tuple t1, wpAny_pyIter_list t2
    exact ⟨_, rfl, h⟩
theorem call_mix {l1 l2 : Addr} {xs ys : Array Value} {Q : Value → Shared → Prop} (h1 : s.heap.IsTuple l1 xs) (h2 : s.heap.IsList l2 ys)
    (h : ∀ h', IsZip h' (s.heap.objs.size + 4) (s.heap.objs.size + 2) (s.heap.objs.size + 3) .none → IsPair h' (s.heap.objs.size + 2) (.ref s.heap.objs.size) (.ref (s.heap.objs.size + 1)) →
      IsPair h' (s.heap.objs.size + 3) .none .none → h'.IsTupleIter s.heap.objs.size l1 0 → h'.IsListIter (s.heap.objs.size + 1) l2 0 → (∀ c o, s.heap.get? c = some o → h'.get? c = some o) → Q (.ref (s.heap.objs.size + 4)) { s with heap := h' }) :
    wpAny (model prog w) A (call (.type "zip") [.ref l1, .ref l2]) Q E s := by
  refine callType_new F.called_zip (by decide) (F.typeCall_zip_2 _ _) (F.newCall_zip_2 _ _) (fun obj => F.args_object_init_3 obj _ _) F.entry_zip_new (meets_mix l1 l2 xs ys) ⟨h1, h2, ?_⟩
  have e1 : (mixH1 s.heap l1).objs.size = s.heap.objs.size + 1 := Heap.size_push ..
  have e2 : (mixH2 s.heap l1 l2).objs.size = s.heap.objs.size + 2 := by rw [Heap.size_push, e1]
  have e3 : (mixH3 s.heap l1 l2).objs.size = s.heap.objs.size + 3 := by rw [Heap.size_push, e2]
  have e4 : (mixH4 s.heap l1 l2).objs.size = s.heap.objs.size + 4 := by rw [Heap.size_push, e3]
  have p5 : ∀ c o, (mixH4 s.heap l1 l2).get? c = some o → (mixH5 s.heap l1 l2).get? c = some o := fun c o => Heap.get?_push_of_some _
  have p4 : ∀ c o, (mixH3 s.heap l1 l2).get? c = some o → (mixH4 s.heap l1 l2).get? c = some o := fun c o => Heap.get?_push_of_some _
  have p3 : ∀ c o, (mixH2 s.heap l1 l2).get? c = some o → (mixH3 s.heap l1 l2).get? c = some o := fun c o => Heap.get?_push_of_some _
  have p2 : ∀ c o, (mixH1 s.heap l1).get? c = some o → (mixH2 s.heap l1 l2).get? c = some o := fun c o => Heap.get?_push_of_some _
  have p1 : ∀ c o, s.heap.get? c = some o → (mixH1 s.heap l1).get? c = some o := fun c o => Heap.get?_push_of_some _
  have g5 : (mixH5 s.heap l1 l2).get? (mixH4 s.heap l1 l2).objs.size = some _ := Heap.get?_push_size _ rfl
  have g4 : (mixH4 s.heap l1 l2).get? (mixH3 s.heap l1 l2).objs.size = some _ := Heap.get?_push_size _ rfl
  have g3 : (mixH3 s.heap l1 l2).get? (mixH2 s.heap l1 l2).objs.size = some _ := Heap.get?_push_size _ rfl
  have g2 : (mixH2 s.heap l1 l2).get? (mixH1 s.heap l1).objs.size = some _ := Heap.get?_push_size _ rfl
  have g1 : (mixH1 s.heap l1).get? s.heap.objs.size = some _ := Heap.get?_push_size _ rfl
  rw [e4, e3, e2] at g5
  rw [e3] at g4
  rw [e2, e1] at g3
  rw [e1] at g2
  show _ ∧ _
  rw [e4]
  exact ⟨⟨_, g5, rfl⟩, h _ g5 (p5 _ _ (p4 _ _ g3)) (p5 _ _ g4) ⟨_, p5 _ _ (p4 _ _ (p3 _ _ (p2 _ _ g1))), rfl, rfl⟩ ⟨_, p5 _ _ (p4 _ _ (p3 _ _ g2)), rfl, rfl⟩ fun c o q => p5 _ _ (p4 _ _ (p3 _ _ (p2 _ _ (p1 _ _ q))))⟩
end
section
open PyProof.Rows RZ
/-- a tuple and a list, the items in new pairs, as long as the tuple has items -/
def ItzM (K : PySem.W.Frag) (a b : Addr) : It :=
  ⟨fun i H => ∃ (xs ys : List V) (x y : V), SqT K H a xs ∧ SqL K H b ys ∧ xs[i]? = some x ∧ ys[i]? = some y,
    fun i H v H' => ∃ T x y, v = .ref T ∧ H T = none ∧ H' = _root_.L2.upd H T (.tup [x, y]) ∧ (∀ xs, SqT K H a xs → xs[i]? = some x) ∧ ∀ ys, SqL K H b ys → ys[i]? = some y,
    fun i H => ∃ xs : List V, SqT K H a xs ∧ xs.length ≤ i⟩
theorem turn_mix {P : Program} {w : World} {K : PySem.W.Frag} {elts : List Expr} {kk : Nat} {tpos : Pos} {a b z TI TO i1 i2 : Addr} (D : ZipApart z TI TO i1 i2 a b) :
    Turn P w K (.Tuple elts kk tpos) (ItzM K a b) [z, TI, TO, i1, i2] z (fun i h => IsZip h z TI TO .none ∧ IsPair h TI (.ref i1) (.ref i2) ∧ (∃ x y, IsPair h TO x y) ∧ h.IsTupleIter i1 a i ∧ h.IsListIter i2 b i) where
  mem := List.mem_cons_self
  obj := fun i h st c hc => by
    obtain ⟨hz, hTI, ⟨x, y, hTO⟩, ⟨o1, e1, _, d1⟩, ⟨o2, e2, _, d2⟩⟩ := st
    simp only [List.mem_cons, List.not_mem_nil, or_false] at hc
    rcases hc with rfl | rfl | rfl | rfl | rfl
    · exact ⟨_, hz, fun v q => nomatch q⟩
    · exact ⟨_, hTI, fun v q => nomatch q⟩
    · exact ⟨_, hTO, fun v q => nomatch q⟩
    · exact ⟨o1, e1, fun v q => by rw [d1] at q; cases q⟩
    · exact ⟨o2, e2, fun v q => by rw [d2] at q; cases q⟩
  keep := fun i h h' st k => by
    obtain ⟨hz, hTI, ⟨x, y, hTO⟩, h1, h2⟩ := st
    exact ⟨k z (by simp) _ hz, k TI (by simp) _ hTI, ⟨x, y, k TO (by simp) _ hTO⟩, h1.at fun o q => k i1 (by simp) o q, h2.at fun o q => k i2 (by simp) o q⟩
  item := by
    rintro X rfl rfl rfl hc i pins s σ H E I hf ⟨hz, hTI, ⟨x0, y0, hTO⟩, h1, h2⟩ ⟨xs, ys, x, y, hqx, hqy, hx, hy⟩
    obtain ⟨its, rv, p, _⟩ := I.tuple hqx
    obtain ⟨its2, rv2, p2, _⟩ := I.list hqy
    obtain ⟨u, hu, ru⟩ := rv.get hx
    obtain ⟨u2, hu2, ru2⟩ := rv2.get hy
    have hzl : z < s.heap.objs.size := Heap.lt_size hz
    refine next_mix_item D (step_tup (items := its.toArray) (x := u) (by simpa using hu) D.l1i1) (step_lst (items := its2.toArray) (x := u2) (by simpa using hu2) D.l2i2) hz hTI hTO ⟨h1, p⟩ ⟨h2, p2.isList⟩ fun h' z' TO' h1' h2' hT hk => ?_
    refine ⟨_, rfl, wpAny_letOwnedTupleGo_zip (s := { s with heap := h' }) z' fun h'' z'' sb => ?_⟩
    have hT2 : h''.get? s.heap.objs.size = some { cls := .type "tuple", data := .seq #[u, u2] } := (sb.2 _ (Nat.ne_of_gt hzl)).trans hT
    have new : ObjOk X.prog X.w (_root_.L2.upd H s.heap.objs.size (.tup [x, y])) h'' s.heap.objs.size (.tup [x, y]) := ⟨by show 2 ≤ sizeLine; decide, [u, u2], .cons ru (.cons ru2 .nil), ⟨_, hT2, rfl, _, rfl⟩⟩
    have out : ∀ c, c ∉ [z, TI, TO, i1, i2] → c ≠ z ∧ c ≠ TO ∧ c ≠ i1 ∧ c ≠ i2 := fun c hb => by
      simp only [List.mem_cons, List.not_mem_nil, or_false, not_or] at hb
      exact ⟨hb.1, hb.2.2.1, hb.2.2.2.1, hb.2.2.2.2⟩
    have I1 : Inv X pins σ (_root_.L2.upd H s.heap.objs.size (.tup [x, y])) { s with heap := h'' } :=
      I.turnedNew (t' := s.toks) (ch := [z, TI, TO, i1, i2]) (fun c o hb q => (sb.2 c (out c hb).1).trans (hk c o (out c hb).1 (out c hb).2.1 (out c hb).2.2.1 (out c hb).2.2.2 q)) hf (Nat.le_refl _) new
    refine ⟨.ref s.heap.objs.size, _, I1, rfl, ⟨_, x, y, rfl, I.hok.fresh (Nat.le_refl _), rfl, fun l hl => by rw [I.tuple_inj hl hqx]; exact hx, fun l hl => by rw [I.list_inj hl hqy]; exact hy⟩, ⟨z'', ?_, ⟨u, u2, ?_⟩, ?_, ?_⟩, fun c hcm => ?_⟩
    · exact (sb.2 _ D.TIz).trans (hk _ _ D.TIz D.TITO D.TIi1 D.TIi2 hTI)
    · exact (sb.2 _ D.TOz).trans TO'
    · exact h1'.at fun o q => (sb.2 _ D.i1z).trans q
    · exact h2'.at fun o q => (sb.2 _ D.i2z).trans q
    · have hlt : c < s.heap.objs.size := by
        simp only [List.mem_cons, List.not_mem_nil, or_false] at hcm
        rcases hcm with rfl | rfl | rfl | rfl | rfl
        · exact hzl
        · exact Heap.lt_size hTI
        · exact Heap.lt_size hTO
        · obtain ⟨_, e1, _⟩ := h1; exact Heap.lt_size e1
        · obtain ⟨_, e2, _⟩ := h2; exact Heap.lt_size e2
      rw [upd_ne (Nat.ne_of_lt hlt)]
      exact (hf c hcm).1
  done := by
    rintro X rfl rfl rfl hc i pins s σ H E I hf ⟨hz, hTI, ⟨x0, y0, hTO⟩, h1, h2⟩ ⟨xs, hqx, hend⟩
    obtain ⟨its, rv, p, _⟩ := I.tuple hqx
    have l1 := rv.length
    refine next_mix_end D (stop_tup (items := its.toArray) (I.ok.hd hc) (by simp; omega)) hz hTI hTO ⟨h1, p⟩ fun h' hk => ⟨rfl, I.turnedL (t' := s.toks) (ch := [z, TI, TO, i1, i2]) (fun c o hb q => ?_) hf⟩
    simp only [List.mem_cons, List.not_mem_nil, or_false, not_or] at hb
    exact hk c o hb.1 hb.2.2.1 hb.2.2.2.1 hb.2.2.2.2 q
  self := fun A i s Q E st h => wpAny_pyIter_zip st.1 h
def iMix (K : PySem.W.Frag) (ta : TA) : TI := fun σ H R => ta σ H fun vs H1 => ∃ a b xs ys, vs = [.ref a, .ref b] ∧ SqT K H1 a xs ∧ SqL K H1 b ys ∧ R (ItzM K a b) H1
theorem pi_mix {X : Cx} {e e2 : Expr} {ta : TA} {p pos tpos : Pos} {elts : List Expr} {kk : Nat} (hg : Gl X "zip") (hm : X.mg "zip" = none) (ha : PA X [e, e2] ta)
    (hs : starEach [e, e2] X.env = (false, eval e X.env) :: starEach [e2] X.env := by rfl) (hpl : (backTo pos (starEach [e2] X.env)).any (·.1) = false := by rfl) :
    PI X (.Tuple elts kk tpos) (.Call (.Name "zip" p) [e, e2] [] pos) (iMix X.K ta) := by
  refine ⟨fun pins s σ H R I h => Call_ (ld_blt I hg hm PyProof.Rows.boot_zip (PyProof.Rows.callWith_type1 (thn (ha.run pos pins s σ H _ I h) fun us s1 ⟨vs, H1, I1, r1, q1⟩ => ?_) hs hpl))⟩
  obtain ⟨a, b, xs, ys, rfl, hqx, hqy, q⟩ := q1
  cases r1 with
  | cons r rr =>
    cases rr with
    | cons r' rr =>
      cases rr
      cases r
      cases r'
      obtain ⟨its, rv, p1, _⟩ := I1.tuple hqx
      obtain ⟨its2, rv2, p2, _⟩ := I1.list hqy
      obtain ⟨o1, ho1, _⟩ := id p1
      refine call_mix (show s1.heap.IsTuple a its.toArray from p1) p2.isList fun h' hz hTI hTO h1 h2 hk => wpAny_pyIter_zip hz ?_
      refine ⟨s1.heap.objs.size + 4, [s1.heap.objs.size + 4, s1.heap.objs.size + 2, s1.heap.objs.size + 3, s1.heap.objs.size, s1.heap.objs.size + 1], _, _, H1, rfl, I1.kept (t' := s1.toks) hk, turn_mix (PySem.W.ktu_apart s1.heap.objs.size a b (Heap.lt_size ho1) p2.lt), ⟨hz, hTI, ⟨_, _, hTO⟩, h1, h2⟩, fun c hcm => ?_, q⟩
      have hle : s1.heap.objs.size ≤ c := by
        simp only [List.mem_cons, List.not_mem_nil, or_false] at hcm
        rcases hcm with rfl | rfl | rfl | rfl | rfl <;> omega
      exact I1.fpOk hle (I1.hok.fresh hle)
end
/-- a list comprehension over zip of a tuple and a list of one length -/
theorem lc_mix {K : PySem.W.Frag} {a b : Addr} {xs ys : List V} {g : TG} {tt : TT} {te : TE} {vs : List Nat} {σ : St} {H1 : Hp} {D : Addr} {Qd : Hp → Prop} (hl : xs.length = ys.length) (Pv : Nat → Hp → Prop) (h0 : Pv 0 (_root_.L2.upd H1 D (.lst []))) (hq : ∀ i H, Pv i H → SqT K H a xs ∧ SqL K H b ys)
    (hs : ∀ (i : Nat) (x y : V) (T : Addr) (H : Hp), xs[i]? = some x → ys[i]? = some y → Pv i H → H T = none → g (.ref T) (wipe σ vs) (_root_.L2.upd H T (.tup [x, y])) fun σ2 H2 => wipe σ2 vs = wipe σ vs ∧ tt σ2 H2 fun b H3 =>
      if b = true then te σ2 H3 fun y H4 => ∃ acc, H4 D = some (.lst acc) ∧ acc.length < sizeLine ∧ Pv (i + 1) (_root_.L2.upd H4 D (.lst (acc ++ [y]))) else Pv (i + 1) H3) (hd : ∀ H, Pv xs.length H → Qd H) :
    ∃ W : Nat → Nat → Hp → Prop, (∃ m, W 0 m (_root_.L2.upd H1 D (.lst []))) ∧ ∀ i m H, W i m H →
      ((ItzM K a b).stop i H ∧ Qd H) ∨ ((ItzM K a b).go i H ∧ ∃ Nx : Hp → Prop, (∀ H', Nx H' → ∃ m', m' < m ∧ W (i + 1) m' H') ∧ ∀ x H', (ItzM K a b).yld i H x H' → g x (wipe σ vs) H' fun σ2 H2 => wipe σ2 vs = wipe σ vs ∧ tt σ2 H2 fun b H3 =>
        if b = true then te σ2 H3 fun y H4 => ∃ acc, H4 D = some (.lst acc) ∧ acc.length < sizeLine ∧ Nx (_root_.L2.upd H4 D (.lst (acc ++ [y]))) else Nx H3) := by
  refine ⟨fun i m H => m = xs.length - i ∧ i ≤ xs.length ∧ Pv i H, ⟨xs.length, rfl, Nat.zero_le _, h0⟩, fun i m H hW => ?_⟩
  obtain ⟨rfl, hi, p⟩ := hW
  obtain ⟨qx, qy⟩ := hq i H p
  rcases Nat.lt_or_ge i xs.length with lt | ge
  · have lt2 : i < ys.length := hl ▸ lt
    have hx : xs[i]? = some xs[i] := List.getElem?_eq_getElem lt
    have hy : ys[i]? = some ys[i] := List.getElem?_eq_getElem lt2
    refine .inr ⟨⟨xs, ys, _, _, qx, qy, hx, hy⟩, Pv (i + 1), fun H' p' => ⟨xs.length - (i + 1), by omega, rfl, lt, p'⟩, fun v H' y => ?_⟩
    obtain ⟨T, x', y', rfl, hT, rfl, f1, f2⟩ := y
    exact hs i x' y' T H (f1 xs qx) (f2 ys qy) p hT
  · have e : i = xs.length := Nat.le_antisymm hi ge
    subst e
    exact .inl ⟨⟨xs, qx, Nat.le_refl _⟩, hd H p⟩

/-! ### x in a dict of the module, x a text -/
section
open PyProof.Rows
/-- b: whether the dict has the key -/
def KHas (K : PySem.W.Frag) (w : World) (a : Addr) (x : Str) (b : Bool) : Prop := ∃ es n r, K.lookup a = some ⟨.type "dict", none, .dict es n, #[]⟩ ∧ PySem.W.KeysLit w.params es.toList ∧ (a == sysModules) = false ∧ PySem.W.nsIn K a x = some r ∧ b = r.isSome
theorem op_inKd {X : Cx} : OpR X (compareOp .In) (fun x y H Q => ∃ p z b, x = .str z ∧ y = .ref p ∧ KHas X.K X.w p z b ∧ Q (.bl b) H) := by
  intro pins s σ H x y v u Q I rx ry h
  obtain ⟨p, z, b, rfl, rfl, ⟨es, n, r, hl, hk, low, e, rfl⟩, q⟩ := h
  obtain ⟨t, rfl⟩ := rx
  obtain rfl : u = Value.ref p := ry
  refine wpAny_in_of (strKind_is X.prog X.w z t) low (PySem.W.mapOf_K (prog := X.prog) (w := X.w) I.kIn hl hk) ?_
  rw [PySem.W.find_K hl e]
  exact ⟨.bl _, H, I.tok _, rfl, q⟩
theorem op_notInKd {X : Cx} : OpR X (compareOp .NotIn) (fun x y H Q => ∃ p z b, x = .str z ∧ y = .ref p ∧ KHas X.K X.w p z b ∧ Q (.bl (!b)) H) := by
  intro pins s σ H x y v u Q I rx ry h
  obtain ⟨p, z, b, rfl, rfl, ⟨es, n, r, hl, hk, low, e, rfl⟩, q⟩ := h
  obtain ⟨t, rfl⟩ := rx
  obtain rfl : u = Value.ref p := ry
  refine wpAny_notIn_of (strKind_is X.prog X.w z t) low (PySem.W.mapOf_K (prog := X.prog) (w := X.w) I.kIn hl hk) ?_
  rw [PySem.W.find_K hl e]
  exact ⟨.bl _, H, I.tok _, rfl, q⟩
end
section
open PyProof.Rows
theorem nsIn_dict {K : PySem.W.Frag} {P : Params} {a : Addr} {es : Array DictEntry} {n : Nat} (hl : K.lookup a = some ⟨.type "dict", none, .dict es n, #[]⟩) (hk : PySem.W.KeysLit P es.toList) (x : Str) :
    PySem.W.nsIn K a x = some ((es.toList.find? fun d => d.key.isStr x).map (·.val)) := by
  unfold PySem.W.nsIn
  rw [hl]
  cases e : es.toList.find? fun d => d.key.isStr x with
  | some d => simp [e]
  | none =>
    have nr : (es.toList.any fun d => d.refKey) = false := by
      rw [List.any_eq_false]
      intro d hd
      obtain ⟨y, t, e1, _⟩ := hk.all d hd
      unfold DictEntry.refKey
      rw [e1]
      simp
    simp [e, nr]
/-- a dict of the module: its keys, texts, and what stands there -/
structure KTab (K : PySem.W.Frag) (w : World) (a : Addr) (kvs : List (Str × Addr)) : Prop where
  at_ : ∃ es n, K.lookup a = some ⟨.type "dict", none, .dict es n, #[]⟩ ∧ PySem.W.KeysLit w.params es.toList ∧ ∀ x : Str, (es.toList.find? fun d => d.key.isStr x).map (·.val) = (kvs.lookup x).map Value.ref
  low : (a == sysModules) = false
theorem KTab.has {K : PySem.W.Frag} {w : World} {a : Addr} {kvs : List (Str × Addr)} (h : KTab K w a kvs) (x : Str) : KHas K w a x (kvs.lookup x).isSome := by
  obtain ⟨es, n, hl, hk, e⟩ := h.at_
  refine ⟨es, n, _, hl, hk, h.low, nsIn_dict hl hk x, ?_⟩
  rw [e]
  cases kvs.lookup x <;> rfl
theorem KTab.get {K : PySem.W.Frag} {w : World} {a : Addr} {kvs : List (Str × Addr)} (h : KTab K w a kvs) {x : Str} {b : Addr} (hx : kvs.lookup x = some b) : KDct K w a x (.ref b) := by
  obtain ⟨es, n, hl, hk, e⟩ := h.at_
  have q := nsIn_dict hl hk x
  rw [e, hx] at q
  exact ⟨es, n, _, hl, hk, q, rfl⟩
theorem isStr_eq {x y : Str} {t : Tok} : (Value.str y t).isStr x = decide (x = y) := by
  show (y == x) = _
  by_cases h : x = y
  · rw [h, decide_eq_true rfl, beq_self_eq_true]
  · rw [decide_eq_false h, beq_eq_false_iff_ne.mpr fun e => h e.symm]
def TabEs : List DictEntry → List (Str × Addr) → Prop
  | [], [] => True
  | d :: l, kv :: r => (∃ t, d.key = .str kv.1 t ∧ d.val = .ref kv.2) ∧ TabEs l r
  | _, _ => False
theorem find_tab (x : Str) : ∀ {l : List DictEntry} {kvs : List (Str × Addr)}, TabEs l kvs → (l.find? fun d => d.key.isStr x).map (·.val) = (kvs.lookup x).map Value.ref
  | [], [], _ => rfl
  | d :: l, (k, b) :: r, h => by
    obtain ⟨⟨t, e1, e2⟩, hr⟩ := h
    have ih := find_tab x hr
    by_cases c : x = k
    · have c1 : d.key.isStr x = true := by rw [e1, isStr_eq, decide_eq_true c]
      rw [List.find?_cons_of_pos (p := fun d : DictEntry => d.key.isStr x) c1, c]
      simp [List.lookup, e2]
    · have c1 : ¬ d.key.isStr x = true := by rw [e1, isStr_eq, decide_eq_false c]; exact Bool.false_ne_true
      rw [List.find?_cons_of_neg (p := fun d : DictEntry => d.key.isStr x) c1, ih]
      have c2 : (x == k) = false := beq_eq_false_iff_ne.mpr c
      simp [List.lookup, c2]
theorem ktab_mk {K : PySem.W.Frag} {w : World} {a : Addr} {es : Array DictEntry} {n : Nat} {kvs : List (Str × Addr)} (hl : K.lookup a = some ⟨.type "dict", none, .dict es n, #[]⟩) (hk : PySem.W.KeysLit w.params es.toList) (low : (a == sysModules) = false) (he : TabEs es.toList kvs) : KTab K w a kvs :=
  ⟨⟨es, n, hl, hk, fun x => find_tab x he⟩, low⟩
end

/-! ### own errors without an own __init__: caught, asked -/
structure XcC (K : PySem.W.Frag) (D : Addr) : Prop where
  cl : (PySem.W.clsIn K D).isSome = true
  ga : PySem.W.findIn K (.ref D) "__getattribute__" = some (some (.builtin "BaseException.__getattribute__"))
  gt : PySem.W.findIn K (.ref D) "__getattr__" = some Option.none
  sub : PySem.W.subIn K (.ref D) (.type "BaseException") = some true
  has : PySem.W.hasDictIn K D = true
  cls : PySem.W.findIn K (.ref D) "__class__" = some (some (.builtin "object.__class__"))
  get : PySem.W.specialIn K (.builtin "object.__class__") "__get__" = some (some (.builtin "getset_descriptor.__get__"))
  tk : PySem.W.takesIn K (.builtin "object.__class__") = some true
  obj : PySem.W.mroIn K D (.type "object") = some true
def rIsN (K : PySem.W.Frag) (a : Addr) (cls : Value) (d : Option Addr) : List V → Hp → VK → Prop := fun xs H Q => ∃ (D : Addr) (c : V) (cv : Value) (b : Bool), xs = [.ref a, c] ∧ cls = .ref D ∧ d = Option.none ∧ XcC K D ∧ ClsV c cv ∧ PySem.W.kitOne K (.ref D) cv = some b ∧ Q (.bl b) H
theorem call_isN {X : Cx} {a : Addr} {cls : Value} {d : Option Addr} {oe : Obj} {pn : List (Addr × Obj)} (hz : Zc cls d oe) (hf : ∃ vs, oe.data = .fields vs) : CallR (X.suite a ((a, oe) :: pn)) (.builtin "isinstance") (rIsN X.K a cls d) := by
  intro pins sh σ H xs us Q I rel hyp
  obtain ⟨D, c, cv, b, rfl, rfl, rfl, C, hcv, e, q⟩ := hyp
  obtain ⟨u1, u2, rfl, r1, r2⟩ := vals2 rel
  have e2 := hcv.eq r2
  subst e2
  cases r1
  obtain ⟨got, _⟩ := I.pin (a, oe) (List.mem_append_left _ List.mem_cons_self)
  obtain ⟨vs, hv⟩ := hf
  have J : PySem.W.InstAt sh.heap a oe D Option.none := by
    obtain ⟨oc, odd, oda, osl⟩ := oe
    obtain ⟨h1, h2⟩ := hz
    dsimp only at h1 h2 hv
    subst h1 h2 hv
    exact ⟨got, rfl, rfl, trivial⟩
  exact PySem.W.kia_one (PySem.W.kitx_exc C.cl C.ga C.gt C.sub C.cls C.get C.tk C.obj) I.kIn J e (fun z => nomatch z) fun tk => ⟨.bl b, H, I.kept (t' := tk) fun _ _ z => z, rfl, q⟩

/-- e.f where the written part is told -/
theorem pe_fldK {X : Cx} {K : PySem.W.Frag} {e : Expr} {f : Str} {ta : TE} {pos : Pos} (hK : X.K = K) (he : PE X e ta) (hb : attributeBase e f X.env (eval e X.env) = eval e X.env) : PE X (.Attribute e f pos) (tFld K ta f) := by
  subst hK
  exact pe_fld he hb
/-- list(xs) where the written part is told -/
def rListOf (K : PySem.W.Frag) : List V → Hp → VK → Prop := fun zs H Q => ∃ (p : Addr) (ys : List V), zs = [V.ref p] ∧ (SqL K H p ys ∨ SqT K H p ys) ∧ (∀ l : Addr, H l = none → Q (.ref l) (upd H l (.lst ys)))
theorem cr_listK {X : Cx} {K : PySem.W.Frag} (hK : X.K = K) : CallR X (.type "list") (rListOf K) := by
  subst hK
  exact call_list_of
/-- len of a list or tuple where the written part is told -/
def rLenOf (K : PySem.W.Frag) : List V → Hp → VK → Prop := fun zs H Q => ∃ (p : Addr) (ys : List V), zs = [V.ref p] ∧ (SqL K H p ys ∨ SqT K H p ys) ∧ Q (.int (ys.length : Int)) H
theorem cr_lenK {X : Cx} {K : PySem.W.Frag} (hK : X.K = K) : CallR X (.builtin "len") (rLenOf K) := by
  subst hK
  exact call_len_seq
/-- o.m(e, ..), m of a built-in type, where the written part is told -/
theorem pe_bmK {X : Cx} {K : PySem.W.Frag} {T id : String} {name : Str} {r : V → List V → Hp → VK → Prop} {o e : Expr} {es : List Expr} {to : TE} {t : TA} {apos cpos : Pos} (hK : X.K = K) (pa : PySem.PlainAttrs T) (slot : PySem.Slot T name id) (hty : typeOf (.builtin id) = pure (.type "method_descriptor")) (hm : MtR X id r) (ho : PE X o to) (ha : PA X (e :: es) t)
    (hbase : attributeBase o name X.env (eval o X.env) = eval o X.env := by rfl)
    (hfew : ((backTo cpos (starEach (e :: es) X.env)).all (fun x => !x.1) && (backToKw cpos (keywordEach [] X.env)).all (fun x => x.1.isSome)
      && decide ((e :: es).length + ([] : List Keyword).length + (if ([] : List Keyword).isEmpty then 0 else 1) < 30)) = true := by rfl)
    (hline : (apos.endLine == cpos.line) = true := by rfl) (hs : starEach (e :: es) X.env = (false, eval e X.env) :: starEach es X.env := by rfl) (hplain : (backTo cpos (starEach es X.env)).any (·.1) = false := by rfl) :
    PE X (.Call (.Attribute o name apos) (e :: es) [] cpos) (tBM K T r to t) := by
  subst hK
  exact pe_bm pa slot hty hm ho ha hbase hfew hline hs hplain

structure TxtE (w : World) (K : PySem.W.Frag) (mg : Str → Option Value) (a : Ads) : Prop where
  g_MARKS : mg "MARKS" = some (.ref a.P_MARKS)
  tab_MARKS : KTab K w a.P_MARKS [("p", a.M_MARKS_p), ("w", a.M_MARKS_w), ("d", a.M_MARKS_d), ("k", a.M_MARKS_k)]
  s_MARKS_p : ∀ H, SqT K H a.M_MARKS_p [V.str "p", V.str "q", V.str "r"]
  s_MARKS_w : ∀ H, SqT K H a.M_MARKS_w [V.str "w", V.str "x"]
  s_MARKS_d : ∀ H, SqT K H a.M_MARKS_d [V.str "d", V.str "z"]
  s_MARKS_k : ∀ H, SqT K H a.M_MARKS_k [V.str "k", V.str "b", V.str "v"]
  g_BadCommand : mg "BadCommand" = some (.ref a.C_BadCommand)
  x_BadCommand : PySem.W.excIn K a.C_BadCommand [.type "ValueError", .type "Exception", .type "BaseException", .type "object"] "ValueError.__new__" = true
  kc_BadCommand : PySem.W.keepIn K (.ref a.C_BadCommand) = true
  b_BadCommand : PySem.W.subIn K (.ref a.C_BadCommand) (.type "BaseException") = some true
  t_BadCommand : PySem.W.typeIn K (.ref a.C_BadCommand) = some (.type "type")
  xc_BadCommand : XcC K a.C_BadCommand
  exm_BadCommand_BadCommand : PySem.W.exmOne K (.ref a.C_BadCommand) (.ref a.C_BadCommand) = some true
  g_BadLine : mg "BadLine" = some (.ref a.C_BadLine)
  g_TribunalError : mg "TribunalError" = some (.ref a.C_TribunalError)
  exm_TribunalError_BadCommand : PySem.W.exmOne K (.ref a.C_BadCommand) (.ref a.C_TribunalError) = some true
  kt_BadCommand_BadCommand : PySem.W.kitOne K (.ref a.C_BadCommand) (.ref a.C_BadCommand) = some true
  kt_BadCommand_BadLine : PySem.W.kitOne K (.ref a.C_BadCommand) (.ref a.C_BadLine) = some false

/-- a command -/
inductive Cm where
  | p (a b c : Int)
  | w (a b : Int)
  | k (a b c : Int)
  | d (a : Int) (code : Str)
def nu (i : Int) : Str := Str.ofString (toString i)
def Cm.ki : Cm → Str
  | .p _ _ _ => "p"
  | .w _ _ => "w"
  | .k _ _ _ => "k"
  | .d _ _ => "d"
def Cm.ps : Cm → List V
  | .p a b c => [.int a, .int b, .int c]
  | .w a b => [.int a, .int b]
  | .k a b c => [.int a, .int b, .int c]
  | .d a s => [.int a, .str s]
def Cm.txt : Cm → Str
  | .p a b c => "p" ++ nu a ++ "q" ++ nu b ++ "r" ++ nu c
  | .w a b => "w" ++ nu a ++ "x" ++ nu b
  | .k a b c => "k" ++ nu a ++ "b" ++ nu b ++ "v" ++ nu c
  | .d a s => "d" ++ nu a ++ "z" ++ s ++ "z"
/-- what stands before each part -/
def Cm.ms : Cm → List Str
  | .p _ _ _ => ["p", "q", "r"]
  | .w _ _ => ["w", "x"]
  | .k _ _ _ => ["k", "b", "v"]
  | .d _ _ => ["d", "z"]
def Cm.ma (a : Ads) : Cm → Addr
  | .p _ _ _ => a.M_MARKS_p
  | .w _ _ => a.M_MARKS_w
  | .k _ _ _ => a.M_MARKS_k
  | .d _ _ => a.M_MARKS_d
/-- each part behind its mark -/
def Cm.bits : Cm → List Str
  | .p a b c => ["p" ++ nu a, "q" ++ nu b, "r" ++ nu c]
  | .w a b => ["w" ++ nu a, "x" ++ nu b]
  | .k a b c => ["k" ++ nu a, "b" ++ nu b, "v" ++ nu c]
  | .d a s => ["d" ++ nu a, "z" ++ s]
/-- a part as a text -/
def paT : V → Str
  | .int i => nu i
  | .str s => s
  | _ => Str.empty
def CmAt (H : Hp) (p : Addr) (c : Cm) : Prop := H p = some (.tup (.str c.ki :: c.ps))
def NOk (i : Int) : Prop := 0 ≤ i ∧ i ≤ 999999
/-- a number that may stand in a command tuple -/
def WOk (i : Int) : Prop := -1000 ≤ i ∧ i ≤ 2000000
theorem NOk.w {i : Int} (h : NOk i) : WOk i := ⟨by have := h.1; omega, by have := h.2; omega⟩
def Cm.ok : Cm → Prop
  | .p a b c => WOk a ∧ WOk b ∧ WOk c
  | .w a b => WOk a ∧ WOk b
  | .k a b c => WOk a ∧ WOk b ∧ WOk c
  | .d a s => WOk a ∧ s.length ≤ 250 ∧ PyData.strOk s = true
def spText (K : PySem.W.Frag) : Sp := fun vs H Q _ => ∃ (p : Addr) (c : Cm), vs = [.ref p] ∧ CmAt H p c ∧ c.ok ∧ ∀ H', Same H H' → Q (.str c.txt) H'
def spCell (K : PySem.W.Frag) : Sp := fun vs H Q _ => ∃ (a : Addr) (ns : List Int) (k : Int), vs = [.ref a, .int k] ∧ SqL K H a (ns.map V.int) ∧ ns.length ≤ 63 ∧ 0 ≤ k ∧ Q (.int (ns.getD k.toNat 0)) H
def spRow (K : PySem.W.Frag) : Sp := fun vs H Q _ => ∃ (cell count size : Int), vs = [.int cell, .int count, .int size] ∧ 0 ≤ count ∧ count ≤ 1000 ∧ 0 < size ∧ size < 1000 ∧
  ∀ p (row : List Int) H', Same H H' → H' p = some (.lst (row.map V.int)) → row.length = count.toNat → (∀ x ∈ row, 0 ≤ x ∧ x < size) → H p = none → Q (.ref p) H'
def spIsInt (K : PySem.W.Frag) : Sp := fun vs H Q _ => ∃ i : Int, vs = [.int i] ∧ Q (.bl true) H
def spNumber : Sp := fun vs H Q _ => ∃ c : Int, vs = [.int c] ∧ ∀ v, NOk v → Q (.int v) H
def spPlace : Sp := fun vs H Q _ => ∃ c : Int, vs = [.int c] ∧ ∀ v, NOk v → Q (.int v) H
/-- the signs of programs -/
def Sgn (z : Str) : Prop := ∀ n ∈ TL.tl z, n ∈ TL.tl "0123456789ginasmtcehlujfyo"
def spCode : Sp := fun vs H Q _ => ∃ c : Int, vs = [.int c] ∧ ∀ (z : Str) H', Same H H' → z.length ≤ 12 → Sgn z → Q (.str z) H'
/-- a command that a text writes -/
def Cm.right : Cm → Prop
  | .p a b c => NOk a ∧ NOk b ∧ NOk c
  | .w a b => NOk a ∧ NOk b
  | .k a b c => NOk a ∧ NOk b ∧ NOk c
  | .d a s => NOk a ∧ Sgn s
/-- a command that the law makes -/
def Cm.good : Cm → Prop
  | .p a b c => NOk a ∧ NOk b ∧ NOk c
  | .w a b => NOk a ∧ NOk b
  | .k a b c => NOk a ∧ NOk b ∧ NOk c
  | .d a s => NOk a ∧ s.length ≤ 12 ∧ Sgn s
theorem strOk_cps {x : Str} (h : ∀ c ∈ TL.tl x, c < 1114112) : PyData.strOk x = true := by
  unfold PyData.strOk
  rw [← Array.all_toList]
  exact List.all_eq_true.mpr fun c hc => decide_eq_true (h c hc)
theorem Sgn.ok {z : Str} (h : Sgn z) : PyData.strOk z = true := strOk_cps fun c hc => by
  have : ∀ c ∈ TL.tl "0123456789ginasmtcehlujfyo", c < 1114112 := by decide +kernel
  exact this c (h c hc)
theorem Cm.good.ok : ∀ {c : Cm}, c.good → c.ok
  | .p _ _ _, h => ⟨h.1.w, h.2.1.w, h.2.2.w⟩
  | .w _ _, h => ⟨h.1.w, h.2.w⟩
  | .k _ _ _, h => ⟨h.1.w, h.2.1.w, h.2.2.w⟩
  | .d _ _, h => ⟨h.1.w, Nat.le_trans h.2.1 (by decide), h.2.2.ok⟩
theorem Cm.good.right : ∀ {c : Cm}, c.good → c.right
  | .p _ _ _, h => h
  | .w _ _, h => h
  | .k _ _ _, h => h
  | .d _ _, h => ⟨h.1, h.2.2⟩
def spMake : Sp := fun vs H Q _ => ∃ c m : Int, vs = [.int c, .int m] ∧ ∀ (p : Addr) (x : Cm) H', Same H H' → H p = none → CmAt H' p x → x.good → Q (.ref p) H'
instance : Inhabited Cm := ⟨.w 0 0⟩
def CmsAt (H : Hp) (ps : List Addr) (cs : List Cm) : Prop := ps.length = cs.length ∧ ∀ i, i < cs.length → CmAt H (ps.getD i 0) (cs.getD i default)
theorem CmsAt.same {H H' : Hp} {ps : List Addr} {cs : List Cm} (h : CmsAt H ps cs) (s : Same H H') : CmsAt H' ps cs := ⟨h.1, fun i hi => s _ _ (h.2 i hi)⟩
/-- the texts one behind the other -/
def cat (cs : List Cm) : Str := cs.foldl (fun z c => z ++ c.txt) Str.empty
theorem cat_snoc (cs : List Cm) (c : Cm) : cat (cs ++ [c]) = cat cs ++ c.txt := by
  unfold cat
  rw [List.foldl_append]
  rfl
/-- the first n commands fit, and no more do -/
def Fit (cs : List Cm) (n : Nat) : Prop := n ≤ cs.length ∧ (∀ j, j ≤ n → (cat (cs.take j)).length ≤ 60) ∧ (n < cs.length → 60 < (cat (cs.take (n + 1))).length)
theorem Fit.one {cs : List Cm} {m n : Nat} (h : Fit cs m) (g : Fit cs n) : m = n := by
  obtain ⟨a1, a2, a3⟩ := h
  obtain ⟨b1, b2, b3⟩ := g
  rcases Nat.lt_trichotomy m n with c | c | c
  · have := a3 (by omega)
    have := b2 (m + 1) c
    omega
  · exact c
  · have := b3 (by omega)
    have := a2 (n + 1) c
    omega
def spFitting (K : PySem.W.Frag) : Sp := fun vs H Q _ => ∃ (l : Addr) (ps : List Addr) (cs : List Cm), vs = [.ref l] ∧ H l = some (.lst (ps.map V.ref)) ∧ CmsAt H ps cs ∧ cs.length ≤ 100 ∧ (∀ c ∈ cs, c.ok) ∧
  ∀ (q tk : Addr) (n : Nat) H', Same H H' → H' q = some (.tup [.str (cat (cs.take n)), .ref tk]) → H' tk = some (.lst ((ps.take n).map V.ref)) → Fit cs n → Q (.ref q) H'
def spBlock (K : PySem.W.Frag) : Sp := fun vs H Q _ => ∃ (l : Addr) (ps : List Addr) (cs : List Cm), vs = [.ref l] ∧ H l = some (.lst (ps.map V.ref)) ∧ CmsAt H ps cs ∧ cs.length ≤ 100 ∧ (∀ c ∈ cs, c.ok) ∧
  ∀ (q : Addr) (n : Nat) H', Same H H' → H' q = some (.tup [.str (cat (cs.take n)), .int (n : Int)]) → Fit cs n → Q (.ref q) H'
def spChanged : Sp := fun vs H Q _ => ∃ (z : Str) (w : Int), vs = [.str z, .int w] ∧ z.length ≤ 60 ∧ ∀ z2 : Str, z2.length ≤ 200 → Q (.str z2) H
/-- a reader of z that stands at i -/
def RdAt (C : Addr) (H : Hp) (p : Addr) (z : Str) (i : Nat) : Prop := ∃ dx, H p = some (.ins C dx [("text", .str z), ("at", .int (i : Int))])
/-- how many signs from i on are allowed -/
def runL (al : List Nat) : List Nat → Nat
  | [] => 0
  | c :: r => if c ∈ al then runL al r + 1 else 0
def spRInit (C : Addr) : Sp := fun vs H Q _ => ∃ (p dx : Addr) (z : Str), vs = [.ref p, .str z] ∧ H p = some (.ins C dx []) ∧ ∀ H', RdAt C H' p z 0 → (∀ b o, b ≠ p → H b = some o → H' b = some o) → Q .non H'
def spSigns (C : Addr) : Sp := fun vs H Q _ => ∃ (p : Addr) (z al : Str) (i : Nat), vs = [.ref p, .str al] ∧ RdAt C H p z i ∧ z.length ≤ 1000 ∧ i ≤ z.length ∧
  ∀ H', RdAt C H' p z (i + runL (TL.tl al) ((TL.tl z).drop i)) → (∀ b o, b ≠ p → H b = some o → H' b = some o) → Q (.str ⟨(((TL.tl z).drop i).take (runL (TL.tl al) ((TL.tl z).drop i))).toArray⟩) H'
def spSkip (C CE : Addr) : Sp := fun vs H Q E => ∃ (p : Addr) (z : Str) (c i : Nat), vs = [.ref p, .str ⟨#[c]⟩] ∧ RdAt C H p z i ∧ z.length ≤ 1000 ∧ i ≤ z.length ∧
  ((TL.tl z)[i]? = some c → ∀ H', RdAt C H' p z (i + 1) → (∀ b o, b ≠ p → H b = some o → H' b = some o) → Q .non H') ∧
  ((TL.tl z)[i]? ≠ some c → E (.ref CE) none H)
/-- the digits that stand at i -/
def digsAt (z : Str) (i : Nat) : List Nat := ((TL.tl z).drop i).take (runL (TL.tl "0123456789") ((TL.tl z).drop i))
/-- a right number -/
def NumW (w : List Nat) : Prop := 1 ≤ w.length ∧ w.length ≤ 6 ∧ ¬ (w.head? = some 48 ∧ w ≠ [48])
def spNumR (C CE : Addr) : Sp := fun vs H Q E => ∃ (p : Addr) (z : Str) (i : Nat), vs = [.ref p] ∧ RdAt C H p z i ∧ z.length ≤ 1000 ∧ i ≤ z.length ∧
  (NumW (digsAt z i) → ∀ H', RdAt C H' p z (i + (digsAt z i).length) → (∀ b o, b ≠ p → H b = some o → H' b = some o) → Q (.int (NumText.digitsVal (digsAt z i) : Nat)) H') ∧
  (¬ NumW (digsAt z i) → ∀ H', (∀ b o, b ≠ p → H b = some o → H' b = some o) → E (.ref CE) none H')
def spLaw (K : PySem.W.Frag) : Sp := fun vs H Q _ => ∃ (a : Addr) (ns : List Int), vs = [.ref a] ∧ SqL K H a (ns.map V.int) ∧ ns.length ≤ 63 ∧ ∀ H', Q (.bl true) H'

section
local macro_rules | `(tactic| walk_at "r1") => `(tactic| first
  | refine ⟨_, rfl, ?_⟩
  | refine ⟨_, _, rfl, rfl, (by show (0 : Int) < _; first | decide | omega), ?_⟩
  | refine ⟨_, _, rfl, rfl, (show CDiv _ _ from ⟨by decide, by decide⟩), ?_⟩
  | refine ⟨_, _, rfl, rfl, (show CMul _ _ from .inl ⟨by decide, by decide⟩), ?_⟩
  | refine ⟨_, _, rfl, rfl, (show CMul _ _ from .inr ⟨by decide, by decide⟩), ?_⟩
  | refine ⟨_, _, rfl, rfl, (show CPow _ _ from ⟨by decide, by decide, by decide⟩), ?_⟩
  | refine ⟨_, _, rfl, rfl, ?_⟩
  | refine ⟨_, _, _, _, rfl, rfl, SqT.of (by assumption), by first | exact at0 _ | exact at1 _ | exact at2 _ | exact at3 _ | exact at4 _ (by assumption), ?_⟩
  | refine ⟨scal_oS _ _, ?_⟩
  | refine .inl ⟨_, rfl, ?_⟩
  | refine ⟨rfl, ?_⟩)
local macro_rules | `(tactic| walk_at "rs") => `(tactic| repeat walk_at "r1")

variable {P : Program} {w : World} {K : PySem.W.Frag} {mg : Str → Option Value} {base : Heap} {a : Ads}
theorem getD_mem {zs : List Int} {i : Nat} (h : i < zs.length) : zs.getD i 0 ∈ zs := by
  rw [List.getD_eq_getElem?_getD, List.getElem?_eq_getElem h]
  exact List.getElem_mem h
theorem at_ints {zs : List Int} {i : Nat} (h : i < zs.length) : (zs.map V.int)[i]? = some (.int (zs.getD i 0)) := by
  rw [List.getElem?_map, List.getD_eq_getElem?_getD, List.getElem?_eq_getElem h]
  rfl

theorem nu_tl {i : Int} (h : NOk i) : TL.tl (nu i) = TL.numL i.toNat := by
  unfold nu
  rw [← TL.tl_num, Int.toNat_of_nonneg h.1]
theorem nu_neg {n : Nat} : TL.tl (nu (Int.negSucc n)) = 45 :: TL.numL (n + 1) := by
  unfold nu
  rw [TL.tl_ofString]
  show (("-" ++ (n + 1).repr).toList.map Char.toNat) = _
  rw [String.toList_append, List.map_append]
  unfold TL.numL Nat.repr
  simp
theorem nu_len {i : Int} (h : WOk i) : (nu i).length ≤ 7 := by
  obtain ⟨h0, h1⟩ := id h
  rw [TL.len_tl]
  cases i with
  | ofNat n =>
    show (TL.tl (Str.ofString (toString ((n : Nat) : Int)))).length ≤ 7
    rw [TL.tl_num]
    exact TL.numL_len (k := 7) (by decide) (by have : ((n : Nat) : Int) ≤ 2000000 := h1; omega)
  | negSucc n =>
    rw [nu_neg, List.length_cons]
    have : n + 1 ≤ 1000 := by omega
    have := TL.numL_len (n := n + 1) (k := 4) (by decide) (by omega)
    omega
theorem nu_log {i : Int} (h : WOk i) : i.natAbs.log2 < 1920 := by
  obtain ⟨h0, h1⟩ := h
  rcases Nat.eq_zero_or_pos i.natAbs with z | z
  · rw [z]
    decide
  · have : i.natAbs.log2 < 30 := (Nat.log2_lt (Nat.ne_of_gt z)).mpr (by omega)
    omega
theorem bits_len {c : Cm} (ok : c.ok) : (c.bits.map fun x => x.length).sum ≤ 270 := by
  cases c with
  | p a b d =>
    obtain ⟨o1, o2, o3⟩ := ok
    have := nu_len o1
    have := nu_len o2
    have := nu_len o3
    simp only [Cm.bits, List.map, List.sum_cons, List.sum_nil, PySem.Str.length_append]
    have l1 : ("p" : Str).length = 1 := rfl
    have l2 : ("q" : Str).length = 1 := rfl
    have l3 : ("r" : Str).length = 1 := rfl
    omega
  | w a b =>
    obtain ⟨o1, o2⟩ := ok
    have := nu_len o1
    have := nu_len o2
    simp only [Cm.bits, List.map, List.sum_cons, List.sum_nil, PySem.Str.length_append]
    have l1 : ("w" : Str).length = 1 := rfl
    have l2 : ("x" : Str).length = 1 := rfl
    omega
  | k a b d =>
    obtain ⟨o1, o2, o3⟩ := ok
    have := nu_len o1
    have := nu_len o2
    have := nu_len o3
    simp only [Cm.bits, List.map, List.sum_cons, List.sum_nil, PySem.Str.length_append]
    have l1 : ("k" : Str).length = 1 := rfl
    have l2 : ("b" : Str).length = 1 := rfl
    have l3 : ("v" : Str).length = 1 := rfl
    omega
  | d a s =>
    obtain ⟨o1, o2, o3⟩ := ok
    have := nu_len o1
    simp only [Cm.bits, List.map, List.sum_cons, List.sum_nil, PySem.Str.length_append]
    have l1 : ("d" : Str).length = 1 := rfl
    have l2 : ("z" : Str).length = 1 := rfl
    omega
theorem cps_nil : (Str.ofString "").cps = #[] := rfl
theorem join_nil_len : ∀ l : List Str, (Str.join "" l).length = (l.map fun x => x.length).sum
  | [] => rfl
  | [x] => by simp [Str.join]
  | x :: y :: r => by
    have ih := join_nil_len (y :: r)
    show ((x ++ "") ++ Str.join "" (y :: r)).length = _
    rw [PySem.Str.length_append, PySem.Str.length_append, ih]
    rfl
theorem bit_at {c : Cm} {i : Nat} {x y : V} (hx : (c.ms.map V.str)[i]? = some x) (hy : c.ps[i]? = some y) (ok : c.ok) :
    ∃ m, x = .str m ∧ m.length = 1 ∧ ((∃ n, y = .int n ∧ WOk n ∧ c.bits[i]? = some (m ++ nu n)) ∨ ∃ s, y = .str s ∧ s.length ≤ 250 ∧ c.bits[i]? = some (m ++ s)) := by
  cases c with
  | p a b d =>
    obtain ⟨o1, o2, o3⟩ := ok
    match i, hx, hy with
    | 0, hx, hy => cases hx; cases hy; exact ⟨_, rfl, rfl, .inl ⟨_, rfl, o1, rfl⟩⟩
    | 1, hx, hy => cases hx; cases hy; exact ⟨_, rfl, rfl, .inl ⟨_, rfl, o2, rfl⟩⟩
    | 2, hx, hy => cases hx; cases hy; exact ⟨_, rfl, rfl, .inl ⟨_, rfl, o3, rfl⟩⟩
    | i + 3, hx, hy => simp [Cm.ps] at hy
  | w a b =>
    obtain ⟨o1, o2⟩ := ok
    match i, hx, hy with
    | 0, hx, hy => cases hx; cases hy; exact ⟨_, rfl, rfl, .inl ⟨_, rfl, o1, rfl⟩⟩
    | 1, hx, hy => cases hx; cases hy; exact ⟨_, rfl, rfl, .inl ⟨_, rfl, o2, rfl⟩⟩
    | i + 2, hx, hy => simp [Cm.ps] at hy
  | k a b d =>
    obtain ⟨o1, o2, o3⟩ := ok
    match i, hx, hy with
    | 0, hx, hy => cases hx; cases hy; exact ⟨_, rfl, rfl, .inl ⟨_, rfl, o1, rfl⟩⟩
    | 1, hx, hy => cases hx; cases hy; exact ⟨_, rfl, rfl, .inl ⟨_, rfl, o2, rfl⟩⟩
    | 2, hx, hy => cases hx; cases hy; exact ⟨_, rfl, rfl, .inl ⟨_, rfl, o3, rfl⟩⟩
    | i + 3, hx, hy => simp [Cm.ps] at hy
  | d a s =>
    obtain ⟨o1, o2, o3⟩ := ok
    match i, hx, hy with
    | 0, hx, hy => cases hx; cases hy; exact ⟨_, rfl, rfl, .inl ⟨_, rfl, o1, rfl⟩⟩
    | 1, hx, hy => cases hx; cases hy; exact ⟨_, rfl, rfl, .inr ⟨_, rfl, o2, rfl⟩⟩
    | i + 2, hx, hy => simp [Cm.ps] at hy
theorem ok_command_text (TE : TxtE w K mg a) (T : Txt K mg a) : ∃ fd, FnOk P w K mg base CX0 1 a.d_command_text fd ["command"] (spText K) ∧ Binds K fd ["command"] [] := by
  obtain ⟨fd, F, b⟩ := T.d_command_text.F
  refine ⟨fd, F.ok sc_command_text (fun vs H Q E h => ?_) (fun cdv A outer s H vs Q E hr h => ?_), b⟩
  · obtain ⟨_, _, rfl, _⟩ := h
    rfl
  · obtain ⟨p, c, rfl, hp, ok, k⟩ := h
    refine ⟨_, (pss_cons (ps_asg (pv 0) (pg_starT rfl (pgs_cons (pg_name (i := 1) sc_command_text.nd rfl (Or.inl rfl)) (pgs_cons (pg_name (i := 2) sc_command_text.nd rfl (Or.inl rfl)) pgs_nil))))
      (pss_cons (ps_set (i := 3) sc_command_text.nd rfl (Or.inl rfl) (pe_join pe_str (pe_lc (own := [("mark", 4), ("part", 5)]) (g := (gTup K 2 (gCons (gName 4) (gCons (gName 5) gNil)))) (tt := tYes) rfl sc_command_text.nd (pi_mix (by rfl) T.n_zip (pa_cons (pe_ix ix_kdict (pe_glob (v := .ref a.P_MARKS) rfl TE.g_MARKS rfl) (pv 1) (fun _ _ => rfl)) (pa_cons (pv 2) pa_nil))) (blkOk_by (own := [("mark", 4), ("part", 5)]) (N := sc_command_text_N) (sc := defScope s_command_text) (by decide +kernel)) (fun _ _ _ _ _ => (pg_tup rfl (pgs_cons (pg_name (i := 4) sc_command_text.nd rfl (Or.inl rfl)) (pgs_cons (pg_name (i := 5) sc_command_text.nd rfl (Or.inl rfl)) pgs_nil)))) (fun _ _ _ _ _ => pts_nil) (fun _ _ _ _ _ => (pe_joined (PJ.cons (pe_fmt (pv 4)) (PJ.cons (pe_fmt (pv 5)) PJ.nil)))))))
      (pss_cons (ps_if (pt_cmpR op_eq (pv 1) pe_str (nomark _))
      (pss_one (ps_ret (pe_op op_add_str (pv 3) (pe_glob (v := (.str "z")) rfl T.c_CODE_END.choose_spec ⟨_, rfl⟩))))
      pss_nil)
      (pss_one (ps_ret (pv 3)))))), ?_⟩
    walk_at "rs"
    have np : c.ps.length ≤ 3 := by cases c <;> simp [Cm.ps]
    refine ⟨p, _, _, rfl, SqT.of hp, by omega, fun q hq => ?_⟩
    have s1 : Same H (upd H q (.lst c.ps)) := same_new hq
    have h1 : (upd H q (.lst c.ps)) q = some (.lst c.ps) := upd_same
    generalize upd H q (.lst c.ps) = H1 at s1 h1 ⊢
    refine ⟨_, _, rfl, _, _, rfl, rfl, ?_⟩
    dsimp only
    refine ⟨⟨_, rfl⟩, ?_⟩
    walk_at "rs"
    have eget : [(("p" : Str), a.M_MARKS_p), ("w", a.M_MARKS_w), ("d", a.M_MARKS_d), ("k", a.M_MARKS_k)].lookup c.ki = some (c.ma a) := by
      cases c <;> rfl
    have hm : ∀ H, SqT K H (c.ma a) (c.ms.map V.str) := fun H => by
      cases c
      · exact TE.s_MARKS_p H
      · exact TE.s_MARKS_w H
      · exact TE.s_MARKS_k H
      · exact TE.s_MARKS_d H
    have lm : (c.ms.map V.str).length = c.ps.length := by cases c <;> rfl
    refine ⟨_, _, _, rfl, rfl, TE.tab_MARKS.get eget, ?_⟩
    walk_at "rs"
    refine ⟨_, _, _, _, rfl, hm _, SqL.of h1, ?_⟩
    intro D hD
    refine lc_mix (te := fun σ H Q => tJs [tFmt (tVar 4), tFmt (tVar 5)] Str.empty σ H fun out H1 => Q (.str out) H1) (K := K) (a := c.ma a) (b := q) (xs := c.ms.map V.str) (ys := c.ps) lm (fun i H2 => Same H1 H2 ∧ H2 D = some (.lst ((c.bits.take i).map V.str))) ⟨same_new hD, upd_same⟩ (fun i H2 ⟨s2, _⟩ => ⟨hm _, SqL.of (s2 _ _ h1)⟩) ?_ ?_
    · rintro i x y T2 H2 hx hy ⟨s2, hd⟩ hT2
      refine ⟨T2, _, rfl, SqT.of upd_same, rfl, ?_⟩
      obtain ⟨m, rfl, lenm, hb⟩ := bit_at hx hy ok
      have s3 : Same H2 (upd H2 T2 (.tup [V.str m, y])) := same_new hT2
      have hd3 := s3 _ _ hd
      generalize upd H2 T2 (.tup [V.str m, y]) = H3 at s3 hd3 ⊢
      have lt : (c.bits.take i).length ≤ 3 := by
        have := List.length_take_le' i c.bits
        have : c.bits.length ≤ 3 := by cases c <;> simp [Cm.bits]
        omega
      refine ⟨_, _, rfl, _, _, rfl, rfl, rfl, ?_⟩
      walk_at "rs"
      refine ⟨by rw [lenm]; decide, m, rfl, ?_, ?_⟩
      · rw [PySem.Str.empty_append, lenm]
        decide
      rw [PySem.Str.empty_append]
      rcases hb with ⟨n, rfl, hn, eb⟩ | ⟨z, rfl, hz, eb⟩
      · refine ⟨_, rfl, .inr ⟨n, rfl, nu_log hn, nu n, rfl, ?_, ?_⟩⟩
        · rw [PySem.Str.length_append, lenm, sizeLine_eq]
          have := nu_len hn
          omega
        · refine ⟨_, hd3, by rw [List.length_map]; exact small1000 (by omega), same_upd (s2.trans s3) hD, ?_⟩
          rw [upd_same, List.take_add_one, eb]
          simp
      · refine ⟨_, rfl, .inl ⟨z, rfl, by rw [sizeLine_eq]; omega, z, rfl, ?_, ?_⟩⟩
        · rw [PySem.Str.length_append, lenm, sizeLine_eq]
          omega
        · refine ⟨_, hd3, by rw [List.length_map]; exact small1000 (by omega), same_upd (s2.trans s3) hD, ?_⟩
          rw [upd_same, List.take_add_one, eb]
          simp
    · rintro H2 ⟨s2, hd⟩
      have et : c.bits.take (c.ms.map V.str).length = c.bits := by cases c <;> rfl
      rw [et] at hd
      walk_at "rs"
      refine ⟨_, _, c.bits, rfl, rfl, .inl (SqL.of hd), ?_, ?_⟩
      · have := bits_len ok
        have lb : c.bits.length ≤ 3 := by cases c <;> simp [Cm.bits]
        have l0 : ("" : Str).length = 0 := rfl
        rw [l0]
        omega
      have tl3 : (Txt.join "" c.bits).length ≤ 300 := by
        rw [TL.join_eq, join_nil_len]
        exact Nat.le_trans (bits_len ok) (by decide)
      walk_at "rs"
      refine ite2 (fun c1 => ?_) (fun c1 => ?_)
      · have c1 : c.ki = "d" := by simpa using c1
        walk_at "rs"
        refine ⟨by rw [sizeLine_eq]; exact Nat.le_trans (Nat.add_le_add tl3 (Nat.le_refl 1)) (by decide), ?_⟩
        have e : Txt.join "" c.bits ++ "z" = c.txt := by
          cases c with
          | d a s =>
            refine TL.ext_tl ?_
            rw [TL.join_eq, TL.tl_append, TL.tl_join]
            simp only [Cm.bits, Cm.txt, List.map, TL.joinL, TL.tl_append]
            simp [TL.tl, cps_nil]
          | _ => cases c1
        rw [e]
        exact k H2 (s1.trans s2)
      · have c1 : c.ki ≠ "d" := by simpa using c1
        walk_at "rs"
        have e : Txt.join "" c.bits = c.txt := by
          refine TL.ext_tl ?_
          rw [TL.join_eq, TL.tl_join]
          cases c with
          | d a s => exact absurd rfl c1
          | _ =>
            simp only [Cm.bits, Cm.txt, List.map, TL.joinL, TL.tl_append]
            simp [TL.tl, cps_nil]
        rw [e]
        exact k H2 (s1.trans s2)

theorem ok_law_cell (T : Txt K mg a) : ∃ fd, FnOk P w K mg base CX0 1 a.d_law_cell fd ["script", "k"] (spCell K) ∧ Binds K fd ["script", "k"] [] := by
  obtain ⟨fd, F, b⟩ := T.d_law_cell.F
  refine ⟨fd, F.ok sc_law_cell (fun vs H Q E h => ?_) (fun cdv A outer s H vs Q E hr h => ?_), b⟩
  · obtain ⟨a, ns, k, rfl, _⟩ := h
    rfl
  · obtain ⟨l, ns, k, rfl, hS, hl, hk, q⟩ := h
    refine ⟨_, (pss_cons (ps_if (pt_cmpR op_lt (pv 1) (pe_callB call_len_seq (by rfl) T.n_len PySem.boot_len (pa_cons (pv 0) pa_nil)) (nomark _))
      (pss_one (ps_ret (pe_ix ix_list (pv 0) (pv 1) (fun _ _ => rfl))))
      pss_nil)
      (pss_one (ps_ret pe_int))), ?_⟩
    refine ⟨_, rfl, _, rfl, l, _, rfl, .inl hS, _, _, rfl, rfl, _, rfl, ?_⟩
    refine ite2 (fun hlt => ?_) (fun hge => ?_)
    · have hlt : k < ((ns.map V.int).length : Int) := of_decide_eq_true hlt
      rw [List.length_map] at hlt
      have hj : k.toNat < ns.length := by omega
      have e : ns.getD k.toNat 0 = ns[k.toNat] := by rw [List.getD_eq_getElem?_getD, List.getElem?_eq_getElem hj]; rfl
      rw [e] at q
      refine ⟨_, rfl, _, rfl, l, _, k, .int ns[k.toNat], rfl, rfl, hS, at_of (j := k.toNat) (by omega) (by rw [List.getElem?_map, List.getElem?_eq_getElem hj]; rfl), q⟩
    · have hge : ¬ k < ((ns.map V.int).length : Int) := fun e => hge (decide_eq_true e)
      rw [List.length_map] at hge
      have e : ns.getD k.toNat 0 = 0 := by rw [List.getD_eq_getElem?_getD, List.getElem?_eq_none (by omega)]; rfl
      rw [e] at q
      exact q

theorem ok_law_row (T : Txt K mg a) : ∃ fd, FnOk P w K mg base CX0 1 a.d_law_row fd ["cell", "count", "size"] (spRow K) ∧ Binds K fd ["cell", "count", "size"] [] := by
  obtain ⟨fd, F, b⟩ := T.d_law_row.F
  refine ⟨fd, F.ok sc_law_row (fun vs H Q E h => ?_) (fun cdv A outer s H vs Q E hr h => ?_), b⟩
  · obtain ⟨_, _, _, rfl, _⟩ := h
    rfl
  · obtain ⟨cell, count, size, rfl, c0, c1, z0, z1, k⟩ := h
    refine ⟨_, (pss_cons (ps_set (i := 3) sc_law_row.nd rfl (Or.inl rfl) (pv 0))
      (pss_cons (ps_set (i := 4) sc_law_row.nd rfl (Or.inl rfl) (pe_lst pa_nil))
      (pss_cons (ps_for PassesOwn.never rfl (pi_range1 rfl T.n_range (pa_cons (pv 1) pa_nil)) (pg_name (i := 5) sc_law_row.nd rfl (Or.inl rfl))
      (pss_one (ps_if (pt_cmpR op_ge (pv 0) (pe_op op_pow pe_int pe_int) (nomark _))
        (pss_cons (ps_expr (pe_bm PySem.F.plainAttrs_list PySem.F.slot_list_append PySem.F.type_list_append mt_append (pv 4) (pa_cons (pe_op op_mod (pe_callTy call_int1 (by rfl) T.n_int (by decide +kernel) (pa_cons (pv 3) pa_nil)) (pv 2)) pa_nil)))
          (pss_one (ps_set (i := 3) sc_law_row.nd rfl (Or.inl rfl) (pe_op op_fdivN (pv 3) (pv 2)))))
        (pss_cons (ps_set (i := 3) sc_law_row.nd rfl (Or.inl rfl) (pe_op op_mod (pe_callTy call_int1 (by rfl) T.n_int (by decide +kernel) (pa_cons (pe_op op_add (pe_op op_mul (pv 3) pe_int) pe_int) pa_nil)) pe_int))
          (pss_one (ps_expr (pe_bm PySem.F.plainAttrs_list PySem.F.slot_list_append PySem.F.type_list_append mt_append (pv 4) (pa_cons (pe_op op_mod (pe_op op_mod (pe_callTy call_int1 (by rfl) T.n_int (by decide +kernel) (pa_cons (pe_op op_add (pe_op op_mul (pv 3) pe_int) (pe_op op_mul (pv 5) pe_int)) pa_nil)) pe_int) (pv 2)) pa_nil))))))))
      (pss_one (ps_ret (pv 4)))))), ?_⟩
    walk_at "rs"
    refine ⟨(by show 0 ≤ sizeLine; decide), fun p hp => ?_⟩
    walk_at "rs"
    refine ⟨(by show -(2 ^ 62 : Int) ≤ _; omega), (by show _ < (2 ^ 62 : Int); omega), ?_⟩
    refine for_range (lo := 0) (n := count.toNat) (fun i σ H2 => ∃ (st : Int) (row : List Int) (v5 : Option V), σ = [some (.int cell), some (.int count), some (.int size), some (.int st), some (.ref p), v5] ∧ Same H H2 ∧
      H2 p = some (.lst (row.map V.int)) ∧ row.length = i ∧ ∀ x ∈ row, 0 ≤ x ∧ x < size) ⟨_, [], _, rfl, same_new hp, upd_same, rfl, fun x hx => nomatch hx⟩ ?_ ?_
    · rintro i σ H2 hi ⟨st, row, v5, rfl, s2, hrow, hlen, hb⟩
      have fit : (row.map V.int).length < sizeLine := by
        rw [List.length_map]
        exact small1000 (by omega)
      have grow : ∀ z : Int, 0 ≤ z → z < size → ∀ x ∈ row ++ [z], 0 ≤ x ∧ x < size := fun z h0 h1 x hx => by
        rcases List.mem_append.mp hx with hx | hx
        · exact hb x hx
        · rw [List.mem_singleton.mp hx]
          exact ⟨h0, h1⟩
      walk_at "rs"
      refine ite2 (fun c1 => ?_) (fun c1 => ?_)
      · walk_at "rs"
        refine ⟨.inl ⟨rfl, _, SqL.of hrow⟩, ?_⟩
        walk_at "rs"
        refine ⟨p, _, _, rfl, rfl, hrow, fit, ?_⟩
        walk_at "rs"
        refine ⟨(show CDivN _ _ from ⟨by omega, by omega⟩), ?_⟩
        exact ⟨_, row ++ [st % size], _, rfl, same_upd s2 hp, by rw [upd_same]; simp, by simp [hlen], grow _ (Int.emod_nonneg _ (by omega)) (Int.emod_lt_of_pos _ z0)⟩
      · walk_at "rs"
        refine ⟨.inl ⟨rfl, _, SqL.of hrow⟩, ?_⟩
        walk_at "rs"
        refine ⟨p, _, _, rfl, rfl, hrow, fit, ?_⟩
        exact ⟨_, row ++ [((st * 48271 + 12345) % 2147483647 * 69621 + (i : Int) * 7919) % 2147483647 % size], _, rfl, same_upd s2 hp, by rw [upd_same]; simp, by simp [hlen], grow _ (Int.emod_nonneg _ (by omega)) (Int.emod_lt_of_pos _ z0)⟩
    · rintro σ H2 ⟨st, row, v5, rfl, s2, hrow, hlen, hb⟩
      walk_at "rs"
      exact k p row H2 s2 hrow hlen hb hp

theorem ok_law_number (T : Txt K mg a) : ∃ fd, FnOk P w K mg base CX0 1 a.d_law_number fd ["cell"] spNumber ∧ Binds K fd ["cell"] [] := by
  obtain ⟨fd, F, b⟩ := T.d_law_number.F
  refine ⟨fd, F.ok sc_law_number (fun vs H Q E h => ?_) (fun cdv A outer s H vs Q E hr h => ?_), b⟩
  · obtain ⟨_, rfl, _⟩ := h
    rfl
  · obtain ⟨c, rfl, k⟩ := h
    refine ⟨_, (pss_cons (ps_if (pt_cmpR op_eq (pe_op op_mod (pe_callTy call_int1 (by rfl) T.n_int (by decide +kernel) (pa_cons (pv 0) pa_nil)) pe_int) pe_int (nomark _))
      (pss_one (ps_ret (pe_op op_mod (pe_op op_fdiv (pv 0) pe_int) pe_int)))
      pss_nil)
      (pss_cons (ps_if (pt_cmpR op_eq (pe_op op_mod (pe_callTy call_int1 (by rfl) T.n_int (by decide +kernel) (pa_cons (pv 0) pa_nil)) pe_int) pe_int (nomark _))
      (pss_one (ps_ret (pe_op op_mod (pe_op op_fdiv (pv 0) pe_int) pe_int)))
      pss_nil)
      (pss_one (ps_ret (pe_op op_mod (pe_op op_fdiv (pv 0) pe_int) pe_int))))), ?_⟩
    have b1 := Int.emod_nonneg (c / 3) (show (6 : Int) ≠ 0 by decide)
    have b2 := Int.emod_lt_of_pos (c / 3) (show (0 : Int) < 6 by decide)
    have b3 := Int.emod_nonneg (c / 3) (show (1000 : Int) ≠ 0 by decide)
    have b4 := Int.emod_lt_of_pos (c / 3) (show (0 : Int) < 1000 by decide)
    have b5 := Int.emod_nonneg (c / 3) (show (1000000 : Int) ≠ 0 by decide)
    have b6 := Int.emod_lt_of_pos (c / 3) (show (0 : Int) < 1000000 by decide)
    walk_at "rs"
    refine ite2 (fun c1 => ?_) (fun c1 => ?_)
    · walk_at "rs"
      exact k _ ⟨b1, by omega⟩
    · walk_at "rs"
      refine ite2 (fun c1 => ?_) (fun c1 => ?_)
      · walk_at "rs"
        exact k _ ⟨b3, by omega⟩
      · walk_at "rs"
        exact k _ ⟨b5, by omega⟩
theorem ok_law_place (T : Txt K mg a) : ∃ fd, FnOk P w K mg base CX0 1 a.d_law_place fd ["cell"] spPlace ∧ Binds K fd ["cell"] [] := by
  obtain ⟨fd, F, b⟩ := T.d_law_place.F
  refine ⟨fd, F.ok sc_law_place (fun vs H Q E h => ?_) (fun cdv A outer s H vs Q E hr h => ?_), b⟩
  · obtain ⟨_, rfl, _⟩ := h
    rfl
  · obtain ⟨c, rfl, k⟩ := h
    refine ⟨_, (pss_cons (ps_if (pt_cmpR op_eq (pe_op op_mod (pe_op op_fdiv (pe_callTy call_int1 (by rfl) T.n_int (by decide +kernel) (pa_cons (pv 0) pa_nil)) pe_int) pe_int) pe_int (nomark _))
      (pss_one (ps_ret (pe_op op_add pe_int (pe_op op_mod (pe_op op_fdiv (pe_callTy call_int1 (by rfl) T.n_int (by decide +kernel) (pa_cons (pv 0) pa_nil)) pe_int) pe_int))))
      pss_nil)
      (pss_one (ps_ret (pe_op op_mod (pe_callTy call_int1 (by rfl) T.n_int (by decide +kernel) (pa_cons (pv 0) pa_nil)) pe_int)))), ?_⟩
    have b1 := Int.emod_nonneg c (show (6 : Int) ≠ 0 by decide)
    have b2 := Int.emod_lt_of_pos c (show (0 : Int) < 6 by decide)
    have b3 := Int.emod_nonneg (c / 30) (show (994 : Int) ≠ 0 by decide)
    have b4 := Int.emod_lt_of_pos (c / 30) (show (0 : Int) < 994 by decide)
    walk_at "rs"
    refine ite2 (fun c1 => ?_) (fun c1 => ?_)
    · walk_at "rs"
      exact k _ ⟨by omega, by omega⟩
    · walk_at "rs"
      exact k _ ⟨b1, by omega⟩
theorem sgn_ok : ∀ i : Fin 27, (TL.tl "0123456789gginasmtcehlujfyo").getD i.val 0 ∈ TL.tl "0123456789ginasmtcehlujfyo" := by decide +kernel
theorem sgn_len : (TL.tl "0123456789gginasmtcehlujfyo").length = 27 := by decide +kernel
theorem at_sign {l : List Nat} {i : Int} (h0 : 0 ≤ i) (h1 : i < l.length) : atI l i = some (l.getD i.toNat 0) := by
  have e : i = (i.toNat : Int) := by omega
  rw [e]
  refine atI_nat ?_
  rw [Int.toNat_natCast, List.getD_eq_getElem?_getD, List.getElem?_eq_getElem (by omega)]
  rfl
theorem ones_sum : ∀ {ys : List Str}, (∀ y ∈ ys, y.length = 1) → (ys.map fun x => x.length).sum = ys.length
  | [], _ => rfl
  | y :: ys, h => by
    rw [List.map_cons, List.sum_cons, ones_sum fun z hz => h z (List.mem_cons_of_mem _ hz), h y List.mem_cons_self, List.length_cons]
    omega
theorem join_sgn : ∀ {ys : List Str}, (∀ y ∈ ys, Sgn y) → ∀ n ∈ TL.joinL (TL.tl "") (ys.map TL.tl), n ∈ TL.tl "0123456789ginasmtcehlujfyo"
  | [], _, n, hn => by cases hn
  | [y], h, n, hn => h y List.mem_cons_self n hn
  | y :: z :: r, h, n, hn => by
    have hn : n ∈ TL.tl y ++ ([] ++ TL.joinL (TL.tl "") ((z :: r).map TL.tl)) := hn
    rw [List.nil_append] at hn
    rcases List.mem_append.mp hn with hn | hn
    · exact h y List.mem_cons_self n hn
    · exact join_sgn (fun u hu => h u (List.mem_cons_of_mem _ hu)) n hn
theorem ok_law_code (T : Txt K mg a) : ∃ fd, FnOk P w K mg base CX0 2 a.d_law_code fd ["cell"] spCode ∧ Binds K fd ["cell"] [] := by
  obtain ⟨fd, F, b⟩ := T.d_law_code.F
  obtain ⟨fd_law_row, G_law_row, b_law_row⟩ := ok_law_row (P := P) (w := w) (base := base) T
  refine ⟨fd, F.ok sc_law_code (fun vs H Q E h => ?_) (fun cdv A outer s H vs Q E hr h => ?_), b⟩
  · obtain ⟨_, rfl, _⟩ := h
    rfl
  · obtain ⟨c, rfl, k⟩ := h
    refine ⟨_, (pss_cons (ps_set (i := 1) sc_law_code.nd rfl (Or.inr rfl) pe_str)
      (pss_cons (ps_set (i := 2) sc_law_code.nd rfl (Or.inl rfl) (pe_call G_law_row (hr.mono (by decide)) rfl T.d_law_row.g T.d_law_row.kp b_law_row .nil pass0 (pa_cons (pe_op op_fdiv (pv 0) pe_int) (pa_cons (pe_op op_mod (pe_callTy call_int1 (by rfl) T.n_int (by decide +kernel) (pa_cons (pv 0) pa_nil)) pe_int) (pa_cons pe_int pa_nil)))))
      (pss_one (ps_ret (pe_join pe_str (pe_lc (own := [("digit", 3)]) (g := (gName 3)) (tt := tYes) rfl sc_law_code.nd (pi_list (pv 2)) (blkOk_by (own := [("digit", 3)]) (N := sc_law_code_N) (sc := defScope s_law_code) (by decide +kernel)) (fun _ _ _ _ _ => (pg_name (i := 3) sc_law_code.nd rfl (Or.inl rfl))) (fun _ _ _ _ _ => pts_nil) (fun _ _ _ _ _ => (pe_ix ix_str (pv 1) (pv 3) (fun _ _ => rfl))))))))), ?_⟩
    have b1 := Int.emod_nonneg c (show (13 : Int) ≠ 0 by decide)
    have b2 := Int.emod_lt_of_pos c (show (0 : Int) < 13 by decide)
    walk_at "rs"
    refine ⟨_, _, _, rfl, b1, by omega, by decide, by decide, fun D row H1 s1 hD lrow hrow _ => ?_⟩
    refine ⟨⟨_, rfl⟩, ?_⟩
    walk_at "rs"
    refine ⟨⟨_, SqL.of hD⟩, fun D2 hD2 => ?_⟩
    have lr : row.length ≤ 12 := by rw [lrow]; omega
    refine lc_list (K := K) (a := D) (xs := row.map V.int) (fun i H2 => Same H1 H2 ∧ ∃ ys : List Str, H2 D2 = some (.lst (ys.map V.str)) ∧ ys.length = i ∧ (∀ y ∈ ys, y.length = 1) ∧ ∀ y ∈ ys, Sgn y) ⟨same_new hD2, [], upd_same, rfl, fun y hy => absurd hy List.not_mem_nil, fun y hy => absurd hy List.not_mem_nil⟩ (fun i H2 _ ⟨s2, _⟩ => SqL.of (s2 _ _ hD)) ?_ ?_
    · rintro i y H2 hy ⟨s2, ys, hd, ly, l1, sg⟩
      have hi : i < row.length := by
        have e := (List.getElem?_eq_some_iff.mp hy).1
        rwa [List.length_map] at e
      rw [at_ints hi] at hy
      cases hy
      have hz := hrow _ (getD_mem hi)
      refine ⟨rfl, ?_⟩
      walk_at "rs"
      refine ⟨_, _, _, rfl, rfl, (by rw [sizeLine_eq]; decide +kernel), at_sign (l := TL.tl "0123456789gginasmtcehlujfyo") hz.1 (by rw [sgn_len]; omega), ?_⟩
      have hs := sgn_ok ⟨(row.getD i 0).toNat, by omega⟩
      refine ⟨_, hd, by rw [List.length_map]; exact small1000 (by omega), same_upd s2 hD2, ys ++ [⟨#[(TL.tl "0123456789gginasmtcehlujfyo").getD (row.getD i 0).toNat 0]⟩], by rw [upd_same, List.map_append]; rfl, by rw [List.length_append, ly]; rfl, fun y hy => ?_, fun y hy => ?_⟩
      · rcases List.mem_append.mp hy with hy | hy
        · exact l1 y hy
        · rw [List.mem_singleton.mp hy]
          rfl
      · rcases List.mem_append.mp hy with hy | hy
        · exact sg y hy
        · rw [List.mem_singleton.mp hy]
          intro n hn
          rw [TL.tl_mk, List.mem_singleton] at hn
          rw [hn]
          exact hs
    · rintro H2 ⟨s2, ys, hd, ly, l1, sg⟩
      walk_at "rs"
      refine ⟨_, _, ys, rfl, rfl, .inl (SqL.of hd), ?_, ?_⟩
      · have e : (ys.map fun x => x.length).sum = ys.length := ones_sum l1
        rw [List.length_map] at ly
        have l0 : ("" : Str).length = 0 := rfl
        rw [e, l0]
        omega
      · have e : (ys.map fun x => x.length).sum = ys.length := ones_sum l1
        rw [List.length_map] at ly
        refine k _ H2 (s1.trans s2) ?_ ?_
        · rw [TL.join_eq, join_nil_len, e]
          omega
        · intro n hn
          rw [TL.join_eq, TL.tl_join] at hn
          exact join_sgn sg n hn
theorem ok_law_command (T : Txt K mg a) : ∃ fd, FnOk P w K mg base CX0 3 a.d_law_command fd ["cell", "more"] spMake ∧ Binds K fd ["cell", "more"] [] := by
  obtain ⟨fd, F, b⟩ := T.d_law_command.F
  obtain ⟨fd_law_place, G_law_place, b_law_place⟩ := ok_law_place (P := P) (w := w) (base := base) T
  obtain ⟨fd_law_number, G_law_number, b_law_number⟩ := ok_law_number (P := P) (w := w) (base := base) T
  obtain ⟨fd_law_code, G_law_code, b_law_code⟩ := ok_law_code (P := P) (w := w) (base := base) T
  refine ⟨fd, F.ok sc_law_command (fun vs H Q E h => ?_) (fun cdv A outer s H vs Q E hr h => ?_), b⟩
  · obtain ⟨_, _, rfl, _⟩ := h
    rfl
  · obtain ⟨c, m, rfl, k⟩ := h
    refine ⟨_, (pss_cons (ps_set (i := 2) sc_law_command.nd rfl (Or.inl rfl) (pe_call G_law_place (hr.mono (by decide)) rfl T.d_law_place.g T.d_law_place.kp b_law_place .nil pass0 (pa_cons (pe_op op_fdiv (pv 0) pe_int) pa_nil)))
      (pss_cons (ps_if (pt_cmpR op_eq (pe_op op_mod (pe_callTy call_int1 (by rfl) T.n_int (by decide +kernel) (pa_cons (pv 0) pa_nil)) pe_int) pe_int (nomark _))
      (pss_one (ps_ret (pe_tup (pa_cons pe_str (pa_cons (pv 2) (pa_cons (pe_op op_mod (pe_callTy call_int1 (by rfl) T.n_int (by decide +kernel) (pa_cons (pv 1) pa_nil)) pe_int) pa_nil))))))
      pss_nil)
      (pss_cons (ps_if (pt_cmpR op_eq (pe_op op_mod (pe_callTy call_int1 (by rfl) T.n_int (by decide +kernel) (pa_cons (pv 0) pa_nil)) pe_int) pe_int (nomark _))
      (pss_one (ps_ret (pe_tup (pa_cons pe_str (pa_cons (pv 2) (pa_cons (pe_call G_law_code (hr.mono (by decide)) rfl T.d_law_code.g T.d_law_code.kp b_law_code .nil pass0 (pa_cons (pv 1) pa_nil)) pa_nil))))))
      pss_nil)
      (pss_cons (ps_if (pt_cmpR op_eq (pe_op op_mod (pe_callTy call_int1 (by rfl) T.n_int (by decide +kernel) (pa_cons (pv 0) pa_nil)) pe_int) pe_int (nomark _))
      (pss_one (ps_ret (pe_tup (pa_cons pe_str (pa_cons (pv 2) (pa_cons (pe_call G_law_place (hr.mono (by decide)) rfl T.d_law_place.g T.d_law_place.kp b_law_place .nil pass0 (pa_cons (pe_op op_fdiv (pv 0) pe_int) pa_nil)) (pa_cons (pe_call G_law_number (hr.mono (by decide)) rfl T.d_law_number.g T.d_law_number.kp b_law_number .nil pass0 (pa_cons (pv 1) pa_nil)) pa_nil)))))))
      pss_nil)
      (pss_one (ps_ret (pe_tup (pa_cons pe_str (pa_cons (pv 2) (pa_cons (pe_call G_law_place (hr.mono (by decide)) rfl T.d_law_place.g T.d_law_place.kp b_law_place .nil pass0 (pa_cons (pe_op op_fdiv (pv 0) pe_int) pa_nil)) (pa_cons (pe_call G_law_number (hr.mono (by decide)) rfl T.d_law_number.g T.d_law_number.kp b_law_number .nil pass0 (pa_cons (pv 1) pa_nil)) pa_nil))))))))))), ?_⟩
    have b1 := Int.emod_nonneg m (show (10 : Int) ≠ 0 by decide)
    have b2 := Int.emod_lt_of_pos m (show (0 : Int) < 10 by decide)
    walk_at "rs"
    intro one ho
    walk_at "rs"
    refine ite2 (fun c1 => ?_) (fun c1 => ?_)
    · walk_at "rs"
      refine ⟨(by show 3 ≤ sizeLine; decide), fun p hp => ?_⟩
      exact k p (.w one (m % 10)) _ (same_new hp) hp upd_same ⟨ho, b1, by omega⟩
    · walk_at "rs"
      refine ite2 (fun c2 => ?_) (fun c2 => ?_)
      · walk_at "rs"
        intro z H1 s1 lz sz
        walk_at "rs"
        refine ⟨(by show 3 ≤ sizeLine; decide), fun p hp => ?_⟩
        have hpH : H p = none := by
          cases e : H p with
          | none => rfl
          | some o => rw [s1 _ _ e] at hp; cases hp
        exact k p (.d one z) _ (same_upd s1 hpH) hpH upd_same ⟨ho, lz, sz⟩
      · walk_at "rs"
        refine ite2 (fun c3 => ?_) (fun c3 => ?_)
        · walk_at "rs"
          intro two ht
          walk_at "rs"
          intro n hn
          walk_at "rs"
          refine ⟨(by show 4 ≤ sizeLine; decide), fun p hp => ?_⟩
          exact k p (.k one two n) _ (same_new hp) hp upd_same ⟨ho, ht, hn⟩
        · walk_at "rs"
          intro two ht
          walk_at "rs"
          intro n hn
          walk_at "rs"
          refine ⟨(by show 4 ≤ sizeLine; decide), fun p hp => ?_⟩
          exact k p (.p one two n) _ (same_new hp) hp upd_same ⟨ho, ht, hn⟩
theorem ok_law_text (T : Txt K mg a) : ∃ fd, FnOk P w K mg base CX0 1 a.d_law_text fd ["command"] (spText K) ∧ Binds K fd ["command"] [] := by
  obtain ⟨fd, F, b⟩ := T.d_law_text.F
  refine ⟨fd, F.ok sc_law_text (fun vs H Q E h => ?_) (fun cdv A outer s H vs Q E hr h => ?_), b⟩
  · obtain ⟨_, _, rfl, _⟩ := h
    rfl
  · obtain ⟨p, c, rfl, hp, ok, k⟩ := h
    refine ⟨_, (pss_cons (ps_if (pt_cmpR op_eq (pe_ix ix_tup (pv 0) pe_int (fun _ _ => rfl)) pe_str (nomark _))
      (pss_one (ps_ret (pe_op op_add_str (pe_op op_add_str (pe_op op_add_str (pe_op op_add_str (pe_op op_add_str pe_str (pe_callTy call_str_int (by rfl) T.n_str (by decide +kernel) (pa_cons (pe_ix ix_tup (pv 0) pe_int (fun _ _ => rfl)) pa_nil))) pe_str) (pe_callTy call_str_int (by rfl) T.n_str (by decide +kernel) (pa_cons (pe_ix ix_tup (pv 0) pe_int (fun _ _ => rfl)) pa_nil))) pe_str) (pe_callTy call_str_int (by rfl) T.n_str (by decide +kernel) (pa_cons (pe_ix ix_tup (pv 0) pe_int (fun _ _ => rfl)) pa_nil)))))
      pss_nil)
      (pss_cons (ps_if (pt_cmpR op_eq (pe_ix ix_tup (pv 0) pe_int (fun _ _ => rfl)) pe_str (nomark _))
      (pss_one (ps_ret (pe_op op_add_str (pe_op op_add_str (pe_op op_add_str pe_str (pe_callTy call_str_int (by rfl) T.n_str (by decide +kernel) (pa_cons (pe_ix ix_tup (pv 0) pe_int (fun _ _ => rfl)) pa_nil))) pe_str) (pe_callTy call_str_int (by rfl) T.n_str (by decide +kernel) (pa_cons (pe_ix ix_tup (pv 0) pe_int (fun _ _ => rfl)) pa_nil)))))
      pss_nil)
      (pss_cons (ps_if (pt_cmpR op_eq (pe_ix ix_tup (pv 0) pe_int (fun _ _ => rfl)) pe_str (nomark _))
      (pss_one (ps_ret (pe_op op_add_str (pe_op op_add_str (pe_op op_add_str (pe_op op_add_str (pe_op op_add_str pe_str (pe_callTy call_str_int (by rfl) T.n_str (by decide +kernel) (pa_cons (pe_ix ix_tup (pv 0) pe_int (fun _ _ => rfl)) pa_nil))) pe_str) (pe_callTy call_str_int (by rfl) T.n_str (by decide +kernel) (pa_cons (pe_ix ix_tup (pv 0) pe_int (fun _ _ => rfl)) pa_nil))) pe_str) (pe_callTy call_str_int (by rfl) T.n_str (by decide +kernel) (pa_cons (pe_ix ix_tup (pv 0) pe_int (fun _ _ => rfl)) pa_nil)))))
      pss_nil)
      (pss_one (ps_ret (pe_op op_add_str (pe_op op_add_str (pe_op op_add_str (pe_op op_add_str pe_str (pe_callTy call_str_int (by rfl) T.n_str (by decide +kernel) (pa_cons (pe_ix ix_tup (pv 0) pe_int (fun _ _ => rfl)) pa_nil))) pe_str) (pe_ix ix_tup (pv 0) pe_int (fun _ _ => rfl))) pe_str)))))), ?_⟩
    cases c with
    | p x y z =>
      obtain ⟨o1, o2, o3⟩ := ok
      have hp' : H p = some (.tup [.str "p", .int x, .int y, .int z]) := hp
      have l0 : ("p" : Str).length = 1 := rfl
      have l1 : ("q" : Str).length = 1 := rfl
      have l2 : ("r" : Str).length = 1 := rfl
      have n0 : (Str.ofString (toString x)).length ≤ 7 := nu_len o1
      have n1 : (Str.ofString (toString y)).length ≤ 7 := nu_len o2
      have n2 : (Str.ofString (toString z)).length ≤ 7 := nu_len o3
      walk_at "rs"
      refine ⟨p, _, _, _, rfl, rfl, SqT.of hp', rfl, ?_⟩
      walk_at "rs"
      refine ⟨p, _, _, _, rfl, rfl, SqT.of hp', rfl, ?_⟩
      walk_at "rs"
      refine ⟨nu_log o1, ?_⟩
      walk_at "rs"
      refine ⟨(by rw [sizeLine_eq]; (try simp only [PySem.Str.length_append]); omega), ?_⟩
      walk_at "rs"
      refine ⟨(by rw [sizeLine_eq]; (try simp only [PySem.Str.length_append]); omega), ?_⟩
      walk_at "rs"
      refine ⟨p, _, _, _, rfl, rfl, SqT.of hp', rfl, ?_⟩
      walk_at "rs"
      refine ⟨nu_log o2, ?_⟩
      walk_at "rs"
      refine ⟨(by rw [sizeLine_eq]; (try simp only [PySem.Str.length_append]); omega), ?_⟩
      walk_at "rs"
      refine ⟨(by rw [sizeLine_eq]; (try simp only [PySem.Str.length_append]); omega), ?_⟩
      walk_at "rs"
      refine ⟨p, _, _, _, rfl, rfl, SqT.of hp', rfl, ?_⟩
      walk_at "rs"
      refine ⟨nu_log o3, ?_⟩
      walk_at "rs"
      refine ⟨(by rw [sizeLine_eq]; (try simp only [PySem.Str.length_append]); omega), ?_⟩
      walk_at "rs"
      exact k H (Same.refl H)
    | w x y =>
      obtain ⟨o1, o2⟩ := ok
      have hp' : H p = some (.tup [.str "w", .int x, .int y]) := hp
      have l0 : ("w" : Str).length = 1 := rfl
      have l1 : ("x" : Str).length = 1 := rfl
      have n0 : (Str.ofString (toString x)).length ≤ 7 := nu_len o1
      have n1 : (Str.ofString (toString y)).length ≤ 7 := nu_len o2
      walk_at "rs"
      refine ⟨p, _, _, _, rfl, rfl, SqT.of hp', rfl, ?_⟩
      walk_at "rs"
      refine ⟨p, _, _, _, rfl, rfl, SqT.of hp', rfl, ?_⟩
      walk_at "rs"
      refine ⟨p, _, _, _, rfl, rfl, SqT.of hp', rfl, ?_⟩
      walk_at "rs"
      refine ⟨nu_log o1, ?_⟩
      walk_at "rs"
      refine ⟨(by rw [sizeLine_eq]; (try simp only [PySem.Str.length_append]); omega), ?_⟩
      walk_at "rs"
      refine ⟨(by rw [sizeLine_eq]; (try simp only [PySem.Str.length_append]); omega), ?_⟩
      walk_at "rs"
      refine ⟨p, _, _, _, rfl, rfl, SqT.of hp', rfl, ?_⟩
      walk_at "rs"
      refine ⟨nu_log o2, ?_⟩
      walk_at "rs"
      refine ⟨(by rw [sizeLine_eq]; (try simp only [PySem.Str.length_append]); omega), ?_⟩
      walk_at "rs"
      exact k H (Same.refl H)
    | k x y z =>
      obtain ⟨o1, o2, o3⟩ := ok
      have hp' : H p = some (.tup [.str "k", .int x, .int y, .int z]) := hp
      have l0 : ("k" : Str).length = 1 := rfl
      have l1 : ("b" : Str).length = 1 := rfl
      have l2 : ("v" : Str).length = 1 := rfl
      have n0 : (Str.ofString (toString x)).length ≤ 7 := nu_len o1
      have n1 : (Str.ofString (toString y)).length ≤ 7 := nu_len o2
      have n2 : (Str.ofString (toString z)).length ≤ 7 := nu_len o3
      walk_at "rs"
      refine ⟨p, _, _, _, rfl, rfl, SqT.of hp', rfl, ?_⟩
      walk_at "rs"
      refine ⟨p, _, _, _, rfl, rfl, SqT.of hp', rfl, ?_⟩
      walk_at "rs"
      refine ⟨p, _, _, _, rfl, rfl, SqT.of hp', rfl, ?_⟩
      walk_at "rs"
      refine ⟨p, _, _, _, rfl, rfl, SqT.of hp', rfl, ?_⟩
      walk_at "rs"
      refine ⟨nu_log o1, ?_⟩
      walk_at "rs"
      refine ⟨(by rw [sizeLine_eq]; (try simp only [PySem.Str.length_append]); omega), ?_⟩
      walk_at "rs"
      refine ⟨(by rw [sizeLine_eq]; (try simp only [PySem.Str.length_append]); omega), ?_⟩
      walk_at "rs"
      refine ⟨p, _, _, _, rfl, rfl, SqT.of hp', rfl, ?_⟩
      walk_at "rs"
      refine ⟨nu_log o2, ?_⟩
      walk_at "rs"
      refine ⟨(by rw [sizeLine_eq]; (try simp only [PySem.Str.length_append]); omega), ?_⟩
      walk_at "rs"
      refine ⟨(by rw [sizeLine_eq]; (try simp only [PySem.Str.length_append]); omega), ?_⟩
      walk_at "rs"
      refine ⟨p, _, _, _, rfl, rfl, SqT.of hp', rfl, ?_⟩
      walk_at "rs"
      refine ⟨nu_log o3, ?_⟩
      walk_at "rs"
      refine ⟨(by rw [sizeLine_eq]; (try simp only [PySem.Str.length_append]); omega), ?_⟩
      walk_at "rs"
      exact k H (Same.refl H)
    | d x z =>
      obtain ⟨o1, o2, o3⟩ := ok
      have hp' : H p = some (.tup [.str "d", .int x, .str z]) := hp
      have l0 : ("d" : Str).length = 1 := rfl
      have l1 : ("z" : Str).length = 1 := rfl
      have n0 : (Str.ofString (toString x)).length ≤ 7 := nu_len o1
      walk_at "rs"
      refine ⟨p, _, _, _, rfl, rfl, SqT.of hp', rfl, ?_⟩
      walk_at "rs"
      refine ⟨p, _, _, _, rfl, rfl, SqT.of hp', rfl, ?_⟩
      walk_at "rs"
      refine ⟨p, _, _, _, rfl, rfl, SqT.of hp', rfl, ?_⟩
      walk_at "rs"
      refine ⟨p, _, _, _, rfl, rfl, SqT.of hp', rfl, ?_⟩
      walk_at "rs"
      refine ⟨nu_log o1, ?_⟩
      walk_at "rs"
      refine ⟨(by rw [sizeLine_eq]; (try simp only [PySem.Str.length_append]); omega), ?_⟩
      walk_at "rs"
      refine ⟨(by rw [sizeLine_eq]; (try simp only [PySem.Str.length_append]); omega), ?_⟩
      walk_at "rs"
      refine ⟨p, _, _, _, rfl, rfl, SqT.of hp', rfl, ?_⟩
      walk_at "rs"
      refine ⟨(by rw [sizeLine_eq]; (try simp only [PySem.Str.length_append]); omega), ?_⟩
      walk_at "rs"
      refine ⟨(by rw [sizeLine_eq]; (try simp only [PySem.Str.length_append]); omega), ?_⟩
      walk_at "rs"
      exact k H (Same.refl H)

theorem getD_mem3 {α : Type} {d : α} {xs : List α} {i : Nat} (h : i < xs.length) : xs.getD i d ∈ xs := by
  rw [List.getD_eq_getElem?_getD, List.getElem?_eq_getElem h]
  exact List.getElem_mem h
theorem take_snoc {α : Type} {d : α} {xs : List α} {i : Nat} (h : i < xs.length) : xs.take (i + 1) = xs.take i ++ [xs.getD i d] := by
  rw [List.take_add_one, List.getElem?_eq_getElem h, List.getD_eq_getElem?_getD, List.getElem?_eq_getElem h]
  rfl
theorem at_refs2 {ps : List Addr} {i : Nat} (h : i < ps.length) : (ps.map V.ref)[i]? = some (.ref (ps.getD i 0)) := by
  rw [List.getElem?_map, List.getD_eq_getElem?_getD, List.getElem?_eq_getElem h]
  rfl
theorem txt_len {c : Cm} (ok : c.ok) : c.txt.length ≤ 271 := by
  have h := bits_len ok
  cases c with
  | d a s =>
    have l1 : ("z" : Str).length = 1 := rfl
    simp only [Cm.bits, Cm.txt, List.map, List.sum_cons, List.sum_nil, PySem.Str.length_append] at h ⊢
    omega
  | _ =>
    simp only [Cm.bits, Cm.txt, List.map, List.sum_cons, List.sum_nil, PySem.Str.length_append] at h ⊢
    omega
theorem ok_Reader_init (T : Txt K mg a) : ∃ fd, FnOk P w K mg base CX0 1 a.d_Reader_init fd ["self", "text"] (spRInit a.C_Reader) ∧ Binds K fd ["self", "text"] [] := by
  obtain ⟨fd, F, b⟩ := T.d_Reader_init.F
  refine ⟨fd, F.ok sc_Reader_init (fun vs H Q E h => ?_) (fun cdv A outer s H vs Q E hr h => ?_), b⟩
  · obtain ⟨_, _, _, rfl, _⟩ := h
    rfl
  · obtain ⟨p, dx, z, rfl, hp, k⟩ := h
    refine ⟨_, (pss_cons (ps_fld (pv 0) (pv 1) rfl)
      (pss_one (ps_fld (pv 0) pe_int rfl))), ?_⟩
    walk_at "rs"
    refine ⟨p, _, dx, [], rfl, hp, T.cl_Reader, T.a_Reader_text, (by show 0 < 1000; decide), ?_⟩
    walk_at "rs"
    refine ⟨p, _, dx, _, rfl, upd_same, T.cl_Reader, T.a_Reader_at, (by show 1 < 1000; decide), ?_⟩
    rw [upd_upd]
    walk_at "rs"
    refine k _ ⟨dx, ?_⟩ (fun b o n e => by rw [upd_ne n]; exact e)
    rw [upd_same]
    rfl
theorem ok_Reader_read_signs (T : Txt K mg a) : ∃ fd, FnOk P w K mg base CX0 1 a.d_Reader_read_signs fd ["self", "allowed"] (spSigns a.C_Reader) ∧ Binds K fd ["self", "allowed"] [] := by
  obtain ⟨fd, F, b⟩ := T.d_Reader_read_signs.F
  refine ⟨fd, F.ok sc_Reader_read_signs (fun vs H Q E h => ?_) (fun cdv A outer s H vs Q E hr h => ?_), b⟩
  · obtain ⟨_, _, _, _, rfl, _⟩ := h
    rfl
  · obtain ⟨p, z, al, i, rfl, ⟨dx, hp⟩, lz, li, k⟩ := h
    refine ⟨_, (pss_cons (ps_set (i := 2) sc_Reader_read_signs.nd rfl (Or.inl rfl) (pe_fld (pv 0) rfl))
      (pss_cons (ps_while PassesOwn.never (PW.pt (pw_and (pt_cmpR op_lt (pe_fld (pv 0) rfl) (pe_callB call_len_str (by rfl) T.n_len PySem.boot_len (pa_cons (pe_fld (pv 0) rfl) pa_nil)) (nomark _)) (pw_and1 (pt_cmpR op_in_sign (pe_ix ix_str (pe_fld (pv 0) rfl) (pe_fld (pv 0) rfl) (fun _ _ => rfl)) (pv 1) (by rfl)))))
      (pss_one (ps_fldaug (pv 0) pe_int in_add)))
      (pss_one (ps_ret (pe_slice sl_str (pe_fld (pv 0) rfl) (po_some (pv 2)) (po_some (pe_fld (pv 0) rfl))))))), ?_⟩
    walk_at "rs"
    refine ⟨p, _, dx, _, .int (i : Int), rfl, hp, T.cl_Reader, T.a_Reader_at, rfl, ?_⟩
    walk_at "rs"
    refine ⟨fun m σ H2 => ∃ j : Nat, m = z.length - j ∧ σ = [some (.ref p), some (.str al), some (.int (i : Int))] ∧ H2 p = some (.ins a.C_Reader dx [("text", .str z), ("at", .int (j : Int))]) ∧ (∀ b o, b ≠ p → H b = some o → H2 b = some o) ∧ i ≤ j ∧ j ≤ z.length ∧ i + runL (TL.tl al) ((TL.tl z).drop i) = j + runL (TL.tl al) ((TL.tl z).drop j),
      ⟨_, i, rfl, rfl, hp, fun b o _ e => e, Nat.le_refl _, li, rfl⟩, ?_⟩
    rintro m σ H2 ⟨j, rfl, rfl, h2, k2, ij, jz, ej⟩
    walk_at "rs"
    refine ⟨p, _, dx, _, .int (j : Int), rfl, h2, T.cl_Reader, T.a_Reader_at, rfl, ?_⟩
    walk_at "rs"
    refine ⟨p, _, dx, _, .str z, rfl, h2, T.cl_Reader, T.a_Reader_text, rfl, ?_⟩
    walk_at "rs"
    refine ⟨(by rw [sizeLine_eq]; omega), ?_⟩
    walk_at "rs"
    have fin : runL (TL.tl al) ((TL.tl z).drop j) = 0 → Q (V.str (cutS z (some (i : Int)) (some (j : Int)))) H2 := fun e0 => by
      have ejj : j = i + runL (TL.tl al) ((TL.tl z).drop i) := by omega
      have ec : cutS z (some (i : Int)) (some (j : Int)) = ⟨(((TL.tl z).drop i).take (runL (TL.tl al) ((TL.tl z).drop i))).toArray⟩ := by
        unfold cutS
        rw [HT.sIx_nat, HT.sIx_nat, Nat.min_eq_left li, Nat.min_eq_left jz, show j - i = runL (TL.tl al) ((TL.tl z).drop i) by omega]
      rw [ec]
      refine k H2 ⟨dx, ?_⟩ k2
      rw [← ejj]
      exact h2
    refine ite2 (fun c1 => ?_) (fun c1 => ?_)
    · have c1 : j < z.length := by
        have := of_decide_eq_true c1
        omega
      have c1' : j < (TL.tl z).length := by rw [← TL.len_tl]; exact c1
      walk_at "rs"
      refine ⟨p, _, dx, _, .str z, rfl, h2, T.cl_Reader, T.a_Reader_text, rfl, ?_⟩
      walk_at "rs"
      refine ⟨p, _, dx, _, .int (j : Int), rfl, h2, T.cl_Reader, T.a_Reader_at, rfl, ?_⟩
      walk_at "rs"
      obtain ⟨c, rest, ed⟩ : ∃ c rest, (TL.tl z).drop j = c :: rest := by
        cases e : (TL.tl z).drop j with
        | nil =>
          have := congrArg List.length e
          rw [List.length_drop, List.length_nil] at this
          omega
        | cons c rest => exact ⟨c, rest, rfl⟩
      have eg : (TL.tl z)[j]? = some c := by
        have : ((TL.tl z).drop j)[0]? = some c := by rw [ed]; rfl
        rw [List.getElem?_drop] at this
        simpa using this
      have er : (TL.tl z).drop (j + 1) = rest := by
        rw [← List.drop_drop, ed]
        rfl
      refine ⟨z, j, c, rfl, rfl, (by rw [sizeLine_eq]; omega), atI_nat eg, ?_⟩
      walk_at "rs"
      refine ite2 (fun c2 => ?_) (fun c2 => ?_)
      · have c2 : c ∈ TL.tl al := of_decide_eq_true c2
        have e1 : runL (TL.tl al) ((TL.tl z).drop j) = runL (TL.tl al) ((TL.tl z).drop (j + 1)) + 1 := by
          rw [ed, er, runL, if_pos c2]
        refine ⟨fun σ' H' => σ' = [some (.ref p), some (.str al), some (.int (i : Int))] ∧ H' = upd H2 p (.ins a.C_Reader dx [("text", .str z), ("at", .int ((j + 1 : Nat) : Int))]), fun σ' H' w => ?_, ?_⟩
        · obtain ⟨rfl, rfl⟩ := w
          exact ⟨z.length - (j + 1), by omega, j + 1, rfl, rfl, upd_same, fun b o n e => by rw [upd_ne n]; exact k2 b o n e, by omega, by omega, by omega⟩
        walk_at "rs"
        refine ⟨p, _, dx, _, .int (j : Int), rfl, h2, T.cl_Reader, T.a_Reader_at, rfl, ?_⟩
        walk_at "rs"
        exact ⟨dx, _, h2, (by show 2 < 1000; decide), rfl, rfl⟩
      · have c2 : ¬ c ∈ TL.tl al := fun h => c2 (decide_eq_true h)
        have e0 : runL (TL.tl al) ((TL.tl z).drop j) = 0 := by
          rw [ed, runL, if_neg c2]
        walk_at "rs"
        refine ⟨p, _, dx, _, .str z, rfl, h2, T.cl_Reader, T.a_Reader_text, rfl, ?_⟩
        walk_at "rs"
        refine ⟨p, _, dx, _, .int (j : Int), rfl, h2, T.cl_Reader, T.a_Reader_at, rfl, ?_⟩
        walk_at "rs"
        exact ⟨(by rw [sizeLine_eq]; omega), fin e0⟩
    · have c1 : ¬ j < z.length := fun h => c1 (decide_eq_true (by omega))
      have e0 : runL (TL.tl al) ((TL.tl z).drop j) = 0 := by
        rw [List.drop_eq_nil_of_le (by rw [← TL.len_tl]; omega)]
        rfl
      walk_at "rs"
      refine ⟨p, _, dx, _, .str z, rfl, h2, T.cl_Reader, T.a_Reader_text, rfl, ?_⟩
      walk_at "rs"
      refine ⟨p, _, dx, _, .int (j : Int), rfl, h2, T.cl_Reader, T.a_Reader_at, rfl, ?_⟩
      walk_at "rs"
      exact ⟨(by rw [sizeLine_eq]; omega), fin e0⟩

theorem starts_one {z : Str} {c i : Nat} (li : i ≤ z.length) : Txt.startswith3 z ⟨#[c]⟩ (i : Int) = decide ((TL.tl z)[i]? = some c) := by
  have ef : PySem.fromIndex z.length (i : Int) = i := by
    unfold PySem.fromIndex
    rw [if_neg (by omega)]
    omega
  unfold Txt.startswith3
  rw [ef]
  have h := PySem.StrLaws.subAt_one z c i
  rw [Bool.eq_iff_iff, Bool.and_eq_true, decide_eq_true_iff, decide_eq_true_iff]
  exact h
theorem ok_Reader_skip (TE : TxtE w K mg a) (T : Txt K mg a) : ∃ fd, FnOk P w K mg base (L2.CX P w) 1 a.d_Reader_skip fd ["self", "mark"] (spSkip a.C_Reader a.C_BadCommand) ∧ Binds K fd ["self", "mark"] [] := by
  obtain ⟨fd, F, b⟩ := T.d_Reader_skip.F
  refine ⟨fd, F.okX sc_Reader_skip (fun vs H Q E h => ?_) (fun cdv A outer s H vs Q E hr h => ?_), b⟩
  · obtain ⟨_, _, _, _, rfl, _⟩ := h
    rfl
  · obtain ⟨p, z, c, i, rfl, ⟨dx, hp⟩, lz, li, k1, k2⟩ := h
    refine ⟨_, (pss_cons (ps_if (pt_not (pt_val (pe_bm PySem.F.plainAttrs_str PySem.F.slot_str_startswith PySem.F.type_str_startswith mt_startswith3 (pe_fld (pv 0) rfl) (pa_cons (pv 1) (pa_cons (pe_fld (pv 0) rfl) pa_nil)))))
      (pss_one (ps_raise rfl (takes_of rfl rfl rfl rfl) (pmk_own PySem.F.excBase_ValueError TE.x_BadCommand TE.g_BadCommand TE.kc_BadCommand (raises_own TE.b_BadCommand TE.t_BadCommand) rfl)))
      pss_nil)
      (pss_one (ps_fldaug (pv 0) pe_int in_add))), ?_⟩
    walk_at "rs"
    refine ⟨p, _, dx, _, .str z, rfl, hp, T.cl_Reader, T.a_Reader_text, rfl, ?_⟩
    walk_at "rs"
    refine ⟨p, _, dx, _, .int (i : Int), rfl, hp, T.cl_Reader, T.a_Reader_at, rfl, ?_⟩
    walk_at "rs"
    refine ⟨z, _, _, rfl, rfl, ?_⟩
    rw [starts_one li]
    by_cases c0 : (TL.tl z)[i]? = some c
    · rw [decide_eq_true c0]
      walk_at "rs"
      refine ⟨p, _, dx, _, .int (i : Int), rfl, hp, T.cl_Reader, T.a_Reader_at, rfl, ?_⟩
      walk_at "rs"
      refine ⟨dx, _, hp, (by show 2 < 1000; decide), ?_⟩
      exact k1 c0 _ ⟨dx, upd_same⟩ fun b o n e => by rw [upd_ne n]; exact e
    · rw [decide_eq_false c0]
      walk_at "rs"
      exact k2 c0

theorem run_le (al : List Nat) : ∀ l : List Nat, runL al l ≤ l.length
  | [] => Nat.le_refl _
  | c :: r => by
    have := run_le al r
    rw [runL]
    split
    · rw [List.length_cons]
      omega
    · exact Nat.zero_le _
theorem run_mem (al : List Nat) : ∀ (l : List Nat), ∀ n ∈ l.take (runL al l), n ∈ al
  | [], n, h => by cases h
  | c :: r, n, h => by
    rw [runL] at h
    split at h
    · rename_i hc
      rw [List.take_succ_cons] at h
      rcases List.mem_cons.mp h with rfl | h
      · exact hc
      · exact run_mem al r n h
    · rw [List.take_zero] at h
      cases h
theorem digs_len (z : Str) (i : Nat) : (digsAt z i).length = runL (TL.tl "0123456789") ((TL.tl z).drop i) := by
  unfold digsAt
  rw [List.length_take]
  exact Nat.min_eq_left (run_le _ _)
theorem digs_all (z : Str) (i : Nat) : NumText.AllDigits (digsAt z i) := fun n hn => by
  have h := run_mem _ _ n hn
  have e : TL.tl "0123456789" = [48, 49, 50, 51, 52, 53, 54, 55, 56, 57] := by decide +kernel
  rw [e] at h
  simp only [List.mem_cons, List.not_mem_nil, or_false] at h
  omega
theorem ok_Reader_read_number (TE : TxtE w K mg a) (T : Txt K mg a) : ∃ fd, FnOk P w K mg base (L2.CX P w) 2 a.d_Reader_read_number fd ["self"] (spNumR a.C_Reader a.C_BadCommand) ∧ Binds K fd ["self"] [] := by
  obtain ⟨fd, F, b⟩ := T.d_Reader_read_number.F
  obtain ⟨fd_Reader_read_signs, G_Reader_read_signs, b_Reader_read_signs⟩ := ok_Reader_read_signs (P := P) (w := w) (base := base) T
  refine ⟨fd, F.okX sc_Reader_read_number (fun vs H Q E h => ?_) (fun cdv A outer s H vs Q E hr h => ?_), b⟩
  · obtain ⟨_, _, _, rfl, _⟩ := h
    rfl
  · obtain ⟨p, z, i, rfl, ⟨dx, hp⟩, lz, li, k1, k2⟩ := h
    refine ⟨_, (pss_cons (ps_set (i := 1) sc_Reader_read_number.nd rfl (Or.inl rfl) (pe_meth (pv 0) T.cl_Reader T.me_Reader_read_signs G_Reader_read_signs (hr.mono (by decide)) b_Reader_read_signs .nil pass0 (pa_cons (pe_glob (v := (.str "0123456789")) rfl T.c_DIGITS.choose_spec ⟨_, rfl⟩) pa_nil)))
      (pss_cons (ps_if (PW.pt (pw_or (pt_cmpR op_lt (pe_callB call_len_str (by rfl) T.n_len PySem.boot_len (pa_cons (pv 1) pa_nil)) pe_int (nomark _)) (pw_or (pt_cmpR op_gt (pe_callB call_len_str (by rfl) T.n_len PySem.boot_len (pa_cons (pv 1) pa_nil)) (pe_glob (v := (.int 6)) rfl T.c_MOST_DIGITS.choose_spec ⟨_, rfl⟩) (nomark _)) (pw_or1 (PW.pt (pw_and (pt_cmpR op_eq (pe_ix ix_str (pv 1) pe_int (fun _ _ => rfl)) pe_str (nomark _)) (pw_and1 (pt_cmpR op_ne (pv 1) pe_str (nomark _)))))))))
      (pss_one (ps_raise rfl (takes_of rfl rfl rfl rfl) (pmk_own PySem.F.excBase_ValueError TE.x_BadCommand TE.g_BadCommand TE.kc_BadCommand (raises_own TE.b_BadCommand TE.t_BadCommand) rfl)))
      pss_nil)
      (pss_one (ps_ret (pe_callTy call_int_str (by rfl) T.n_int (by decide +kernel) (pa_cons (pv 1) pa_nil)))))), ?_⟩
    walk_at "rs"
    refine ⟨p, dx, _, rfl, hp, rfl, ?_⟩
    walk_at "rs"
    refine ⟨p, z, _, i, rfl, ⟨dx, hp⟩, lz, li, fun H1 h1 kp => ?_⟩
    rw [show (⟨(((TL.tl z).drop i).take (runL (TL.tl "0123456789") ((TL.tl z).drop i))).toArray⟩ : Str) = ⟨(digsAt z i).toArray⟩ from rfl]
    rw [← digs_len] at h1
    have hall := digs_all z i
    have lw : (digsAt z i).length ≤ 1000 := by
      rw [digs_len]
      have := run_le (TL.tl "0123456789") ((TL.tl z).drop i)
      rw [List.length_drop, ← TL.len_tl] at this
      omega
    have k1 := fun g => k1 g H1 h1 kp
    have k2 := fun g => k2 g H1 kp
    generalize digsAt z i = dg at hall lw k1 k2 ⊢
    have el : (⟨dg.toArray⟩ : Str).length = dg.length := by
      rw [TL.len_tl, TL.tl_mk]
    walk_at "rs"
    refine ⟨(by rw [el, sizeLine_eq]; omega), ?_⟩
    walk_at "rs"
    refine ite2 (fun c1 => ?_) (fun c1 => ?_)
    · have c1 := of_decide_eq_true c1
      refine k2 fun g => ?_
      have := g.1
      rw [el] at c1
      omega
    · have c1 : ¬ dg.length < 1 := fun h => c1 (decide_eq_true (by rw [el]; omega))
      walk_at "rs"
      refine ⟨(by rw [el, sizeLine_eq]; omega), ?_⟩
      walk_at "rs"
      refine ite2 (fun c2 => ?_) (fun c2 => ?_)
      · have c2 := of_decide_eq_true c2
        refine k2 fun g => ?_
        have := g.2.1
        rw [el] at c2
        omega
      · have c2 : ¬ 6 < dg.length := fun h => c2 (decide_eq_true (by rw [el]; omega))
        cases dg with
        | nil => exact absurd (by decide) c1
        | cons d r =>
          walk_at "rs"
          refine ⟨_, 0, d, rfl, rfl, (by rw [el, sizeLine_eq]; omega), atI_nat (j := 0) rfl, ?_⟩
          walk_at "rs"
          have z48 : (Str.ofString "0") = ⟨#[48]⟩ := rfl
          have fin : NumW (d :: r) → (∃ (x : Str) (n : Int), [V.str ⟨(d :: r).toArray⟩] = [V.str x] ∧ PySem.intText? x = some n ∧ x.length ≤ 640 ∧ Q (.int n) H1) := fun g =>
            ⟨_, _, rfl, PySem.intText_digits (x := ⟨(d :: r).toArray⟩) hall (fun e => nomatch e) (by rw [el]; have := g.2.1; omega), by rw [el]; have := g.2.1; omega, k1 g⟩
          refine ite2 (fun c3 => ?_) (fun c3 => ?_)
          · have c3 : d = 48 := by
              have := of_decide_eq_true c3
              rw [z48] at this
              simpa using this
            walk_at "rs"
            refine ite2 (fun c4 => ?_) (fun c4 => ?_)
            · refine k2 fun g => g.2.2 ⟨by rw [c3]; rfl, fun e => ?_⟩
              rw [e, z48] at c4
              simp at c4
            · have e : d :: r = [48] := by
                rw [z48] at c4
                simp at c4
                rw [c4.1, c4.2]
              walk_at "rs"
              exact fin ⟨by rw [e]; decide, by rw [e]; decide, fun g => g.2 e⟩
          · have c3 : d ≠ 48 := fun e => c3 (by rw [e, z48]; simp)
            walk_at "rs"
            exact fin ⟨by simp, by omega, fun g => c3 (by simpa using g.1)⟩

/-- the signs of a program that stand at i -/
def codeAt (z : Str) (i : Nat) : List Nat := ((TL.tl z).drop i).take (runL (TL.tl "0123456789ginasmtcehlujfyo") ((TL.tl z).drop i))
def spCodeR (C CE : Addr) : Sp := fun vs H Q E => ∃ (p : Addr) (z : Str) (i : Nat), vs = [.ref p] ∧ RdAt C H p z i ∧ z.length ≤ 1000 ∧ i ≤ z.length ∧
  ((TL.tl z)[i + (codeAt z i).length]? = some 122 → ∀ H', RdAt C H' p z (i + (codeAt z i).length + 1) → (∀ b o, b ≠ p → H b = some o → H' b = some o) → Q (.str ⟨(codeAt z i).toArray⟩) H') ∧
  ((TL.tl z)[i + (codeAt z i).length]? ≠ some 122 → ∀ H', (∀ b o, b ≠ p → H b = some o → H' b = some o) → E (.ref CE) none H')
theorem code_len (z : Str) (i : Nat) : (codeAt z i).length = runL (TL.tl "0123456789ginasmtcehlujfyo") ((TL.tl z).drop i) := by
  unfold codeAt
  rw [List.length_take]
  exact Nat.min_eq_left (run_le _ _)
theorem ok_Reader_read_code (TE : TxtE w K mg a) (T : Txt K mg a) : ∃ fd, FnOk P w K mg base (L2.CX P w) 2 a.d_Reader_read_code fd ["self"] (spCodeR a.C_Reader a.C_BadCommand) ∧ Binds K fd ["self"] [] := by
  obtain ⟨fd, F, b⟩ := T.d_Reader_read_code.F
  obtain ⟨fd_Reader_read_signs, G_Reader_read_signs, b_Reader_read_signs⟩ := ok_Reader_read_signs (P := P) (w := w) (base := base) T
  obtain ⟨fd_Reader_skip, G_Reader_skip, b_Reader_skip⟩ := ok_Reader_skip (P := P) (w := w) (base := base) TE T
  refine ⟨fd, F.okX sc_Reader_read_code (fun vs H Q E h => ?_) (fun cdv A outer s H vs Q E hr h => ?_), b⟩
  · obtain ⟨_, _, _, rfl, _⟩ := h
    rfl
  · obtain ⟨p, z, i, rfl, ⟨dx, hp⟩, lz, li, k1, k2⟩ := h
    refine ⟨_, (pss_cons (ps_set (i := 1) sc_Reader_read_code.nd rfl (Or.inl rfl) (pe_meth (pv 0) T.cl_Reader T.me_Reader_read_signs G_Reader_read_signs (hr.mono (by decide)) b_Reader_read_signs .nil pass0 (pa_cons (pe_glob (v := (.str "0123456789ginasmtcehlujfyo")) rfl T.c_SIGNS.choose_spec ⟨_, rfl⟩) pa_nil)))
      (pss_cons (ps_expr (pe_meth (pv 0) T.cl_Reader T.me_Reader_skip G_Reader_skip (hr.mono (by decide)) b_Reader_skip .nil (L2.passes_call (W := fun c d _ H => E c d H) (E := E) (L2.takes_of rfl rfl rfl rfl) (fun _ _ _ _ h => h)) (pa_cons (pe_glob (v := (.str "z")) rfl T.c_CODE_END.choose_spec ⟨_, rfl⟩) pa_nil)))
      (pss_one (ps_ret (pv 1))))), ?_⟩
    walk_at "rs"
    refine ⟨p, dx, _, rfl, hp, rfl, ?_⟩
    walk_at "rs"
    refine ⟨p, z, _, i, rfl, ⟨dx, hp⟩, lz, li, fun H1 h1 kp => ?_⟩
    rw [show (⟨(((TL.tl z).drop i).take (runL (TL.tl "0123456789ginasmtcehlujfyo") ((TL.tl z).drop i))).toArray⟩ : Str) = ⟨(codeAt z i).toArray⟩ from rfl]
    rw [← code_len] at h1
    have lc : i + (codeAt z i).length ≤ z.length := by
      rw [code_len]
      have := run_le (TL.tl "0123456789ginasmtcehlujfyo") ((TL.tl z).drop i)
      rw [List.length_drop, ← TL.len_tl] at this
      omega
    obtain ⟨dx1, hp1⟩ := id h1
    walk_at "rs"
    refine ⟨p, dx1, _, rfl, hp1, rfl, ?_⟩
    walk_at "rs"
    refine ⟨p, z, 122, _, rfl, h1, lz, lc, fun e H2 h2 kp2 => ?_, fun e => k2 e H1 kp⟩
    walk_at "rs"
    exact k1 e H2 h2 fun b o n q => kp2 b o n (kp b o n q)

/-! ### the reader's model -/
theorem dig10 : TL.tl "0123456789" = [48, 49, 50, 51, 52, 53, 54, 55, 56, 57] := by decide +kernel
theorem run_app {al : List Nat} : ∀ {v : List Nat} {r : List Nat}, (∀ n ∈ v, n ∈ al) → runL al (v ++ r) = v.length + runL al r
  | [], r, _ => by simp
  | c :: v, r, h => by
    rw [List.cons_append, runL, if_pos (h c List.mem_cons_self), run_app fun n hn => h n (List.mem_cons_of_mem _ hn), List.length_cons]
    omega
theorem run_stop {al : List Nat} : ∀ {r : List Nat}, (∀ c, r.head? = some c → c ∉ al) → runL al r = 0
  | [], _ => rfl
  | c :: r, h => by rw [runL, if_neg (h c rfl)]
theorem run_cut {al v r : List Nat} (h : ∀ n ∈ v, n ∈ al) (hr : ∀ c, r.head? = some c → c ∉ al) : runL al (v ++ r) = v.length := by
  rw [run_app h, run_stop hr]
  rfl
instance decNumW (v : List Nat) : Decidable (NumW v) := by unfold NumW; infer_instance
def numP (l : List Nat) : Option (V × List Nat) :=
  if NumW (l.take (runL (TL.tl "0123456789") l)) then some (.int (NumText.digitsVal (l.take (runL (TL.tl "0123456789") l)) : Nat), l.drop (runL (TL.tl "0123456789") l)) else none
def codeP (l : List Nat) : Option (V × List Nat) :=
  if l[runL (TL.tl "0123456789ginasmtcehlujfyo") l]? = some 122 then some (.str ⟨(l.take (runL (TL.tl "0123456789ginasmtcehlujfyo") l)).toArray⟩, l.drop (runL (TL.tl "0123456789ginasmtcehlujfyo") l + 1)) else none
def partP (m : Nat) : List Nat → Option (V × List Nat)
  | [] => none
  | c :: r => if c = m then (if m = 122 then codeP r else numP r) else none
def partsP : List Nat → List Nat → Option (List V × List Nat)
  | [], l => some ([], l)
  | m :: ms, l => match partP m l with
    | none => none
    | some (v, r) => match partsP ms r with
      | none => none
      | some (vs, q) => some (v :: vs, q)
theorem numL_head2 : ∀ (n : Nat), 0 < n → (TL.numL n).head? ≠ some 48
  | n, h => by
    rcases Nat.lt_or_ge n 10 with z | z
    · rw [TL.numL_lt z]
      simp
      omega
    · rw [TL.numL_step z]
      have ih := numL_head2 (n / 10) (by omega)
      have ne := TL.numL_ne (n / 10)
      cases e : TL.numL (n / 10) with
      | nil => exact absurd e ne
      | cons c l =>
        rw [e] at ih
        exact ih
theorem numL_long : ∀ (k n : Nat), 10 ^ k ≤ n → k < (TL.numL n).length
  | 0, n, _ => List.length_pos_iff.mpr (TL.numL_ne n)
  | k + 1, n, h => by
    have p : 0 < 10 ^ k := Nat.pow_pos (by decide)
    rw [Nat.pow_succ] at h
    have := numL_long k (n / 10) (by omega)
    rw [TL.numL_step (by omega), List.length_append, List.length_singleton]
    omega
theorem digs_toNat : ∀ {v : List Nat}, NumText.AllDigits v → (v.map Char.ofNat).map Char.toNat = v
  | [], _ => rfl
  | c :: v, h => by
    have hc := h c List.mem_cons_self
    have ih := digs_toNat (v := v) fun n hn => h n (List.mem_cons_of_mem _ hn)
    rw [List.map_cons, List.map_cons, ih]
    congr 1
    have : ∀ i : Fin 58, (Char.ofNat i.val).toNat = i.val := by decide +kernel
    exact this ⟨c, by omega⟩
theorem num_back {v : List Nat} (h : NumW v) (d : NumText.AllDigits v) : NOk (NumText.digitsVal v : Nat) ∧ TL.tl (nu (NumText.digitsVal v : Nat)) = v := by
  obtain ⟨h1, h2, h3⟩ := h
  have e : TL.numL (NumText.digitsVal v) = v := by
    unfold TL.numL
    rw [NumText.toDigits_digitsVal (v.length - 1) v (by omega) d, digs_toNat d]
    rcases Nat.lt_or_ge 1 v.length with z | z
    · right
      cases v with
      | nil => simp at h1
      | cons c r =>
        refine ⟨c, r, rfl, ?_⟩
        have hc := d c List.mem_cons_self
        rcases Nat.lt_or_ge c 49 with y | y
        · exfalso
          refine h3 ⟨?_, fun q => ?_⟩
          · have : c = 48 := by omega
            rw [this]
            rfl
          · rw [q] at z
            simp at z
        · exact y
    · left
      omega
  refine ⟨⟨Int.natCast_nonneg _, ?_⟩, ?_⟩
  · rcases Nat.lt_or_ge (NumText.digitsVal v) (10 ^ 6) with z | z
    · have : (10 : Nat) ^ 6 = 1000000 := by decide
      omega
    · have := numL_long 6 _ z
      rw [e] at this
      omega
  · show TL.tl (Str.ofString (toString ((NumText.digitsVal v : Nat) : Int))) = v
    rw [TL.tl_num, e]
theorem take_run_digits (l : List Nat) : NumText.AllDigits (l.take (runL (TL.tl "0123456789") l)) := fun n hn => by
  have h := run_mem _ _ n hn
  rw [dig10] at h
  simp only [List.mem_cons, List.not_mem_nil, or_false] at h
  omega
theorem numP_ok {l : List Nat} {v : V} {r : List Nat} (h : numP l = some (v, r)) : ∃ i, v = .int i ∧ NOk i ∧ TL.tl (nu i) ++ r = l := by
  unfold numP at h
  split at h
  · rename_i c
    cases h
    obtain ⟨h1, h2⟩ := num_back c (take_run_digits l)
    refine ⟨_, rfl, h1, ?_⟩
    rw [h2]
    exact List.take_append_drop _ _
  · cases h
theorem codeP_ok {l : List Nat} {v : V} {r : List Nat} (h : codeP l = some (v, r)) : ∃ s : Str, v = .str s ∧ Sgn s ∧ TL.tl s ++ 122 :: r = l := by
  unfold codeP at h
  split at h
  · rename_i c
    cases h
    refine ⟨_, rfl, fun n hn => run_mem _ _ n hn, ?_⟩
    rw [TL.tl_mk]
    have hlt := (List.getElem?_eq_some_iff.mp c).1
    have e : l.drop (runL (TL.tl "0123456789ginasmtcehlujfyo") l) = 122 :: l.drop (runL (TL.tl "0123456789ginasmtcehlujfyo") l + 1) := by
      rw [List.drop_eq_getElem_cons hlt, (List.getElem?_eq_some_iff.mp c).2]
    rw [← e]
    exact List.take_append_drop _ _
  · cases h
theorem partP_ok {m : Nat} {l : List Nat} {v : V} {r : List Nat} (h : partP m l = some (v, r)) : (m ≠ 122 ∧ ∃ i, v = .int i ∧ NOk i ∧ m :: (TL.tl (nu i) ++ r) = l) ∨ (m = 122 ∧ ∃ s : Str, v = .str s ∧ Sgn s ∧ 122 :: (TL.tl s ++ 122 :: r) = l) := by
  cases l with
  | nil => cases h
  | cons c q =>
    rw [partP] at h
    split at h
    · rename_i e
      subst e
      split at h
      · rename_i e
        obtain ⟨s, h1, h2, h3⟩ := codeP_ok h
        exact .inr ⟨e, s, h1, h2, by rw [h3, e]⟩
      · rename_i e
        obtain ⟨i, h1, h2, h3⟩ := numP_ok h
        exact .inl ⟨e, i, h1, h2, by rw [h3]⟩
    · cases h
theorem partP_int {m : Nat} {l : List Nat} {v : V} {r : List Nat} (hm : m ≠ 122) (h : partP m l = some (v, r)) : ∃ i, v = .int i ∧ NOk i ∧ m :: (TL.tl (nu i) ++ r) = l := by
  rcases partP_ok h with ⟨_, h⟩ | ⟨h, _⟩
  · exact h
  · exact absurd h hm
theorem partP_code {l : List Nat} {v : V} {r : List Nat} (h : partP 122 l = some (v, r)) : ∃ s : Str, v = .str s ∧ Sgn s ∧ 122 :: (TL.tl s ++ 122 :: r) = l := by
  rcases partP_ok h with ⟨h, _⟩ | ⟨_, h⟩
  · exact absurd rfl h
  · exact h
theorem partsP_cons {m : Nat} {ms l : List Nat} {vs : List V} {q : List Nat} (h : partsP (m :: ms) l = some (vs, q)) : ∃ v r us, partP m l = some (v, r) ∧ partsP ms r = some (us, q) ∧ vs = v :: us := by
  rw [partsP] at h
  split at h
  · cases h
  · rename_i v r e
    split at h
    · cases h
    · rename_i us q' e2
      cases h
      exact ⟨v, r, us, e, e2, rfl⟩
theorem partsP_nil {l : List Nat} {vs : List V} {q : List Nat} (h : partsP [] l = some (vs, q)) : vs = [] ∧ q = l := by
  cases h
  exact ⟨rfl, rfl⟩
def kdOf (c : Nat) : Option (List Nat) := if c = 112 then some [112, 113, 114] else if c = 119 then some [119, 120] else if c = 100 then some [100, 122] else if c = 107 then some [107, 98, 118] else none
def mkC (c : Nat) : List V → Cm
  | [.int a, .int b, .int d] => if c = 112 then .p a b d else .k a b d
  | [.int a, .int b] => .w a b
  | [.int a, .str s] => .d a s
  | _ => default
def cmdP : List Nat → Option (Cm × List Nat)
  | [] => none
  | c :: r => match kdOf c with
    | none => none
    | some ms => match partsP ms (c :: r) with
      | none => none
      | some (vs, q) => some (mkC c vs, q)
theorem tl1 {c : Nat} : TL.tl ⟨#[c]⟩ = [c] := rfl
theorem mk_ok {c : Nat} {ms r : List Nat} {vs : List V} {q : List Nat} (hk : kdOf c = some ms) (h : partsP ms (c :: r) = some (vs, q)) :
    (mkC c vs).ki = ⟨#[c]⟩ ∧ (mkC c vs).ps = vs ∧ TL.tl (mkC c vs).txt ++ q = c :: r ∧ (mkC c vs).right := by
  unfold kdOf at hk
  split at hk
  · rename_i e
    cases hk
    subst e
    obtain ⟨v1, r1, u1, a1, b1, rfl⟩ := partsP_cons h
    obtain ⟨v2, r2, u2, a2, b2, rfl⟩ := partsP_cons b1
    obtain ⟨v3, r3, u3, a3, b3, rfl⟩ := partsP_cons b2
    obtain ⟨rfl, rfl⟩ := partsP_nil b3
    obtain ⟨i1, rfl, o1, e1⟩ := partP_int (by decide) a1
    obtain ⟨i2, rfl, o2, e2⟩ := partP_int (by decide) a2
    obtain ⟨i3, rfl, o3, e3⟩ := partP_int (by decide) a3
    refine ⟨rfl, rfl, ?_, o1, o2, o3⟩
    rw [← e1, ← e2, ← e3]
    show TL.tl ("p" ++ nu i1 ++ "q" ++ nu i2 ++ "r" ++ nu i3) ++ q = _
    simp only [TL.tl_append, List.append_assoc]
    rfl
  · split at hk
    · rename_i e
      cases hk
      subst e
      obtain ⟨v1, r1, u1, a1, b1, rfl⟩ := partsP_cons h
      obtain ⟨v2, r2, u2, a2, b2, rfl⟩ := partsP_cons b1
      obtain ⟨rfl, rfl⟩ := partsP_nil b2
      obtain ⟨i1, rfl, o1, e1⟩ := partP_int (by decide) a1
      obtain ⟨i2, rfl, o2, e2⟩ := partP_int (by decide) a2
      refine ⟨rfl, rfl, ?_, o1, o2⟩
      rw [← e1, ← e2]
      show TL.tl ("w" ++ nu i1 ++ "x" ++ nu i2) ++ q = _
      simp only [TL.tl_append, List.append_assoc]
      rfl
    · split at hk
      · rename_i e
        cases hk
        subst e
        obtain ⟨v1, r1, u1, a1, b1, rfl⟩ := partsP_cons h
        obtain ⟨v2, r2, u2, a2, b2, rfl⟩ := partsP_cons b1
        obtain ⟨rfl, rfl⟩ := partsP_nil b2
        obtain ⟨i1, rfl, o1, e1⟩ := partP_int (by decide) a1
        obtain ⟨i2, rfl, o2, e2⟩ := partP_code a2
        refine ⟨rfl, rfl, ?_, o1, o2⟩
        rw [← e1, ← e2]
        show TL.tl ("d" ++ nu i1 ++ "z" ++ i2 ++ "z") ++ q = _
        simp only [TL.tl_append, List.append_assoc]
        rfl
      · split at hk
        · rename_i e
          cases hk
          subst e
          obtain ⟨v1, r1, u1, a1, b1, rfl⟩ := partsP_cons h
          obtain ⟨v2, r2, u2, a2, b2, rfl⟩ := partsP_cons b1
          obtain ⟨v3, r3, u3, a3, b3, rfl⟩ := partsP_cons b2
          obtain ⟨rfl, rfl⟩ := partsP_nil b3
          obtain ⟨i1, rfl, o1, e1⟩ := partP_int (by decide) a1
          obtain ⟨i2, rfl, o2, e2⟩ := partP_int (by decide) a2
          obtain ⟨i3, rfl, o3, e3⟩ := partP_int (by decide) a3
          refine ⟨rfl, rfl, ?_, o1, o2, o3⟩
          rw [← e1, ← e2, ← e3]
          show TL.tl ("k" ++ nu i1 ++ "b" ++ nu i2 ++ "v" ++ nu i3) ++ q = _
          simp only [TL.tl_append, List.append_assoc]
          rfl
        · cases hk
theorem cmdP_ok {l : List Nat} {x : Cm} {q : List Nat} (h : cmdP l = some (x, q)) : TL.tl x.txt ++ q = l ∧ x.right := by
  cases l with
  | nil => cases h
  | cons c r =>
    rw [cmdP] at h
    split at h
    · cases h
    · rename_i ms hk
      split at h
      · cases h
      · rename_i vs q' hp
        cases h
        exact (mk_ok hk hp).2.2
def NoDig (r : List Nat) : Prop := ∀ c, r.head? = some c → c ∉ TL.tl "0123456789"
theorem num_w {i : Int} (h : NOk i) : NumW (TL.tl (nu i)) := by
  obtain ⟨h0, h1⟩ := id h
  rw [nu_tl h]
  refine ⟨List.length_pos_iff.mpr (TL.numL_ne _), TL.numL_len (by decide) (by omega), fun ⟨g1, g2⟩ => ?_⟩
  rcases Nat.eq_zero_or_pos i.toNat with z | z
  · rw [z] at g2
    exact g2 (by decide +kernel)
  · exact numL_head2 _ z g1
theorem numP_nu {i : Int} (h : NOk i) {r : List Nat} (hr : NoDig r) : numP (TL.tl (nu i) ++ r) = some (.int i, r) := by
  have hd : ∀ n ∈ TL.tl (nu i), n ∈ TL.tl "0123456789" := fun n hn => by
    rw [nu_tl h] at hn
    have := TL.numL_digits _ n hn
    rw [dig10]
    simp only [List.mem_cons, List.not_mem_nil, or_false]
    omega
  have er : runL (TL.tl "0123456789") (TL.tl (nu i) ++ r) = (TL.tl (nu i)).length := run_cut hd hr
  unfold numP
  rw [er, List.take_left', List.drop_left', if_pos (num_w h)]
  · rw [nu_tl h, TL.numL_val, Int.toNat_of_nonneg h.1]
  · rfl
  · rfl
theorem codeP_s {s : Str} (h : Sgn s) {r : List Nat} : codeP (TL.tl s ++ 122 :: r) = some (.str s, r) := by
  have er : runL (TL.tl "0123456789ginasmtcehlujfyo") (TL.tl s ++ 122 :: r) = (TL.tl s).length := run_cut h fun c hc => by
    cases hc
    decide +kernel
  unfold codeP
  have e1 : (TL.tl s ++ 122 :: r).drop ((TL.tl s).length + 1) = r := by
    rw [← List.drop_drop, List.drop_left' rfl]
    rfl
  have e2 : (TL.tl s ++ 122 :: r)[(TL.tl s).length]? = some 122 := by
    rw [List.getElem?_append_right (Nat.le_refl _), Nat.sub_self]
    rfl
  rw [er, if_pos e2, List.take_left' rfl, e1]
theorem partP_nu {m : Nat} (hm : m ≠ 122) {i : Int} (h : NOk i) {r : List Nat} (hr : NoDig r) : partP m (m :: (TL.tl (nu i) ++ r)) = some (.int i, r) := by
  rw [partP, if_pos rfl, if_neg hm]
  exact numP_nu h hr
theorem partP_s {s : Str} (h : Sgn s) {r : List Nat} : partP 122 (122 :: (TL.tl s ++ 122 :: r)) = some (.str s, r) := by
  rw [partP, if_pos rfl, if_pos rfl]
  exact codeP_s h
theorem noDig_cons {c : Nat} {r : List Nat} (h : c ∉ TL.tl "0123456789") : NoDig (c :: r) := fun d hd => by
  cases hd
  exact h
theorem partsP_step {m : Nat} {ms l : List Nat} {v : V} {r : List Nat} {us : List V} {q : List Nat} (h1 : partP m l = some (v, r)) (h2 : partsP ms r = some (us, q)) : partsP (m :: ms) l = some (v :: us, q) := by
  rw [partsP, h1]
  dsimp only
  rw [h2]
theorem partsP_end (r : List Nat) : partsP [] r = some ([], r) := rfl
theorem cmdP_txt {x : Cm} (h : x.right) {r : List Nat} (hr : NoDig r) : cmdP (TL.tl x.txt ++ r) = some (x, r) := by
  cases x with
  | p a b c =>
    obtain ⟨o1, o2, o3⟩ := h
    have e : TL.tl (Cm.p a b c).txt ++ r = 112 :: (TL.tl (nu a) ++ 113 :: (TL.tl (nu b) ++ 114 :: (TL.tl (nu c) ++ r))) := by
      show TL.tl ("p" ++ nu a ++ "q" ++ nu b ++ "r" ++ nu c) ++ r = _
      simp only [TL.tl_append, List.append_assoc]
      rfl
    have hp := partsP_step (partP_nu (m := 112) (by decide) o1 (noDig_cons (by decide +kernel))) (partsP_step (partP_nu (m := 113) (by decide) o2 (noDig_cons (by decide +kernel))) (partsP_step (partP_nu (m := 114) (by decide) o3 hr) (partsP_end r)))
    have hk : kdOf 112 = some [112, 113, 114] := rfl
    rw [e, cmdP, hk]
    dsimp only
    rw [hp]
    rfl
  | w a b =>
    obtain ⟨o1, o2⟩ := h
    have e : TL.tl (Cm.w a b).txt ++ r = 119 :: (TL.tl (nu a) ++ 120 :: (TL.tl (nu b) ++ r)) := by
      show TL.tl ("w" ++ nu a ++ "x" ++ nu b) ++ r = _
      simp only [TL.tl_append, List.append_assoc]
      rfl
    have hp := partsP_step (partP_nu (m := 119) (by decide) o1 (noDig_cons (by decide +kernel))) (partsP_step (partP_nu (m := 120) (by decide) o2 hr) (partsP_end r))
    have hk : kdOf 119 = some [119, 120] := rfl
    rw [e, cmdP, hk]
    dsimp only
    rw [hp]
    rfl
  | k a b c =>
    obtain ⟨o1, o2, o3⟩ := h
    have e : TL.tl (Cm.k a b c).txt ++ r = 107 :: (TL.tl (nu a) ++ 98 :: (TL.tl (nu b) ++ 118 :: (TL.tl (nu c) ++ r))) := by
      show TL.tl ("k" ++ nu a ++ "b" ++ nu b ++ "v" ++ nu c) ++ r = _
      simp only [TL.tl_append, List.append_assoc]
      rfl
    have hp := partsP_step (partP_nu (m := 107) (by decide) o1 (noDig_cons (by decide +kernel))) (partsP_step (partP_nu (m := 98) (by decide) o2 (noDig_cons (by decide +kernel))) (partsP_step (partP_nu (m := 118) (by decide) o3 hr) (partsP_end r)))
    have hk : kdOf 107 = some [107, 98, 118] := rfl
    rw [e, cmdP, hk]
    dsimp only
    rw [hp]
    rfl
  | d a s =>
    obtain ⟨o1, o2⟩ := h
    have e : TL.tl (Cm.d a s).txt ++ r = 100 :: (TL.tl (nu a) ++ 122 :: (TL.tl s ++ 122 :: r)) := by
      show TL.tl ("d" ++ nu a ++ "z" ++ s ++ "z") ++ r = _
      simp only [TL.tl_append, List.append_assoc]
      rfl
    have hp := partsP_step (partP_nu (m := 100) (by decide) o1 (noDig_cons (by decide +kernel))) (partsP_step (partP_s o2 (r := r)) (partsP_end r))
    have hk : kdOf 100 = some [100, 122] := rfl
    rw [e, cmdP, hk]
    dsimp only
    rw [hp]
    rfl
def cmdsP : Nat → List Nat → Option (List Cm)
  | _, [] => some []
  | 0, _ :: _ => none
  | n + 1, c :: r => match cmdP (c :: r) with
    | none => none
    | some (x, q) => match cmdsP n q with
      | none => none
      | some xs => some (x :: xs)
def cmdsOf (z : Str) : List Cm := (cmdsP z.length (TL.tl z)).getD []
def catL (xs : List Cm) : List Nat := (xs.map fun c => TL.tl c.txt).flatten
theorem tl_cat : ∀ xs : List Cm, TL.tl (cat xs) = catL xs := fun xs => by
  have h : ∀ (xs : List Cm) (z : Str), TL.tl (xs.foldl (fun z c => z ++ c.txt) z) = TL.tl z ++ catL xs := fun xs => by
    induction xs with
    | nil => intro z; simp [catL]
    | cons c xs ih =>
      intro z
      rw [List.foldl_cons, ih, TL.tl_append]
      simp [catL, List.append_assoc]
  have := h xs Str.empty
  have e : TL.tl Str.empty = [] := rfl
  rw [e, List.nil_append] at this
  exact this
theorem cmdsP_ok : ∀ (n : Nat) (l : List Nat) (xs : List Cm), cmdsP n l = some xs → catL xs = l ∧ ∀ x ∈ xs, x.right
  | n, [], xs, h => by
    have : xs = [] := by cases n <;> (cases h; rfl)
    subst this
    exact ⟨rfl, fun x hx => absurd hx List.not_mem_nil⟩
  | 0, c :: r, xs, h => by cases h
  | n + 1, c :: r, xs, h => by
    rw [cmdsP] at h
    split at h
    · cases h
    · rename_i x q hx
      split at h
      · cases h
      · rename_i ys hy
        cases h
        obtain ⟨e1, g1⟩ := cmdP_ok hx
        obtain ⟨e2, g2⟩ := cmdsP_ok n q ys hy
        refine ⟨?_, fun y hy => ?_⟩
        · rw [← e1, ← e2]
          simp [catL]
        · rcases List.mem_cons.mp hy with rfl | hy
          · exact g1
          · exact g2 y hy
theorem txt_first (x : Cm) : ∃ c r, TL.tl x.txt = c :: r ∧ c ∉ TL.tl "0123456789" := by
  cases x with
  | p a b c => exact ⟨112, _, by show TL.tl ("p" ++ nu a ++ "q" ++ nu b ++ "r" ++ nu c) = _; simp only [TL.tl_append, List.append_assoc]; rfl, by decide +kernel⟩
  | w a b => exact ⟨119, _, by show TL.tl ("w" ++ nu a ++ "x" ++ nu b) = _; simp only [TL.tl_append, List.append_assoc]; rfl, by decide +kernel⟩
  | k a b c => exact ⟨107, _, by show TL.tl ("k" ++ nu a ++ "b" ++ nu b ++ "v" ++ nu c) = _; simp only [TL.tl_append, List.append_assoc]; rfl, by decide +kernel⟩
  | d a s => exact ⟨100, _, by show TL.tl ("d" ++ nu a ++ "z" ++ s ++ "z") = _; simp only [TL.tl_append, List.append_assoc]; rfl, by decide +kernel⟩
theorem catL_cons (x : Cm) (xs : List Cm) : catL (x :: xs) = TL.tl x.txt ++ catL xs := by simp [catL]
theorem catL_noDig : ∀ xs : List Cm, NoDig (catL xs)
  | [] => fun c h => by cases h
  | x :: xs => by
    obtain ⟨c, r, e, h⟩ := txt_first x
    rw [catL_cons, e]
    exact noDig_cons h
theorem cmdsP_cat : ∀ (xs : List Cm) (n : Nat), (∀ x ∈ xs, x.right) → xs.length ≤ n → cmdsP n (catL xs) = some xs
  | [], n, _, _ => by cases n <;> rfl
  | x :: xs, 0, _, h => by simp at h
  | x :: xs, n + 1, g, h => by
    have ih := cmdsP_cat xs n (fun y hy => g y (List.mem_cons_of_mem _ hy)) (by simpa using h)
    have hx := cmdP_txt (g x List.mem_cons_self) (catL_noDig xs)
    obtain ⟨c, r, e, _⟩ := txt_first x
    rw [catL_cons]
    rw [e, List.cons_append] at hx ⊢
    rw [cmdsP, hx]
    dsimp only
    rw [ih]
theorem cat_long : ∀ xs : List Cm, xs.length ≤ (catL xs).length
  | [] => Nat.le_refl _
  | x :: xs => by
    have := cat_long xs
    obtain ⟨c, r, e, _⟩ := txt_first x
    rw [catL_cons, List.length_append, e, List.length_cons, List.length_cons]
    omega
theorem cmdsOf_cat {xs : List Cm} (g : ∀ x ∈ xs, x.right) : cmdsOf (cat xs) = xs := by
  unfold cmdsOf
  rw [TL.len_tl, tl_cat, cmdsP_cat xs _ g (cat_long xs)]
  rfl
theorem cat_one (x : Cm) : cat [x] = x.txt := by
  refine TL.ext_tl ?_
  rw [tl_cat]
  simp [catL]
theorem cmdsOf_one {x : Cm} (g : x.right) : cmdsOf x.txt = [x] := by
  have := cmdsOf_cat (xs := [x]) fun y hy => by rw [List.mem_singleton.mp hy]; exact g
  rwa [cat_one] at this
theorem cmdsOf_right {z : Str} : ∀ x ∈ cmdsOf z, x.right := by
  unfold cmdsOf
  cases e : cmdsP z.length (TL.tl z) with
  | none => intro x hx; cases hx
  | some xs => exact (cmdsP_ok _ _ _ e).2
theorem cmdsOf_text {z : Str} : cmdsOf z = [] ∨ cat (cmdsOf z) = z := by
  unfold cmdsOf
  cases e : cmdsP z.length (TL.tl z) with
  | none => exact .inl rfl
  | some xs =>
    refine .inr (TL.ext_tl ?_)
    rw [tl_cat]
    exact (cmdsP_ok _ _ _ e).1
theorem cmdsOf_iff {x : Cm} : cmdsOf x.txt = [x] ↔ x.right := ⟨fun h => cmdsOf_right x (by rw [h]; exact List.mem_singleton.mpr rfl), cmdsOf_one⟩
theorem cmdsOf_long (z : Str) : (cmdsOf z).length ≤ z.length := by
  rcases cmdsOf_text (z := z) with h | h
  · rw [h]
    exact Nat.zero_le _
  · have := cat_long (cmdsOf z)
    rw [← tl_cat, h, ← TL.len_tl] at this
    exact this

def spReadC (C CE : Addr) : Sp := fun vs H Q E => ∃ (p : Addr) (z : Str) (i : Nat), vs = [.ref p] ∧ RdAt C H p z i ∧ z.length ≤ 1000 ∧ i < z.length ∧
  (∀ c q, cmdP ((TL.tl z).drop i) = some (c, q) → q = (TL.tl z).drop (i + c.txt.length) → i + c.txt.length ≤ z.length → ∀ t H', RdAt C H' p z (i + c.txt.length) → (∀ b o, b ≠ p → H b = some o → H' b = some o) → H t = none → CmAt H' t c → Q (.ref t) H') ∧
  (cmdP ((TL.tl z).drop i) = none → ∀ H', (∀ b o, b ≠ p → H b = some o → H' b = some o) → E (.ref CE) none H')
/-- what stands before each part, by its sign -/
def mksV (ms : List Nat) : List V := ms.map fun m => V.str ⟨#[m]⟩
theorem sign_ne {c d : Nat} (h : c ≠ d) : ((⟨#[c]⟩ : Str) == ⟨#[d]⟩) = false := beq_eq_false_iff_ne.mpr fun e => h (by simpa using e)
theorem marks_get (TE : TxtE w K mg a) (c : Nat) : (kdOf c = none ∧ [(("p" : Str), a.M_MARKS_p), ("w", a.M_MARKS_w), ("d", a.M_MARKS_d), ("k", a.M_MARKS_k)].lookup ⟨#[c]⟩ = none) ∨
    ∃ ms M, kdOf c = some ms ∧ [(("p" : Str), a.M_MARKS_p), ("w", a.M_MARKS_w), ("d", a.M_MARKS_d), ("k", a.M_MARKS_k)].lookup ⟨#[c]⟩ = some M ∧ (∀ H, SqT K H M (mksV ms)) ∧ ms.length ≤ 3 := by
  by_cases h1 : c = 112
  · subst h1
    exact .inr ⟨_, _, rfl, rfl, fun H => TE.s_MARKS_p H, by decide⟩
  by_cases h2 : c = 119
  · subst h2
    exact .inr ⟨_, _, rfl, rfl, fun H => TE.s_MARKS_w H, by decide⟩
  by_cases h3 : c = 100
  · subst h3
    exact .inr ⟨_, _, rfl, rfl, fun H => TE.s_MARKS_d H, by decide⟩
  by_cases h4 : c = 107
  · subst h4
    exact .inr ⟨_, _, rfl, rfl, fun H => TE.s_MARKS_k H, by decide⟩
  refine .inl ⟨by rw [kdOf, if_neg h1, if_neg h2, if_neg h3, if_neg h4], ?_⟩
  show [((⟨#[112]⟩ : Str), a.M_MARKS_p), (⟨#[119]⟩, a.M_MARKS_w), (⟨#[100]⟩, a.M_MARKS_d), (⟨#[107]⟩, a.M_MARKS_k)].lookup ⟨#[c]⟩ = none
  simp only [List.lookup, sign_ne h1, sign_ne h2, sign_ne h3, sign_ne h4]
/-- what is to come, behind the parts read so far -/
def contP (us : List V) (o : Option (List V × List Nat)) : Option (List V × List Nat) := o.map fun x => (us ++ x.1, x.2)
theorem contP_step {us : List V} {m : Nat} {ms l : List Nat} {v : V} {r : List Nat} (h : partP m l = some (v, r)) : contP us (partsP (m :: ms) l) = contP (us ++ [v]) (partsP ms r) := by
  rw [partsP, h]
  dsimp only
  cases partsP ms r with
  | none => rfl
  | some x => simp [contP]
theorem ok_Reader_read_command (TE : TxtE w K mg a) (T : Txt K mg a) : ∃ fd, FnOk P w K mg base (L2.CX P w) 3 a.d_Reader_read_command fd ["self"] (spReadC a.C_Reader a.C_BadCommand) ∧ Binds K fd ["self"] [] := by
  obtain ⟨fd, F, b⟩ := T.d_Reader_read_command.F
  obtain ⟨fd_Reader_skip, G_Reader_skip, b_Reader_skip⟩ := ok_Reader_skip (P := P) (w := w) (base := base) TE T
  obtain ⟨fd_Reader_read_code, G_Reader_read_code, b_Reader_read_code⟩ := ok_Reader_read_code (P := P) (w := w) (base := base) TE T
  obtain ⟨fd_Reader_read_number, G_Reader_read_number, b_Reader_read_number⟩ := ok_Reader_read_number (P := P) (w := w) (base := base) TE T
  refine ⟨fd, F.okX sc_Reader_read_command (fun vs H Q E h => ?_) (fun cdv A outer s H vs Q E hr h => ?_), b⟩
  · obtain ⟨_, _, _, rfl, _⟩ := h
    rfl
  · obtain ⟨p, z, i, rfl, ⟨dx, hp⟩, lz, li, k1, k2⟩ := h
    refine ⟨_, (pss_cons (ps_set (i := 1) sc_Reader_read_command.nd rfl (Or.inl rfl) (pe_ix ix_str (pe_fld (pv 0) rfl) (pe_fld (pv 0) rfl) (fun _ _ => rfl)))
      (pss_cons (ps_if (pt_cmpR op_notInKd (pv 1) (pe_glob (v := .ref a.P_MARKS) rfl TE.g_MARKS rfl) (by rfl))
      (pss_one (ps_raise rfl (takes_of rfl rfl rfl rfl) (pmk_own PySem.F.excBase_ValueError TE.x_BadCommand TE.g_BadCommand TE.kc_BadCommand (raises_own TE.b_BadCommand TE.t_BadCommand) rfl)))
      pss_nil)
      (pss_cons (ps_set (i := 2) sc_Reader_read_command.nd rfl (Or.inl rfl) (pe_lst pa_nil))
      (pss_cons (ps_for (passes_of rfl) rfl (pi_tup (pe_ix ix_kdict (pe_glob (v := .ref a.P_MARKS) rfl TE.g_MARKS rfl) (pv 1) (fun _ _ => rfl))) (pg_name (i := 3) sc_Reader_read_command.nd rfl (Or.inl rfl))
      (pss_cons (ps_expr (pe_meth (pv 0) T.cl_Reader T.me_Reader_skip G_Reader_skip (hr.mono (by decide)) b_Reader_skip .nil (L2.passes_call (W := fun c d _ H => E c d H) (E := E) (L2.takes_of rfl rfl rfl rfl) (fun _ _ _ _ h => h)) (pa_cons (pv 3) pa_nil)))
        (pss_cons (ps_set (i := 4) sc_Reader_read_command.nd rfl (Or.inl rfl) (pe_ifExp (pt_cmpR op_eq (pv 3) (pe_glob (v := (.str "z")) rfl T.c_CODE_END.choose_spec ⟨_, rfl⟩) (nomark _)) (pe_meth0 (pv 0) T.cl_Reader T.me_Reader_read_code G_Reader_read_code (hr.mono (by decide)) b_Reader_read_code .nil (L2.passes_call (W := fun c d _ H => E c d H) (E := E) (L2.takes_of rfl rfl rfl rfl) (fun _ _ _ _ h => h))) (pe_meth0 (pv 0) T.cl_Reader T.me_Reader_read_number G_Reader_read_number (hr.mono (by decide)) b_Reader_read_number .nil (L2.passes_call (W := fun c d _ H => E c d H) (E := E) (L2.takes_of rfl rfl rfl rfl) (fun _ _ _ _ h => h)))))
        (pss_one (ps_expr (pe_bm PySem.F.plainAttrs_list PySem.F.slot_list_append PySem.F.type_list_append mt_append (pv 2) (pa_cons (pv 4) pa_nil)))))))
      (pss_one (ps_ret (pe_tup (pa_cons (pv 1) (StX.pa_star (pv 2) pa_nil))))))))), ?_⟩
    walk_at "rs"
    refine ⟨p, _, dx, _, .str z, rfl, hp, T.cl_Reader, T.a_Reader_text, rfl, ?_⟩
    walk_at "rs"
    refine ⟨p, _, dx, _, .int (i : Int), rfl, hp, T.cl_Reader, T.a_Reader_at, rfl, ?_⟩
    walk_at "rs"
    obtain ⟨c, rest, ed⟩ : ∃ c rest, (TL.tl z).drop i = c :: rest := by
      cases e : (TL.tl z).drop i with
      | nil =>
        have := congrArg List.length e
        rw [List.length_drop, List.length_nil, ← TL.len_tl] at this
        omega
      | cons c rest => exact ⟨c, rest, rfl⟩
    have eg : (TL.tl z)[i]? = some c := by
      have : ((TL.tl z).drop i)[0]? = some c := by rw [ed]; rfl
      rw [List.getElem?_drop] at this
      simpa using this
    refine ⟨z, i, c, rfl, rfl, (by rw [sizeLine_eq]; omega), atI_nat eg, ?_⟩
    walk_at "rs"
    refine ⟨_, _, _, rfl, rfl, TE.tab_MARKS.has _, ?_⟩
    rcases marks_get TE c with ⟨hk, hm⟩ | ⟨ms, M, hk, hm, hM, lm⟩
    · have ex : cmdP ((TL.tl z).drop i) = none := by rw [ed, cmdP, hk]
      rw [hm]
      walk_at "rs"
      exact k2 ex H fun b o _ e => e
    have ex : ∀ vs q, partsP ms ((TL.tl z).drop i) = some (vs, q) → cmdP ((TL.tl z).drop i) = some (mkC c vs, q) := fun vs q e => by
      rw [ed] at e ⊢
      rw [cmdP, hk]
      dsimp only
      rw [e]
    have ex0 : partsP ms ((TL.tl z).drop i) = none → cmdP ((TL.tl z).drop i) = none := fun e => by
      rw [ed] at e ⊢
      rw [cmdP, hk]
      dsimp only
      rw [e]
    rw [hm]
    walk_at "rs"
    refine iteF ?_
    walk_at "rs"
    refine ⟨(by show 0 ≤ sizeLine; decide), fun L hL => ?_⟩
    have pL : p ≠ L := fun e => by rw [← e, hp] at hL; cases hL
    walk_at "rs"
    refine ⟨_, _, _, rfl, rfl, TE.tab_MARKS.get hm, ?_⟩
    refine ⟨_, rfl, ⟨_, hM _⟩, for_tup (K := K) (a := M) (xs := mksV ms) (fun n σ H2 => ∃ (v3 v4 : Option V) (j : Nat) (us : List V), σ = [some (.ref p), some (.str ⟨#[c]⟩), some (.ref L), v3, v4] ∧ RdAt a.C_Reader H2 p z j ∧ j ≤ z.length ∧ H2 L = some (.lst us) ∧ us.length = n ∧
        (∀ b o, b ≠ p → H b = some o → H2 b = some o) ∧ partsP ms ((TL.tl z).drop i) = contP us (partsP (ms.drop n) ((TL.tl z).drop j)))
      ⟨none, none, i, [], rfl, ⟨dx, by rw [upd_ne pL]; exact hp⟩, Nat.le_of_lt li, upd_same, rfl, fun b o _ e => by rw [upd_ne (fun q => by rw [q, hL] at e; cases e)]; exact e, by
        rw [List.drop_zero]
        cases partsP ms ((TL.tl z).drop i) <;> rfl⟩ (fun _ _ _ _ _ => hM _) ?_ ?_⟩
    · rintro n y σ H2 hy ⟨v3, v4, j, us, rfl, ⟨dx2, hp2⟩, lj, hL2, lu, kp, er⟩
      obtain ⟨m, hm2, rfl⟩ : ∃ m, ms[n]? = some m ∧ y = V.str ⟨#[m]⟩ := by
        unfold mksV at hy
        rw [List.getElem?_map] at hy
        cases e : ms[n]? with
        | none => rw [e] at hy; cases hy
        | some m => rw [e] at hy; cases hy; exact ⟨m, rfl, rfl⟩
      have hn := (List.getElem?_eq_some_iff.mp hm2).1
      have em : ms.drop n = m :: ms.drop (n + 1) := by
        rw [List.drop_eq_getElem_cons hn, (List.getElem?_eq_some_iff.mp hm2).2]
      rw [em] at er
      have bad : partP m ((TL.tl z).drop j) = none → cmdP ((TL.tl z).drop i) = none := fun e => ex0 (by
        rw [er, partsP, e]
        rfl)
      walk_at "rs"
      refine ⟨p, dx2, _, rfl, hp2, rfl, ?_⟩
      walk_at "rs"
      refine ⟨p, z, m, j, rfl, ⟨dx2, hp2⟩, lz, lj, fun e H3 h3 kp3 => ?_, fun e => ?_⟩
      · have lj1 : j < z.length := by
          rw [TL.len_tl]
          exact (List.getElem?_eq_some_iff.mp e).1
        have ej : (TL.tl z).drop j = m :: (TL.tl z).drop (j + 1) := by
          rw [List.drop_eq_getElem_cons (by rw [← TL.len_tl]; exact lj1), (List.getElem?_eq_some_iff.mp e).2]
        rw [ej, partP, if_pos rfl] at bad
        obtain ⟨dx3, hp3⟩ := id h3
        have kp23 : ∀ b o, b ≠ p → H b = some o → H3 b = some o := fun b o q e => kp3 b o q (kp b o q e)
        walk_at "rs"
        have hL3 := kp3 _ _ (fun q => pL q.symm) hL2
        have partP_mk : ∀ {v : V} {r : List Nat}, (if m = 122 then codeP ((TL.tl z).drop (j + 1)) else numP ((TL.tl z).drop (j + 1))) = some (v, r) → partP m ((TL.tl z).drop j) = some (v, r) := fun q => by
          rw [ej, partP, if_pos rfl]
          exact q
        refine ite2 (fun c1 => ?_) (fun c1 => ?_)
        · have c1 : m = 122 := by
            have := of_decide_eq_true c1
            have z122 : (Str.ofString "z") = ⟨#[122]⟩ := rfl
            rw [z122] at this
            simpa using this
          rw [if_pos c1] at bad partP_mk
          have ec : codeP ((TL.tl z).drop (j + 1)) = if (TL.tl z)[j + 1 + (codeAt z (j + 1)).length]? = some 122 then some (.str ⟨(codeAt z (j + 1)).toArray⟩, (TL.tl z).drop (j + 1 + (codeAt z (j + 1)).length + 1)) else none := by
            unfold codeP
            rw [code_len, List.getElem?_drop, List.drop_drop]
            rfl
          walk_at "rs"
          refine ⟨p, dx3, _, rfl, hp3, rfl, ?_⟩
          walk_at "rs"
          refine ⟨p, z, j + 1, rfl, h3, lz, lj1, fun e H4 ⟨dx4, hp4⟩ kp4 => ?_, fun e H4 kp4 => ?_⟩
          · rw [if_pos e] at ec
            have hL4 := kp4 _ _ (fun q => pL q.symm) hL3
            have lj4 : j + 1 + (codeAt z (j + 1)).length + 1 ≤ z.length := by
              rw [TL.len_tl]
              exact (List.getElem?_eq_some_iff.mp e).1
            walk_at "rs"
            refine ⟨.inl ⟨rfl, _, SqL.of hL4⟩, ?_⟩
            walk_at "rs"
            refine ⟨L, _, _, rfl, rfl, hL4, small1000 (by omega), ?_⟩
            refine ⟨_, _, j + 1 + (codeAt z (j + 1)).length + 1, us ++ [V.str ⟨(codeAt z (j + 1)).toArray⟩], rfl, ⟨dx4, by rw [upd_ne pL]; exact hp4⟩, lj4, upd_same, by rw [List.length_append, lu]; rfl, fun b o q e => ?_, ?_⟩
            · rw [upd_ne (fun q => by rw [q, hL] at e; cases e)]
              exact kp4 b o q (kp23 b o q e)
            · rw [er, contP_step (partP_mk (ec))]
          · rw [if_neg e] at ec
            exact k2 (bad ec) H4 fun b o q e => kp4 b o q (kp23 b o q e)
        · have c1 : ¬ m = 122 := fun q => c1 (decide_eq_true (by rw [q]; rfl))
          rw [if_neg c1] at bad partP_mk
          have ec : numP ((TL.tl z).drop (j + 1)) = if NumW (digsAt z (j + 1)) then some (.int (NumText.digitsVal (digsAt z (j + 1)) : Nat), (TL.tl z).drop (j + 1 + (digsAt z (j + 1)).length)) else none := by
            unfold numP
            rw [digs_len, List.drop_drop]
            rfl
          walk_at "rs"
          refine ⟨p, dx3, _, rfl, hp3, rfl, ?_⟩
          walk_at "rs"
          refine ⟨p, z, j + 1, rfl, h3, lz, lj1, fun e H4 ⟨dx4, hp4⟩ kp4 => ?_, fun e H4 kp4 => ?_⟩
          · rw [if_pos e] at ec
            have hL4 := kp4 _ _ (fun q => pL q.symm) hL3
            have lj4 : j + 1 + (digsAt z (j + 1)).length ≤ z.length := by
              rw [digs_len]
              have := run_le (TL.tl "0123456789") ((TL.tl z).drop (j + 1))
              rw [List.length_drop, ← TL.len_tl] at this
              omega
            walk_at "rs"
            refine ⟨.inl ⟨rfl, _, SqL.of hL4⟩, ?_⟩
            walk_at "rs"
            refine ⟨L, _, _, rfl, rfl, hL4, small1000 (by omega), ?_⟩
            refine ⟨_, _, j + 1 + (digsAt z (j + 1)).length, us ++ [V.int (NumText.digitsVal (digsAt z (j + 1)) : Nat)], rfl, ⟨dx4, by rw [upd_ne pL]; exact hp4⟩, lj4, upd_same, by rw [List.length_append, lu]; rfl, fun b o q e => ?_, ?_⟩
            · rw [upd_ne (fun q => by rw [q, hL] at e; cases e)]
              exact kp4 b o q (kp23 b o q e)
            · rw [er, contP_step (partP_mk (ec))]
          · rw [if_neg e] at ec
            exact k2 (bad ec) H4 fun b o q e => kp4 b o q (kp23 b o q e)
      · refine k2 (bad ?_) H2 kp
        cases ed2 : (TL.tl z).drop j with
        | nil => rfl
        | cons d r =>
          rw [partP, if_neg]
          intro q
          refine e ?_
          have : ((TL.tl z).drop j)[0]? = some d := by rw [ed2]; rfl
          rw [List.getElem?_drop] at this
          rw [← q]
          simpa using this
    · rintro σ H2 ⟨v3, v4, j, us, rfl, ⟨dx2, hp2⟩, lj, hL2, lu, kp, er⟩
      have ln : (mksV ms).length = ms.length := List.length_map _
      rw [ln, List.drop_length] at er
      have er : partsP ms ((TL.tl z).drop i) = some (us ++ [], (TL.tl z).drop j) := er
      rw [List.append_nil] at er
      have em := ex _ _ er
      have hmk := mk_ok hk (by rw [← ed]; exact er)
      have et := hmk.2.2.1
      rw [← ed] at et
      have ej : j = i + (mkC c us).txt.length := by
        have := congrArg List.length et
        rw [List.length_append, List.length_drop, List.length_drop, ← TL.len_tl, ← TL.len_tl] at this
        omega
      walk_at "rs"
      refine ⟨L, us, rfl, .inr (SqL.of hL2), ?_⟩
      walk_at "rs"
      refine ⟨by rw [sizeLine_eq]; simp; omega, fun t ht => ?_⟩
      refine k1 _ _ em (by rw [ej]) (by omega) t _ ⟨dx2, ?_⟩ ?_ ?_ ?_
      · rw [upd_ne (fun q => by rw [← q, hp2] at ht; cases ht), ← ej]
        exact hp2
      · intro b o q e
        rw [upd_ne (fun q => by rw [← q, kp b o ‹_› e] at ht; cases ht)]
        exact kp b o q e
      · cases e : H t with
        | none => rfl
        | some o =>
          by_cases q : t = p
          · rw [q, hp2] at ht
            cases ht
          · rw [kp t o q e] at ht
            cases ht
      · show upd H2 t _ t = _
        rw [upd_same, hmk.1, hmk.2.1]
        simp

/-- o.m() within a try: what the method lets out is wished for at the slots -/
def tMethT0 (C : Addr) (m : Str) (sp : Sp) (E : L2.St → XK) (ta : TE) : TE := fun σ H Q => ta σ H fun x H1 => ∃ (j dx : Addr) (fs : List (Str × V)), x = V.ref j ∧ H1 j = some (HO.ins C dx fs) ∧ fs.lookup m = Option.none ∧ sp [x] H1 Q (E σ)
theorem pe_methT0 {X : Cx} {CX : CXT} {k : Nat} {f C : Addr} {fd : FuncData} {ps : List Str} {sp : Sp} {E : L2.St → XK} {m : Str} {apos pos : Pos} {o : Expr} {ta : TE} {pl : Sem Bool} (he : PE X o ta) (c : L2.Cls X.K C) (hm : L2.Meth X.K C m f) (F : FnOk X.prog X.w X.K X.mg X.base CX k f fd ps sp)
    (hr : Room k X.A) (hb : Binds X.K fd ps []) (hx : ∀ σ, PassesAt CX X σ (E σ))
    (text : eval (.Call (.Attribute o m apos) [] [] pos) X.env = (do let ov ← eval o X.env; standAt apos.atName; let (f, first) ← holding [ov] (getMethod ov m pl); callWith pos f first (backTo pos (starEach [] X.env)) (backToKw pos (keywordEach [] X.env))) := by rfl) :
    PE X (.Call (.Attribute o m apos) [] [] pos) (tMethT0 C m sp E ta) := by
  constructor
  intro pins s σ H Q I hyp
  refine PySem.W.methodCall_KW (pl := pl) (thn (he.run pins s σ H _ I hyp) fun u s1 got => ?_) text
  obtain ⟨x, H1, I1, rx, j, dx, fs, ex, ej, nf, q⟩ := got
  subst ex
  have eu : u = Value.ref j := rx
  subst eu
  refine getmeth_ok I1 ej c hm nf ?_
  exact PySem.W.callWith_K0 (first := [Value.ref j]) I1.kIn hm.kp (run_fnS (us := [Value.ref j]) (vs := [V.ref j]) F hr hb (hx σ) I1 (.cons rfl .nil) q)

def spCof (K : PySem.W.Frag) : Sp := fun vs H Q _ => ∃ z : Str, vs = [.str z] ∧ z.length ≤ 1000 ∧ ∀ (q : Addr) (ps : List Addr) H', Same H H' → H q = none → H' q = some (.lst (ps.map V.ref)) → CmsAt H' ps (cmdsOf z) → Q (.ref q) H'
theorem CmsAt.snoc {H : Hp} {ps : List Addr} {cs : List Cm} {p : Addr} {c : Cm} (h : CmsAt H ps cs) (e : CmAt H p c) : CmsAt H (ps ++ [p]) (cs ++ [c]) := by
  refine ⟨by rw [List.length_append, List.length_append, h.1]; rfl, fun i hi => ?_⟩
  rw [List.length_append, List.length_singleton] at hi
  rw [List.getD_eq_getElem?_getD, List.getD_eq_getElem?_getD]
  rcases Nat.lt_or_ge i cs.length with z | z
  · rw [List.getElem?_append_left (by rw [h.1]; exact z), List.getElem?_append_left z, ← List.getD_eq_getElem?_getD, ← List.getD_eq_getElem?_getD]
    exact h.2 i z
  · have ei : i = cs.length := by omega
    rw [ei, List.getElem?_append_right (Nat.le_of_eq h.1), List.getElem?_append_right (Nat.le_refl _), h.1, Nat.sub_self]
    exact e
theorem ok_commands_of (TE : TxtE w K mg a) (T : Txt K mg a) : ∃ fd, FnOk P w K mg base CX0 4 a.d_commands_of fd ["block"] (spCof K) ∧ Binds K fd ["block"] [] := by
  obtain ⟨fd, F, b⟩ := T.d_commands_of.F
  obtain ⟨fd_Reader_init, G_Reader_init, b_Reader_init⟩ := ok_Reader_init (P := P) (w := w) (base := base) T
  obtain ⟨fd_Reader_read_command, G_Reader_read_command, b_Reader_read_command⟩ := ok_Reader_read_command (P := P) (w := w) (base := base) TE T
  refine ⟨fd, F.ok sc_commands_of (fun vs H Q E h => ?_) (fun cdv A outer s H vs Q E hr h => ?_), b⟩
  · obtain ⟨_, rfl, _⟩ := h
    rfl
  · obtain ⟨z, rfl, lz, k⟩ := h
    refine ⟨_, (pss_cons (ps_set (i := 1) sc_commands_of.nd rfl (Or.inl rfl) (pe_make T.m_Reader G_Reader_init (hr.mono (by decide)) (by rfl) T.g_Reader b_Reader_init .nil pass0 (pa_cons (pv 0) pa_nil)))
      (pss_cons (ps_set (i := 2) sc_commands_of.nd rfl (Or.inl rfl) (pe_lst pa_nil))
      (pss_cons (ps_try_only rfl rfl ⟨rfl, by decide, .inl TE.g_BadCommand⟩ takes0 (fun W pn xe tk po => (pss_one (ps_while po (pt_cmpR op_lt (pe_fldK (K := K) rfl (pv 1) rfl) (pe_callB call_len_str (by rfl) T.n_len PySem.boot_len (pa_cons (pv 0) pa_nil)) (nomark _)) (pss_one (ps_expr (pe_bmK (K := K) rfl PySem.F.plainAttrs_list PySem.F.slot_list_append PySem.F.type_list_append mt_append (pv 2) (pa_cons (pe_methT0 (pv 1) T.cl_Reader T.me_Reader_read_command G_Reader_read_command (hr.mono (by decide)) b_Reader_read_command (E := fun σ cls d H => W cls d σ H) (fun σ => passAt tk σ)) pa_nil))))))) (fun ae oe cls d pn hz hf => (pss_one (ps_ret (pe_lst pa_nil)))))
      (pss_one (ps_ret (pv 2)))))), ?_⟩
    walk_at "rs"
    intro rd dx hrd hdx ndx
    refine ⟨rd, dx, z, rfl, upd_same, fun H1 h1 keep => ?_⟩
    have s1 : Same H H1 := fun b o e => keep b o (fun q => by rw [q, hrd] at e; cases e) (by rw [upd_ne (fun q => by rw [q, hrd] at e; cases e), upd_ne (fun q => by rw [q, hdx] at e; cases e)]; exact e)
    refine ⟨rfl, ?_⟩
    clear keep
    walk_at "rs"
    refine ⟨(by show 0 ≤ sizeLine; decide), fun L hL => ?_⟩
    have hL0 := s1.free hL
    have rL : rd ≠ L := fun e => by
      obtain ⟨d, h⟩ := h1
      rw [e, hL] at h
      cases h
    have s2 := same_new (o := .lst []) hL
    walk_at "rs"
    refine ⟨fun m σ H2 => ∃ (j n : Nat) (ps : List Addr) (cs : List Cm), m = z.length - j ∧ σ = [some (.str z), some (.ref rd), some (.ref L)] ∧ RdAt a.C_Reader H2 rd z j ∧ j ≤ z.length ∧ H2 L = some (.lst (ps.map V.ref)) ∧ CmsAt H2 ps cs ∧ Same H H2 ∧ z.length - j ≤ n ∧ cs.length ≤ j ∧
        cmdsP z.length (TL.tl z) = (cmdsP n ((TL.tl z).drop j)).map (cs ++ ·),
      ⟨_, 0, z.length, [], [], rfl, rfl, h1.elim fun d h => ⟨d, by rw [upd_ne rL]; exact h⟩, Nat.zero_le _, upd_same, ⟨rfl, fun i hi => absurd hi (Nat.not_lt_zero i)⟩, s1.trans s2, Nat.le_of_eq (Nat.sub_zero _), Nat.le_refl _, by
        rw [List.drop_zero]
        cases cmdsP z.length (TL.tl z) <;> rfl⟩, ?_⟩
    clear s2 h1
    rintro m σ H2 ⟨j, n, ps, cs, rfl, rfl, ⟨dx2, h2⟩, lj, hL2, hc, s2, ln, lcs, er⟩
    walk_at "rs"
    refine ⟨rd, _, dx2, _, .int (j : Int), rfl, h2, T.cl_Reader, T.a_Reader_at, rfl, ?_⟩
    walk_at "rs"
    refine ⟨(by rw [sizeLine_eq]; omega), ?_⟩
    walk_at "rs"
    refine ite2 (fun c1 => ?_) (fun c1 => ?_)
    · have c1 : j < z.length := by
        have := of_decide_eq_true c1
        omega
      obtain ⟨n, rfl⟩ : ∃ k, n = k + 1 := ⟨n - 1, by omega⟩
      obtain ⟨d, rest, ed⟩ : ∃ c rest, (TL.tl z).drop j = c :: rest := by
        cases e : (TL.tl z).drop j with
        | nil =>
          have := congrArg List.length e
          rw [List.length_drop, List.length_nil, ← TL.len_tl] at this
          omega
        | cons c rest => exact ⟨c, rest, rfl⟩
      refine ⟨fun σ' H' => ∃ (t : Addr) (x : Cm) (q : List Nat), cmdP ((TL.tl z).drop j) = some (x, q) ∧ q = (TL.tl z).drop (j + x.txt.length) ∧ j + x.txt.length ≤ z.length ∧ σ' = [some (.str z), some (.ref rd), some (.ref L)] ∧ RdAt a.C_Reader H' rd z (j + x.txt.length) ∧ H' L = some (.lst ((ps ++ [t]).map V.ref)) ∧ CmsAt H' (ps ++ [t]) (cs ++ [x]) ∧ Same H H', ?_, ?_⟩
      · rintro σ' H' ⟨t, x, q, e1, e2, e3, rfl, h4, hL4, hc4, s4⟩
        have lx : 0 < x.txt.length := by
          obtain ⟨c, r, e, _⟩ := txt_first x
          rw [TL.len_tl, e]
          exact Nat.succ_pos _
        refine ⟨z.length - (j + x.txt.length), by omega, j + x.txt.length, n, ps ++ [t], cs ++ [x], rfl, rfl, h4, e3, hL4, hc4, s4, by omega, by rw [List.length_append]; show cs.length + 1 ≤ _; omega, ?_⟩
        rw [er, ← e2]
        rw [ed] at e1 ⊢
        rw [cmdsP, e1]
        dsimp only
        cases cmdsP n q with
        | none => rfl
        | some xs => simp
      walk_at "rs"
      refine ⟨.inl ⟨rfl, _, SqL.of hL2⟩, ?_⟩
      walk_at "rs"
      refine ⟨rd, dx2, _, rfl, h2, rfl, ?_⟩
      have Lr : L ≠ rd := fun e => rL e.symm
      refine ⟨rd, z, j, rfl, ⟨dx2, h2⟩, lz, c1, fun x q e1 e2 e3 t H4 h4 kp ht ct => ?_, fun e H4 kp => ?_⟩
      · have s4 : Same H H4 := fun b o e => kp b o (fun q => by rw [q, hrd] at e; cases e) (s2 b o e)
        have tL : t ≠ L := fun e => by rw [e, hL2] at ht; cases ht
        walk_at "rs"
        refine ⟨L, _, _, rfl, rfl, kp _ _ Lr hL2, by rw [List.length_map, hc.1]; exact small1000 (by omega), ?_⟩
        refine ⟨t, x, q, e1, e2, e3, rfl, ?_, by rw [upd_same, List.map_append]; rfl, ?_, same_upd s4 hL0⟩
        · obtain ⟨d4, h4⟩ := h4
          exact ⟨d4, by rw [upd_ne rL]; exact h4⟩
        · have hne : ∀ {b : Addr} {y : Cm}, CmAt H2 b y → b ≠ rd ∧ b ≠ L := fun {b y} h => by
            have h : H2 b = some (.tup _) := h
            constructor
            · intro e
              rw [e, h2] at h
              cases h
            · intro e
              rw [e, hL2] at h
              cases h
          refine CmsAt.snoc ⟨hc.1, fun i hi => ?_⟩ ?_
          · have h := hc.2 i hi
            obtain ⟨n1, n2⟩ := hne h
            show upd H4 L _ _ = _
            rw [upd_ne n2]
            exact kp _ _ n1 h
          · show upd H4 L _ _ = _
            rw [upd_ne tL]
            exact ct
      · have s4 : Same H H4 := fun b o e => kp b o (fun q => by rw [q, hrd] at e; cases e) (s2 b o e)
        have eall : cmdsOf z = [] := by
          unfold cmdsOf
          rw [er]
          rw [ed] at e ⊢
          rw [cmdsP, e]
          rfl
        refine ⟨true, TE.exm_BadCommand_BadCommand, fun _ ex hex => ?_, fun z => nomatch z⟩
        walk_at "rs"
        refine ⟨(by show 0 ≤ sizeLine; decide), fun R hR => ?_⟩
        refine k R [] _ (s4.trans (same_new hR)) (s4.free hR) upd_same ?_
        rw [eall]
        exact ⟨rfl, fun i hi => absurd hi (Nat.not_lt_zero i)⟩
    · have c1 : j = z.length := by
        have : ¬ j < z.length := fun h => c1 (decide_eq_true (by omega))
        omega
      have eall : cmdsOf z = cs := by
        unfold cmdsOf
        rw [er, List.drop_of_length_le (by rw [← TL.len_tl]; omega)]
        cases n <;> simp [cmdsP]
      walk_at "rs"
      exact k L ps H2 s2 hL0 hL2 (by rw [eall]; exact hc)

/-! ### commands as data; checked_text -/
def vD : V → PyData
  | .int i => .int i
  | .str s => .str s
  | _ => .none
def Cm.dat (c : Cm) : PyData := .tuple (.str c.ki :: c.ps.map vD)
theorem dp_cm {H : Hp} {p : Addr} {c : Cm} (h : CmAt H p c) : Dp K H (.ref p) c.dat := by
  refine .tup (SqT.of h) ?_
  cases c with
  | p x y z => exact .cons (.str _) (.cons (.int _) (.cons (.int _) (.cons (.int _) .nil)))
  | w x y => exact .cons (.str _) (.cons (.int _) (.cons (.int _) .nil))
  | k x y z => exact .cons (.str _) (.cons (.int _) (.cons (.int _) (.cons (.int _) .nil)))
  | d x z => exact .cons (.str _) (.cons (.int _) (.cons (.str _) .nil))
theorem CmsAt.cons {H : Hp} {p : Addr} {ps : List Addr} {c : Cm} {cs : List Cm} (h : CmsAt H (p :: ps) (c :: cs)) : CmAt H p c ∧ CmsAt H ps cs :=
  ⟨h.2 0 (Nat.succ_pos _), Nat.succ.inj h.1, fun i hi => h.2 (i + 1) (Nat.succ_lt_succ hi)⟩
theorem dp_cms {H : Hp} : ∀ {ps : List Addr} {cs : List Cm}, CmsAt H ps cs → DpAll K H (ps.map V.ref) (cs.map Cm.dat)
  | [], [], _ => .nil
  | p :: ps, c :: cs, h => .cons (dp_cm h.cons.1) (dp_cms h.cons.2)
  | [], c :: cs, h => nomatch h.1
  | p :: ps, [], h => nomatch h.1
theorem ki_ok (c : Cm) : PyData.strOk c.ki = true := by
  cases c
  · exact (by decide +kernel : PyData.strOk "p" = true)
  · exact (by decide +kernel : PyData.strOk "w" = true)
  · exact (by decide +kernel : PyData.strOk "k" = true)
  · exact (by decide +kernel : PyData.strOk "d" = true)
/-- its text may stand in a heap -/
def Cm.sok : Cm → Prop
  | .d _ s => PyData.strOk s = true
  | _ => True
theorem Cm.ok.sok : ∀ {c : Cm}, c.ok → c.sok
  | .p _ _ _, _ => trivial
  | .w _ _, _ => trivial
  | .k _ _ _, _ => trivial
  | .d _ _, h => h.2.2
theorem Cm.right.sok : ∀ {c : Cm}, c.right → c.sok
  | .p _ _ _, _ => trivial
  | .w _ _, _ => trivial
  | .k _ _ _, _ => trivial
  | .d _ _, h => h.2.ok
theorem lay_cm {c : Cm} (h : c.sok) : PyData.canLay0 c.dat = true := by
  cases c <;> simp [Cm.dat, Cm.ps, vD, PyData.canLay0, PyData.canLayAll0, ki_ok]
  exact h
theorem depth_cm (c : Cm) : PyData.depth c.dat = 1 := by
  cases c <;> simp [Cm.dat, Cm.ps, vD, PyData.depth, PyData.depthAll]
theorem lay_cms : ∀ {cs : List Cm}, (∀ c ∈ cs, c.sok) → PyData.canLayAll0 (cs.map Cm.dat) = true
  | [], _ => by simp [PyData.canLayAll0]
  | c :: cs, o => by
    simp only [List.map_cons, PyData.canLayAll0]
    rw [lay_cm (o c List.mem_cons_self), lay_cms fun y hy => o y (List.mem_cons_of_mem _ hy)]
    rfl
theorem depth_cms : ∀ cs : List Cm, PyData.depthAll (cs.map Cm.dat) ≤ 1
  | [] => by simp [PyData.depthAll]
  | c :: cs => by
    have := depth_cms cs
    have := depth_cm c
    simp only [List.map_cons, PyData.depthAll]
    omega
theorem shaped_cm {c : Cm} (h : c.sok) : SeqAt.shaped c.dat = true := by
  unfold SeqAt.shaped
  rw [lay_cm h, depth_cm]
  rfl
theorem shaped_cms {cs : List Cm} (o : ∀ c ∈ cs, c.sok) : SeqAt.shaped (.list (cs.map Cm.dat)) = true := by
  have h := depth_cms cs
  unfold SeqAt.shaped
  have e : PyData.depth (.list (cs.map Cm.dat)) = PyData.depthAll (cs.map Cm.dat) + 1 := by simp only [PyData.depth]
  have l : PyData.canLay0 (.list (cs.map Cm.dat)) = true := by simp only [PyData.canLay0, lay_cms o]
  rw [l, e, decide_eq_true (show PyData.depthAll (cs.map Cm.dat) + 1 ≤ 64 by omega)]
  rfl
theorem eqv_cm (c d : Cm) : PyData.eqv c.dat d.dat = true ↔ c = d := by
  cases c <;> cases d <;> simp [Cm.dat, Cm.ps, Cm.ki, vD, PyData.eqv, PyData.eqvAll] <;> first | done | (intro h; exact absurd h (by decide +kernel)) | decide +kernel
theorem eqv_cms_all : ∀ cs ds : List Cm, PyData.eqvAll (cs.map Cm.dat) (ds.map Cm.dat) = true ↔ cs = ds
  | [], [] => by simp [PyData.eqvAll]
  | [], d :: ds => by simp [PyData.eqvAll]
  | c :: cs, [] => by simp [PyData.eqvAll]
  | c :: cs, d :: ds => by
    simp only [List.map_cons, PyData.eqvAll, Bool.and_eq_true, eqv_cm, eqv_cms_all cs ds, List.cons.injEq]
theorem eqv_cms (cs ds : List Cm) : PyData.eqv (.list (cs.map Cm.dat)) (.list (ds.map Cm.dat)) = true ↔ cs = ds := by
  rw [PyData.eqv]
  exact eqv_cms_all cs ds
theorem ne_cms {cs ds : List Cm} (h : (!PyData.eqv (.list (cs.map Cm.dat)) (.list (ds.map Cm.dat))) = true) : cs ≠ ds := fun e => by
  rw [(eqv_cms cs ds).mpr e] at h
  cases h
theorem not_ne_cms {cs ds : List Cm} (h : ¬ (!PyData.eqv (.list (cs.map Cm.dat)) (.list (ds.map Cm.dat))) = true) : cs = ds := by
  refine (eqv_cms cs ds).mp ?_
  simpa using h
def spChecked (K : PySem.W.Frag) (CE : Addr) : Sp := fun vs H Q E => ∃ (p : Addr) (c : Cm), vs = [.ref p] ∧ CmAt H p c ∧ c.ok ∧
  (c.txt.length ≤ 60 → c.right → ∀ H', Same H H' → Q (.str c.txt) H') ∧ (¬ (c.txt.length ≤ 60 ∧ c.right) → ∀ H', Same H H' → E (.ref CE) none H')
theorem ok_checked_text (TE : TxtE w K mg a) (T : Txt K mg a) : ∃ fd, FnOk P w K mg base (L2.CX P w) 5 a.d_checked_text fd ["command"] (spChecked K a.C_BadCommand) ∧ Binds K fd ["command"] [] := by
  obtain ⟨fd, F, b⟩ := T.d_checked_text.F
  obtain ⟨fd_command_text, G_command_text, b_command_text⟩ := ok_command_text (P := P) (w := w) (base := base) TE T
  obtain ⟨fd_commands_of, G_commands_of, b_commands_of⟩ := ok_commands_of (P := P) (w := w) (base := base) TE T
  refine ⟨fd, F.okX sc_checked_text (fun vs H Q E h => ?_) (fun cdv A outer s H vs Q E hr h => ?_), b⟩
  · obtain ⟨_, _, rfl, _⟩ := h
    rfl
  · obtain ⟨p, c, rfl, hp, ok, k1, k2⟩ := h
    refine ⟨_, (pss_cons (ps_if (PW.pt (pw_or (pt_cmpR op_eq (pe_callB call_len_seq (by rfl) T.n_len PySem.boot_len (pa_cons (pv 0) pa_nil)) pe_int (nomark _)) (pw_or1 (pt_cmpR op_notInKd (pe_ix ix_tup (pv 0) pe_int (fun _ _ => rfl)) (pe_glob (v := .ref a.P_MARKS) rfl TE.g_MARKS rfl) (by rfl)))))
      (pss_one (ps_raise rfl (takes_of rfl rfl rfl rfl) (pmk_own PySem.F.excBase_ValueError TE.x_BadCommand TE.g_BadCommand TE.kc_BadCommand (raises_own TE.b_BadCommand TE.t_BadCommand) rfl)))
      pss_nil)
      (pss_cons (ps_set (i := 1) sc_checked_text.nd rfl (Or.inl rfl) (pe_call G_command_text (hr.mono (by decide)) rfl T.d_command_text.g T.d_command_text.kp b_command_text .nil pass0 (pa_cons (pv 0) pa_nil)))
      (pss_cons (ps_if (pt_cmpR op_gt (pe_callB call_len_str (by rfl) T.n_len PySem.boot_len (pa_cons (pv 1) pa_nil)) (pe_glob (v := (.int 60)) rfl T.c_MOST_SIGNS.choose_spec ⟨_, rfl⟩) (nomark _))
      (pss_one (ps_raise rfl (takes_of rfl rfl rfl rfl) (pmk_own PySem.F.excBase_ValueError TE.x_BadCommand TE.g_BadCommand TE.kc_BadCommand (raises_own TE.b_BadCommand TE.t_BadCommand) rfl)))
      pss_nil)
      (pss_cons (ps_if (pt_cmpR (op_neD hr.units) (pe_call G_commands_of (hr.mono (by decide)) rfl T.d_commands_of.g T.d_commands_of.kp b_commands_of .nil pass0 (pa_cons (pv 1) pa_nil)) (pe_lst (pa_cons (pv 0) pa_nil)) (nomark _))
      (pss_one (ps_raise rfl (takes_of rfl rfl rfl rfl) (pmk_own PySem.F.excBase_ValueError TE.x_BadCommand TE.g_BadCommand TE.kc_BadCommand (raises_own TE.b_BadCommand TE.t_BadCommand) rfl)))
      pss_nil)
      (pss_one (ps_ret (pv 1))))))), ?_⟩
    walk_at "rs"
    have hp' : H p = some (.tup (.str c.ki :: c.ps)) := hp
    refine ⟨p, _, rfl, .inr (SqT.of hp'), ?_⟩
    walk_at "rs"
    refine ⟨p, _, _, _, rfl, rfl, SqT.of hp', atI_nat (j := 0) rfl, ?_⟩
    walk_at "rs"
    have eget : [(("p" : Str), a.M_MARKS_p), ("w", a.M_MARKS_w), ("d", a.M_MARKS_d), ("k", a.M_MARKS_k)].lookup c.ki = some (c.ma a) := by
      cases c <;> rfl
    refine ⟨_, _, _, rfl, rfl, TE.tab_MARKS.has _, ?_⟩
    rw [eget]
    walk_at "rs"
    refine ⟨p, c, rfl, hp, ok, fun H1 s1 => ?_⟩
    have tl := txt_len ok
    walk_at "rs"
    refine ⟨(by rw [sizeLine_eq]; omega), ?_⟩
    walk_at "rs"
    refine ite2 (fun c1 => ?_) (fun c1 => ?_)
    · have c1 : ¬ (c.txt.length ≤ 60 ∧ c.right) := fun h => by
        have := of_decide_eq_true c1
        omega
      exact k2 c1 H1 s1
    · have c1 : c.txt.length ≤ 60 := by
        have : ¬ (60 : Int) < (c.txt.length : Int) := fun h => c1 (decide_eq_true h)
        omega
      walk_at "rs"
      refine ⟨by omega, fun q ps H2 s2 hq hq2 hc => ?_⟩
      walk_at "rs"
      refine ⟨(by show 1 ≤ sizeLine; decide), fun l hl => ?_⟩
      have s3 := same_new (o := .lst [V.ref p]) hl
      have s12 := s1.trans s2
      refine ⟨.list ((cmdsOf c.txt).map Cm.dat), .list ([c].map Cm.dat), .lst (SqL.of (s3 _ _ hq2)) (dp_cms (hc.same s3)), .lst (SqL.of (xs := [V.ref p]) upd_same) (.cons (dp_cm (s3 _ _ (s12 _ _ hp))) .nil), shaped_cms fun x hx => (cmdsOf_right x hx).sok, shaped_cms fun x hx => by rw [List.mem_singleton.mp hx]; exact ok.sok, ?_⟩
      walk_at "rs"
      refine ite2 (fun c2 => ?_) (fun c2 => ?_)
      · exact k2 (fun h => ne_cms c2 (cmdsOf_one h.2)) _ (s12.trans s3)
      · walk_at "rs"
        exact k1 c1 (cmdsOf_iff.mp (not_ne_cms c2)) _ (s12.trans s3)

theorem CmsAt.nil {H : Hp} : CmsAt H [] [] := ⟨rfl, fun i hi => absurd hi (Nat.not_lt_zero i)⟩
theorem CmAt.upd {H : Hp} {p G : Addr} {c : Cm} {ys : List V} {o : HO} (h : CmAt H p c) (hG : H G = some (.lst ys)) : CmAt (upd H G o) p c := by
  have n : p ≠ G := fun e => by
    have h : H p = some (.tup _) := h
    rw [e, hG] at h
    cases h
  show L2.upd H G o p = _
  rw [upd_ne n]
  exact h
theorem CmsAt.upd {H : Hp} {ps : List Addr} {cs : List Cm} {G : Addr} {ys : List V} {o : HO} (h : CmsAt H ps cs) (hG : H G = some (.lst ys)) : CmsAt (upd H G o) ps cs := ⟨h.1, fun i hi => (h.2 i hi).upd hG⟩
theorem CmsAt.take {H : Hp} {ps : List Addr} {cs : List Cm} (h : CmsAt H ps cs) (n : Nat) : CmsAt H (ps.take n) (cs.take n) := by
  refine ⟨by rw [List.length_take, List.length_take, h.1], fun i hi => ?_⟩
  rw [List.length_take] at hi
  rw [List.getD_eq_getElem?_getD, List.getD_eq_getElem?_getD, List.getElem?_take, List.getElem?_take, if_pos (by omega), if_pos (by omega), ← List.getD_eq_getElem?_getD, ← List.getD_eq_getElem?_getD]
  exact h.2 i (by omega)
theorem good_len {c : Cm} (g : c.good) : c.txt.length ≤ 25 := by
  cases c with
  | p a b d =>
    obtain ⟨o1, o2, o3⟩ := g
    have := nu_len o1.w
    have := nu_len o2.w
    have := nu_len o3.w
    have l1 : ("p" : Str).length = 1 := rfl
    have l2 : ("q" : Str).length = 1 := rfl
    have l3 : ("r" : Str).length = 1 := rfl
    simp only [Cm.txt, PySem.Str.length_append]
    omega
  | w a b =>
    obtain ⟨o1, o2⟩ := g
    have := nu_len o1.w
    have := nu_len o2.w
    have l1 : ("w" : Str).length = 1 := rfl
    have l2 : ("x" : Str).length = 1 := rfl
    simp only [Cm.txt, PySem.Str.length_append]
    omega
  | k a b d =>
    obtain ⟨o1, o2, o3⟩ := g
    have := nu_len o1.w
    have := nu_len o2.w
    have := nu_len o3.w
    have l1 : ("k" : Str).length = 1 := rfl
    have l2 : ("b" : Str).length = 1 := rfl
    have l3 : ("v" : Str).length = 1 := rfl
    simp only [Cm.txt, PySem.Str.length_append]
    omega
  | d a s =>
    obtain ⟨o1, o2, _⟩ := g
    have := nu_len o1.w
    have l1 : ("d" : Str).length = 1 := rfl
    have l2 : ("z" : Str).length = 1 := rfl
    simp only [Cm.txt, PySem.Str.length_append]
    omega
theorem cat_len (cs : List Cm) : (cat cs).length = (cs.map fun c => c.txt.length).sum := by
  rw [TL.len_tl, tl_cat]
  unfold catL
  rw [List.length_flatten, List.map_map]
  congr 1
theorem good_sum : ∀ {cs : List Cm}, (∀ c ∈ cs, c.good) → (cs.map fun c => c.txt.length).sum ≤ 25 * cs.length
  | [], _ => Nat.le_refl _
  | c :: cs, g => by
    have := good_len (g c List.mem_cons_self)
    have := good_sum fun x hx => g x (List.mem_cons_of_mem _ hx)
    rw [List.map_cons, List.sum_cons, List.length_cons]
    omega
theorem join_cat (cs : List Cm) : Txt.join "" (cs.map Cm.txt) = cat cs := by
  refine TL.ext_tl ?_
  rw [TL.join_eq, TL.tl_join, tl_cat, List.map_map]
  have h : ∀ l : List (List Nat), TL.joinL (TL.tl "") l = l.flatten := fun l => by
    have e : TL.tl "" = [] := rfl
    rw [e]
    induction l with
    | nil => rfl
    | cons x r ih =>
      cases r with
      | nil => simp [TL.joinL]
      | cons y r =>
        rw [TL.joinL, ih]
        simp
  rw [h]
  rfl
theorem right_ok {c : Cm} (g : c.right) (h : c.txt.length ≤ 200) : c.ok := by
  cases c with
  | p a b d => exact ⟨g.1.w, g.2.1.w, g.2.2.w⟩
  | w a b => exact ⟨g.1.w, g.2.w⟩
  | k a b d => exact ⟨g.1.w, g.2.1.w, g.2.2.w⟩
  | d a s =>
    refine ⟨g.1.w, ?_, g.2.ok⟩
    simp only [Cm.txt, PySem.Str.length_append] at h
    omega
theorem mem_cat : ∀ {cs : List Cm} {c : Cm}, c ∈ cs → c.txt.length ≤ (cat cs).length
  | d :: cs, c, h => by
    rw [cat_len, List.map_cons, List.sum_cons]
    rcases List.mem_cons.mp h with rfl | h
    · omega
    · have := mem_cat h
      rw [cat_len] at this
      omega


/-! ### pools -/
theorem hu65 {k : Nat} {A : Around} (r : Room k A) : A.units + 65 < cLine := by
  have := r.un
  omega
/-- all but the object at l stays -/
def But (l : Addr) (H H' : Hp) : Prop := ∀ b o, b ≠ l → H b = some o → H' b = some o
def memC (cs : List Cm) (c : Cm) : Bool := (cs.map Cm.dat).any fun z => PyData.eqv z c.dat
theorem memC_iff {cs : List Cm} {c : Cm} : memC cs c = true ↔ c ∈ cs := by
  unfold memC
  rw [List.any_eq_true]
  constructor
  · rintro ⟨z, hz, e⟩
    obtain ⟨d, hd, rfl⟩ := List.mem_map.mp hz
    rw [← (eqv_cm d c).mp e]
    exact hd
  · intro h
    exact ⟨_, List.mem_map.mpr ⟨c, h, rfl⟩, (eqv_cm c c).mpr rfl⟩
/-- a pool and its list -/
def PlAt (C : Addr) (H : Hp) (j L : Addr) : Prop := ∃ dx, H j = some (.ins C dx [("waiting", .ref L)])
def spPInit (C : Addr) : Sp := fun vs H Q _ => ∃ (j dx : Addr), vs = [.ref j] ∧ H j = some (.ins C dx []) ∧ ∀ L H', H L = none → PlAt C H' j L → H' L = some (.lst []) → But j H H' → Q .non H'
/-- the commands behind one more -/
def aftP (ps : List Addr) (cs : List Cm) (p : Addr) (c : Cm) : List Addr := if memC cs c = true then ps else ps ++ [p]
def aftC (cs : List Cm) (c : Cm) : List Cm := if memC cs c = true then cs else cs ++ [c]
def spSubmit (C CE : Addr) : Sp := fun vs H Q E => ∃ (j L p : Addr) (ps : List Addr) (cs : List Cm) (c : Cm), vs = [.ref j, .ref p] ∧ PlAt C H j L ∧ H L = some (.lst (ps.map V.ref)) ∧ CmsAt H ps cs ∧ CmAt H p c ∧ c.ok ∧ (∀ x ∈ cs, x.ok) ∧ cs.length ≤ 900 ∧
  (c.txt.length ≤ 60 → c.right → ∀ H', But L H H' → PlAt C H' j L → H' L = some (.lst ((aftP ps cs p c).map V.ref)) → Q .non H') ∧ (¬ (c.txt.length ≤ 60 ∧ c.right) → ∀ H', Same H H' → E (.ref CE) none H')
theorem ok_Pool_init (T : Txt K mg a) : ∃ fd, FnOk P w K mg base CX0 1 a.d_Pool_init fd ["self"] (spPInit a.C_Pool) ∧ Binds K fd ["self"] [] := by
  obtain ⟨fd, F, b⟩ := T.d_Pool_init.F
  refine ⟨fd, F.ok sc_Pool_init (fun vs H Q E h => ?_) (fun cdv A outer s H vs Q E hr h => ?_), b⟩
  · obtain ⟨_, _, rfl, _⟩ := h
    rfl
  · obtain ⟨j, dx, rfl, hj, k⟩ := h
    refine ⟨_, (pss_one (ps_fld (pv 0) (pe_lst pa_nil) rfl)), ?_⟩
    walk_at "rs"
    refine ⟨(by show 0 ≤ sizeLine; decide), fun L hL => ?_⟩
    have jL : j ≠ L := fun e => by rw [e, hL] at hj; cases hj
    walk_at "rs"
    refine ⟨j, _, dx, [], rfl, by rw [upd_ne jL]; exact hj, T.cl_Pool, T.a_Pool_waiting, (by show 0 < 1000; decide), ?_⟩
    refine k L _ hL ⟨dx, by rw [upd_same]; rfl⟩ (by rw [upd_ne (fun e => jL e.symm)]; exact upd_same) fun b o n e => ?_
    rw [upd_ne n, upd_ne (fun q => by rw [q, hL] at e; cases e)]
    exact e
theorem ok_Pool_submit (TE : TxtE w K mg a) (T : Txt K mg a) : ∃ fd, FnOk P w K mg base (L2.CX P w) 6 a.d_Pool_submit fd ["self", "command"] (spSubmit a.C_Pool a.C_BadCommand) ∧ Binds K fd ["self", "command"] [] := by
  obtain ⟨fd, F, b⟩ := T.d_Pool_submit.F
  obtain ⟨fd_checked_text, G_checked_text, b_checked_text⟩ := ok_checked_text (P := P) (w := w) (base := base) TE T
  refine ⟨fd, F.okX sc_Pool_submit (fun vs H Q E h => ?_) (fun cdv A outer s H vs Q E hr h => ?_), b⟩
  · obtain ⟨_, _, _, _, _, _, rfl, _⟩ := h
    rfl
  · obtain ⟨j, L, p, ps, cs, c, rfl, ⟨dx, hj⟩, hL, hc, hp, ok, okc, few, k1, k2⟩ := h
    refine ⟨_, (pss_cons (ps_expr (pe_call G_checked_text (hr.mono (by decide)) rfl T.d_checked_text.g T.d_checked_text.kp b_checked_text .nil (L2.passes_call (W := fun c d _ H => E c d H) (E := E) (L2.takes_of rfl rfl rfl rfl) (fun _ _ _ _ h => h)) (pa_cons (pv 1) pa_nil)))
      (pss_one (ps_if (pt_cmpR (op_notInD (hu65 hr)) (pv 1) (pe_fld (pv 0) rfl) (by rfl))
      (pss_one (ps_expr (pe_bm PySem.F.plainAttrs_list PySem.F.slot_list_append PySem.F.type_list_append mt_append (pe_fld (pv 0) rfl) (pa_cons (pv 1) pa_nil))))
      pss_nil))), ?_⟩
    walk_at "rs"
    refine ⟨p, c, rfl, hp, ok, fun g1 g2 H1 s1 => ?_, k2⟩
    have k1 := k1 g1 g2
    have hj1 := s1 _ _ hj
    have hL1 := s1 _ _ hL
    have hc1 := hc.same s1
    have np := hc.1
    walk_at "rs"
    refine ⟨j, _, dx, _, .ref L, rfl, hj1, T.cl_Pool, T.a_Pool_waiting, rfl, ?_⟩
    refine ⟨c.dat, _, dp_cm (s1 _ _ hp), .lst (SqL.of hL1) (dp_cms hc1), shaped_cm ok.sok, shaped_cms fun x hx => (okc x hx).sok, ?_⟩
    unfold aftP memC at k1
    cases q : ((cs.map Cm.dat).any fun z => PyData.eqv z c.dat) with
    | true =>
      rw [q] at k1
      walk_at "rs"
      exact k1 H1 (fun b o _ e => s1 b o e) ⟨dx, hj1⟩ hL1
    | false =>
      rw [q] at k1
      have nj : j ≠ L := fun e => by rw [e, hL] at hj; cases hj
      walk_at "rs"
      refine ⟨j, _, dx, _, .ref L, rfl, hj1, T.cl_Pool, T.a_Pool_waiting, rfl, ?_⟩
      refine ⟨.inl ⟨rfl, _, SqL.of hL1⟩, ?_⟩
      walk_at "rs"
      refine ⟨L, _, _, rfl, rfl, hL1, by rw [List.length_map, np]; exact small1000 (by omega), ?_⟩
      exact k1 _ (fun b o nb e => by rw [upd_ne nb]; exact s1 b o e) ⟨dx, by rw [upd_ne nj]; exact hj1⟩ (by rw [upd_same]; simp)

/-! ### try .. except X as n .. else, round one assignment -/
section
variable {prog : Program} {w : World} {A : Around} {env : Env}
theorem assign_next {M : Model} {Γ : Ctx} {ts : List Expr} {v : Expr} {pos : Pos} {R R' : Flow → Pos → Shared → Prop} {E : Value → Pos → Shared → Prop} {p : Pos} {s : Shared}
    (h : ∀ p s, R .next p s → R' .next p s) (hw : Sem.wp M Γ (exec (.Assign ts v pos) env) R E p s) : Sem.wp M Γ (exec (.Assign ts v pos) env) R' E p s := by
  rw [arm_exec_Assign] at hw ⊢
  simp only [Sem.wp_bind'] at hw ⊢
  refine Sem.wp_mono M Γ _ (fun _ p1 s1 w1 => ?_) (fun _ _ _ z => z) p s hw
  refine Sem.wp_mono M Γ _ (fun b p2 s2 w2 => ?_) (fun _ _ _ z => z) p1 s1 w1
  cases b with
  | true =>
    simp only [if_true, Sem.wp_bind', Sem.wp_pure'] at w2 ⊢
    exact Sem.wp_mono M Γ _ (fun _ p3 s3 w3 => h p3 s3 w3) (fun _ _ _ z => z) p2 s2 w2
  | false =>
    simp only [Bool.false_eq_true, if_false, Sem.wp_bind'] at w2 ⊢
    refine Sem.wp_mono M Γ _ (fun x p3 s3 w3 => ?_) (fun _ _ _ z => z) p2 s2 w2
    refine Sem.wp_mono M Γ _ (fun y p4 s4 w4 => ?_) (fun _ _ _ z => z) p3 s3 w3
    unfold assignStores at w4 ⊢
    cases y with
    | none =>
      simp only [Sem.wp_bind', Sem.wp_pure'] at w4 ⊢
      exact Sem.wp_mono M Γ _ (fun _ p5 s5 w5 => h p5 s5 w5) (fun _ _ _ z => z) p4 s4 w4
    | some names =>
      simp only [Sem.wp_bind', Sem.wp_pure'] at w4 ⊢
      refine Sem.wp_mono M Γ _ (fun _ p5 s5 w5 => ?_) (fun _ _ _ z => z) p4 s4 w4
      refine Sem.wp_mono M Γ _ (fun _ p6 s6 w6 => ?_) (fun _ _ _ z => z) p5 s5 w5
      exact Sem.wp_mono M Γ _ (fun _ p7 s7 w7 => h p7 s7 w7) (fun _ _ _ z => z) p6 s6 w6
theorem try_cont {M : Model} {ts : List Expr} {v : Expr} {h₀ : ExceptHandler} {hs : List ExceptHandler} {orelse : List Stmt} {pos pos1 pb : Pos} {Q : Flow → Shared → Prop} {E : Value → Shared → Prop} {s : Shared}
    (hw : wpAny M A (exec (.Try [.Assign ts v pos1, .Continue pb] (h₀ :: hs) [] [] pos) env) (fun f s1 => Q f s1 ∧ (f = .cont → wpAny M A (execs orelse env) Q E s1)) E s) :
    wpAny M A (exec (.Try [.Assign ts v pos1] (h₀ :: hs) orelse [] pos) env) Q E s := fun Γ p hΓ => by
  have w1 := hw Γ p hΓ
  rw [arm_exec_Try] at w1 ⊢
  simp only [Sem.wp_bind'] at w1 ⊢
  refine Sem.wp_mono M Γ _ (fun _ p2 s2 w2 => ?_) (fun _ _ _ z => z) p s w1
  unfold tryStmt at w2 ⊢
  simp only [List.isEmpty_nil, if_true, Sem.wp_bind', Sem.wp_bind, Sem.attempt, Sem.wp_tryCatch', Sem.wp_tryCatch, Sem.wp_pure', Sem.wp_pure, arm_execs_cons, arm_execs_nil, arm_exec_Continue] at w2 ⊢
  refine assign_next (fun p3 s3 r => ?_) (Sem.wp_mono M Γ _ (fun _ _ _ z => z) (fun e p3 s3 w3 => ?_) p2 s2 w2)
  · simp only [Sem.wp_bind', Sem.wp_pure'] at r ⊢
    have r2 : Q .cont s3 ∧ (True → wpAny M A (execs orelse env) Q E s3) := r
    exact (r2.2 trivial) Γ _ hΓ
  · refine Sem.wp_mono M Γ _ (fun _ p4 s4 w4 => ?_) (fun _ _ _ z => z) p3 s3 w3
    exact Sem.wp_mono M Γ _ (fun _ p5 s5 w5 => w5.1) (fun _ _ _ z => z) p4 s4 w4
/-- what is proved of the try whose body goes on with continue, proves the try with an else -/
theorem ps_try_else {X : Cx} {ts : List Expr} {v : Expr} {h₀ : ExceptHandler} {hs : List ExceptHandler} {orelse : List Stmt} {pos pos1 pb : Pos} {t u : TS} (hT : PS X (.Try [.Assign ts v pos1, .Continue pb] (h₀ :: hs) [] [] pos) t) (ho : PSs X orelse u) :
    PS X (.Try [.Assign ts v pos1] (h₀ :: hs) orelse [] pos) (fun D σ H => t { D with ct := fun σ' H' => D.ct σ' H' ∧ u D σ' H' } σ H) := by
  refine ⟨fun pins s σ H D I h => try_cont (wpAny_mono (hT.run pins s σ H _ I h) (fun f s1 hsp => ?_) fun _ _ z => z)⟩
  cases f with
  | next => exact ⟨hsp, fun z => (nomatch z)⟩
  | brk => exact ⟨hsp, fun z => (nomatch z)⟩
  | cont =>
    obtain ⟨σ', H', I', c1, c2⟩ := hsp
    exact ⟨⟨σ', H', I', c1⟩, fun _ => ho.run pins s1 σ' H' D I' c2⟩
  | ret r => exact ⟨hsp, fun z => (nomatch z)⟩
end

theorem op_mulS {X : Cx} : OpR X (binaryOp .Mult) (fun x y H Q => ∃ (z : Str) (n : Int), x = .str z ∧ y = .int n ∧ MulOk z n ∧ Q (.str (Txt.mul z n)) H) := by
  intro pins s σ H x y v u Q I rx ry h
  obtain ⟨z, n, rfl, rfl, ok, q⟩ := h
  obtain ⟨t, rfl⟩ := rx
  obtain ⟨t', rfl⟩ := ry
  exact SB.mul ok fun t2 k => ⟨.str _, H, I.kept (t' := k) fun _ _ z => z, ⟨_, rfl⟩, q⟩
def Cm.vs (c : Cm) : List V := .str c.ki :: c.ps
/-- another number at a place -/
def Cm.put : Cm → Nat → Int → Cm
  | .p _ b c, 1, n => .p n b c
  | .p a _ c, 2, n => .p a n c
  | .p a b _, _, n => .p a b n
  | .k _ b c, 1, n => .k n b c
  | .k a _ c, 2, n => .k a n c
  | .k a b _, _, n => .k a b n
  | .w _ b, 1, n => .w n b
  | .w a _, _, n => .w a n
  | .d _ s, _, n => .d n s
/-- how many numbers -/
def Cm.cnt : Cm → Nat
  | .p _ _ _ => 3
  | .k _ _ _ => 3
  | .w _ _ => 2
  | .d _ _ => 1
theorem Cm.put_ok {c : Cm} {j : Nat} {n : Int} (h : c.ok) (hn : WOk n) : (c.put j n).ok := by
  cases c with
  | p a b d =>
    obtain ⟨h1, h2, h3⟩ := h
    match j with
    | 0 => exact ⟨h1, h2, hn⟩
    | 1 => exact ⟨hn, h2, h3⟩
    | 2 => exact ⟨h1, hn, h3⟩
    | j + 3 => exact ⟨h1, h2, hn⟩
  | k a b d =>
    obtain ⟨h1, h2, h3⟩ := h
    match j with
    | 0 => exact ⟨h1, h2, hn⟩
    | 1 => exact ⟨hn, h2, h3⟩
    | 2 => exact ⟨h1, hn, h3⟩
    | j + 3 => exact ⟨h1, h2, hn⟩
  | w a b =>
    obtain ⟨h1, h2⟩ := h
    match j with
    | 0 => exact ⟨h1, hn⟩
    | 1 => exact ⟨hn, h2⟩
    | j + 2 => exact ⟨h1, hn⟩
  | d a s => exact ⟨hn, h.2.1, h.2.2⟩
theorem Cm.put_vs {c : Cm} {j : Nat} {n : Int} (h1 : 1 ≤ j) (h2 : j ≤ c.cnt) : cutV c.vs none (some (j : Int)) ++ [V.int n] ++ cutV c.vs (some ((j : Int) + 1)) none = (c.put j n).vs := by
  cases c with
  | p a b d =>
    have h2 : j ≤ 3 := h2
    have : j = 1 ∨ j = 2 ∨ j = 3 := by omega
    rcases this with rfl | rfl | rfl <;> rfl
  | k a b d =>
    have h2 : j ≤ 3 := h2
    have : j = 1 ∨ j = 2 ∨ j = 3 := by omega
    rcases this with rfl | rfl | rfl <;> rfl
  | w a b =>
    have h2 : j ≤ 2 := h2
    have : j = 1 ∨ j = 2 := by omega
    rcases this with rfl | rfl <;> rfl
  | d a s =>
    have h2 : j ≤ 1 := h2
    have : j = 1 := by omega
    rw [this]
    rfl
theorem Cm.vs_len (c : Cm) : c.cnt + 1 ≤ c.vs.length ∧ c.vs.length ≤ 4 := by
  cases c
  · exact ⟨Nat.le_refl 4, Nat.le_refl 4⟩
  · exact ⟨Nat.le_refl 3, (by show 3 ≤ 4; decide)⟩
  · exact ⟨Nat.le_refl 4, Nat.le_refl 4⟩
  · exact ⟨(by show 2 ≤ 3; decide), (by show 3 ≤ 4; decide)⟩
theorem ki_d {x : Cm} (h : V.str x.ki = V.str "d") : ∃ a z, x = .d a z := by
  cases x with
  | d a z => exact ⟨a, z, rfl⟩
  | p a b c => exact absurd h (by intro e; exact absurd (V.str.inj e) (by show ¬ ("p" : Str) = "d"; decide +kernel))
  | w a b => exact absurd h (by intro e; exact absurd (V.str.inj e) (by show ¬ ("w" : Str) = "d"; decide +kernel))
  | k a b c => exact absurd h (by intro e; exact absurd (V.str.inj e) (by show ¬ ("k" : Str) = "d"; decide +kernel))
theorem mul_ones {n : Int} (h0 : 0 ≤ n) (h1 : n < 91) : MulOk "1" n ∧ (Txt.mul "1" n).length ≤ 90 ∧ PyData.strOk (Txt.mul "1" n) = true := by
  have h : ∀ i : Fin 91, MulOk "1" (i.val : Int) ∧ (Txt.mul "1" (i.val : Int)).length ≤ 90 ∧ PyData.strOk (Txt.mul "1" (i.val : Int)) = true := by
    unfold MulOk
    decide +kernel
  have := h ⟨n.toNat, by omega⟩
  rwa [show ((n.toNat : Nat) : Int) = n by omega] at this
def spSpoilt : Sp := fun vs H Q _ => ∃ c m : Int, vs = [.int c, .int m] ∧ ∀ (p : Addr) (x : Cm) H', Same H H' → CmAt H' p x → x.ok → Q (.ref p) H'
theorem ok_law_spoilt (T : Txt K mg a) : ∃ fd, FnOk P w K mg base CX0 4 a.d_law_spoilt fd ["cell", "more"] spSpoilt ∧ Binds K fd ["cell", "more"] [] := by
  obtain ⟨fd, F, b⟩ := T.d_law_spoilt.F
  obtain ⟨fd_law_command, G_law_command, b_law_command⟩ := ok_law_command (P := P) (w := w) (base := base) T
  refine ⟨fd, F.ok sc_law_spoilt (fun vs H Q E h => ?_) (fun cdv A outer s H vs Q E hr h => ?_), b⟩
  · obtain ⟨_, _, rfl, _⟩ := h
    rfl
  · obtain ⟨c, m, rfl, k⟩ := h
    refine ⟨_, (pss_cons (ps_set (i := 2) sc_law_spoilt.nd rfl (Or.inl rfl) (pe_call G_law_command (hr.mono (by decide)) rfl T.d_law_command.g T.d_law_command.kp b_law_command .nil pass0 (pa_cons (pv 0) (pa_cons (pv 1) pa_nil))))
      (pss_cons (ps_set (i := 3) sc_law_spoilt.nd rfl (Or.inl rfl) (pe_op op_mod (pe_op op_fdiv (pv 1) pe_int) pe_int))
      (pss_cons (ps_set (i := 4) sc_law_spoilt.nd rfl (Or.inl rfl) (pe_op op_add pe_int (pe_op op_mod (pe_op op_fdiv (pv 1) pe_int) (pe_dget (hu_of hr) (pe_disp (pps_cons pe_str pe_int (pps_cons pe_str pe_int (pps_cons pe_str pe_int (pps_cons pe_str pe_int pps_nil)))) rfl rfl (fun e => nomatch e) (by decide)) (pe_ix ix_tup (pv 2) pe_int (fun _ _ => rfl)) (fun _ _ => rfl)))))
      (pss_cons (ps_if (pt_cmpR op_eq (pv 3) pe_int (nomark _))
      (pss_one (ps_ret (pe_op op_catA (pe_op op_catA (pe_slice sl_tup (pv 2) po_none (po_some (pv 4))) (pe_tup (pa_cons (pe_op op_add pe_int (pe_op op_mod (pe_callTy call_int1 (by rfl) T.n_int (by decide +kernel) (pa_cons (pv 1) pa_nil)) pe_int)) pa_nil))) (pe_slice sl_tup (pv 2) (po_some (pe_op op_add (pv 4) pe_int)) po_none))))
      pss_nil)
      (pss_cons (ps_if (pt_cmpR op_eq (pv 3) pe_int (nomark _))
      (pss_one (ps_ret (pe_op op_catA (pe_op op_catA (pe_slice sl_tup (pv 2) po_none (po_some (pv 4))) (pe_tup (pa_cons (pe_op op_sub (pe_un un_neg pe_int) (pe_op op_mod (pe_callTy call_int1 (by rfl) T.n_int (by decide +kernel) (pa_cons (pv 1) pa_nil)) pe_int)) pa_nil))) (pe_slice sl_tup (pv 2) (po_some (pe_op op_add (pv 4) pe_int)) po_none))))
      pss_nil)
      (pss_cons (ps_if (PW.pt (pw_and (pt_cmpR op_eq (pv 3) pe_int (nomark _)) (pw_and1 (pt_cmpR op_eq (pe_ix ix_tup (pv 2) pe_int (fun _ _ => rfl)) pe_str (nomark _)))))
      (pss_one (ps_ret (pe_op op_catA (pe_slice sl_tup (pv 2) po_none (po_some pe_int)) (pe_tup (pa_cons (pe_op op_add_str (pe_ix ix_tup (pv 2) pe_int (fun _ _ => rfl)) (pe_ix ix_str pe_str (pe_op op_mod (pe_op op_fdiv (pv 1) pe_int) pe_int) (fun _ _ => rfl))) pa_nil)))))
      pss_nil)
      (pss_cons (ps_if (PW.pt (pw_and (pt_cmpR op_eq (pv 3) pe_int (nomark _)) (pw_and1 (pt_cmpR op_eq (pe_ix ix_tup (pv 2) pe_int (fun _ _ => rfl)) pe_str (nomark _)))))
      (pss_one (ps_ret (pe_op op_catA (pe_slice sl_tup (pv 2) po_none (po_some pe_int)) (pe_tup (pa_cons (pe_op op_mulS pe_str (pe_op op_mod (pe_op op_fdiv (pv 1) pe_int) pe_int)) pa_nil)))))
      pss_nil)
      (pss_one (ps_ret (pv 2)))))))))), ?_⟩
    walk_at "rs"
    refine ⟨_, _, rfl, fun p x H1 s1 hp0 hp gx => ?_⟩
    have hp' : H1 p = some (.tup x.vs) := hp
    obtain ⟨l1, l2⟩ := x.vs_len
    have m1 := Int.emod_nonneg m (show (50 : Int) ≠ 0 by decide)
    have m2 := Int.emod_lt_of_pos m (show (0 : Int) < 50 by decide)
    walk_at "rs"
    intro D hD
    walk_at "rs"
    have pD : p ≠ D := fun e => by rw [e, hD] at hp'; cases hp'
    have ev : valV (mergeK [] [((Sum.inr "p" : Key), V.int 3), (Sum.inr "k", V.int 3), (Sum.inr "w", V.int 2), (Sum.inr "d", V.int 1)]) (Sum.inr x.ki) = some (V.int x.cnt) := by
      cases x <;> rfl
    refine ⟨upd_same, [((Sum.inr "p" : Key), V.int 3), (Sum.inr "k", V.int 3), (Sum.inr "w", V.int 2), (Sum.inr "d", V.int 1)], rfl, by decide, ?_⟩
    rw [upd_upd]
    have s2 : Same H (upd H1 D (.dK (mergeK [] [((Sum.inr "p" : Key), V.int 3), (Sum.inr "k", V.int 3), (Sum.inr "w", V.int 2), (Sum.inr "d", V.int 1)]))) := s1.trans (same_new hD)
    have hp2 : (upd H1 D (.dK (mergeK [] [((Sum.inr "p" : Key), V.int 3), (Sum.inr "k", V.int 3), (Sum.inr "w", V.int 2), (Sum.inr "d", V.int 1)]))) p = some (.tup x.vs) := by rw [upd_ne pD]; exact hp'
    have hd2 : DGet (upd H1 D (.dK (mergeK [] [((Sum.inr "p" : Key), V.int 3), (Sum.inr "k", V.int 3), (Sum.inr "w", V.int 2), (Sum.inr "d", V.int 1)]))) D (kV (Sum.inr x.ki)) (valV (mergeK [] [((Sum.inr "p" : Key), V.int 3), (Sum.inr "k", V.int 3), (Sum.inr "w", V.int 2), (Sum.inr "d", V.int 1)]) (Sum.inr x.ki)) := DGet.k upd_same
    rw [ev] at hd2
    generalize (upd H1 D (.dK (mergeK [] [((Sum.inr "p" : Key), V.int 3), (Sum.inr "k", V.int 3), (Sum.inr "w", V.int 2), (Sum.inr "d", V.int 1)]))) = H2 at s2 hp2 hd2
    clear ev hp hp' pD hD s1 hp0
    walk_at "rs"
    refine ⟨p, _, _, _, rfl, rfl, SqT.of hp2, atI_nat (j := 0) rfl, ?_⟩
    refine ⟨D, _, rfl, hd2, ?_⟩
    have cpos : (0 : Int) < (x.cnt : Int) := by
      cases x
      · exact (by decide : (0 : Int) < ((3 : Nat) : Int))
      · exact (by decide : (0 : Int) < ((2 : Nat) : Int))
      · exact (by decide : (0 : Int) < ((3 : Nat) : Int))
      · exact (by decide : (0 : Int) < ((1 : Nat) : Int))
    have a1 := Int.emod_nonneg (m / 42) (Int.ne_of_gt cpos)
    have a2 := Int.emod_lt_of_pos (m / 42) cpos
    refine ⟨_, _, rfl, rfl, cpos, ?_⟩
    walk_at "rs"
    obtain ⟨j, ej⟩ : ∃ j : Nat, 1 + m / 42 % (x.cnt : Int) = (j : Int) := ⟨(1 + m / 42 % (x.cnt : Int)).toNat, by omega⟩
    have j1 : 1 ≤ j := by omega
    have j2 : j ≤ x.cnt := by omega
    have nw1 : ¬ (HT.sIx x.vs.length 0 none = 0 ∧ HT.sIx x.vs.length x.vs.length (some (j : Int)) = x.vs.length) := by
      rw [HT.sIx_nat]
      omega
    have nw2 : ¬ (HT.sIx x.vs.length 0 (some ((j : Int) + 1)) = 0 ∧ HT.sIx x.vs.length x.vs.length none = x.vs.length) := by
      rw [show (j : Int) + 1 = ((j + 1 : Nat) : Int) from rfl, HT.sIx_nat]
      omega
    have neA : cutV x.vs none (some (j : Int)) ≠ [] := fun e => by
      have := congrArg List.length e
      unfold cutV at this
      rw [HT.sIx_nat, HT.sIx_none, List.length_take, List.length_drop, List.length_nil] at this
      omega
    have lA := cutV_length x.vs none (some (j : Int))
    have lC := cutV_length x.vs (some ((j : Int) + 1)) none
    have hput := fun n => Cm.put_vs (c := x) (n := n) j1 j2
    rw [← ej] at nw1 nw2 neA lA lC
    simp only [← ej] at hput
    refine ite2 (fun c1 => ?_) (fun c1 => ?_)
    · walk_at "rs"
      refine ⟨p, _, rfl, SqT.of hp2, nw1, fun q1 hq1 => ?_⟩
      have t1 := same_new (o := .tup (cutV x.vs none (some (1 + m / 42 % (x.cnt : Int))))) hq1
      have e1 : (upd H2 q1 (.tup (cutV x.vs none (some (1 + m / 42 % (x.cnt : Int)))))) q1 = some (.tup (cutV x.vs none (some (1 + m / 42 % (x.cnt : Int))))) := upd_same
      generalize upd H2 q1 (.tup (cutV x.vs none (some (1 + m / 42 % (x.cnt : Int))))) = H3 at t1 e1 ⊢
      walk_at "rs"
      refine ⟨(by show 1 ≤ sizeLine; decide), fun q2 hq2 => ?_⟩
      have t2 := same_new (o := .tup [V.int (1000000 + m % 50)]) hq2
      have e2 : (upd H3 q2 (.tup [V.int (1000000 + m % 50)])) q2 = some (.tup [V.int (1000000 + m % 50)]) := upd_same
      have e1' := t2 _ _ e1
      generalize upd H3 q2 (.tup [V.int (1000000 + m % 50)]) = H4 at t2 e1' e2 ⊢
      refine ⟨q1, q2, _, _, rfl, rfl, SqT.of e1', SqT.of e2, by rw [sizeLine_eq]; simp; omega, fun h => absurd h neA, fun _ h => (nomatch h), fun _ _ q3 hq3 => ?_⟩
      have t3 := same_new (o := .tup (cutV x.vs none (some (1 + m / 42 % (x.cnt : Int))) ++ [V.int (1000000 + m % 50)])) hq3
      have e3 : (upd H4 q3 (.tup (cutV x.vs none (some (1 + m / 42 % (x.cnt : Int))) ++ [V.int (1000000 + m % 50)]))) q3 = some (.tup (cutV x.vs none (some (1 + m / 42 % (x.cnt : Int))) ++ [V.int (1000000 + m % 50)])) := upd_same
      generalize upd H4 q3 (.tup (cutV x.vs none (some (1 + m / 42 % (x.cnt : Int))) ++ [V.int (1000000 + m % 50)])) = H5 at t3 e3 ⊢
      have s5 := s2.trans (t1.trans (t2.trans t3))
      have hp5 := t3 _ _ (t2 _ _ (t1 _ _ hp2))
      walk_at "rs"
      refine ⟨p, _, rfl, SqT.of hp5, nw2, fun q4 hq4 => ?_⟩
      have t4 := same_new (o := .tup (cutV x.vs (some (1 + m / 42 % (x.cnt : Int) + 1)) none)) hq4
      have e4 : (upd H5 q4 (.tup (cutV x.vs (some (1 + m / 42 % (x.cnt : Int) + 1)) none))) q4 = some (.tup (cutV x.vs (some (1 + m / 42 % (x.cnt : Int) + 1)) none)) := upd_same
      have e3' := t4 _ _ e3
      generalize upd H5 q4 (.tup (cutV x.vs (some (1 + m / 42 % (x.cnt : Int) + 1)) none)) = H6 at t4 e3' e4 ⊢
      have hp' := hput (1000000 + m % 50)
      have okp : (x.put j (1000000 + m % 50)).ok := Cm.put_ok gx.ok ⟨by omega, by omega⟩
      refine ⟨q3, q4, _, _, rfl, rfl, SqT.of e3', SqT.of e4, by rw [sizeLine_eq]; simp; omega, fun h => absurd (List.append_eq_nil_iff.mp h).1 neA, fun _ h => ?_, fun _ _ q5 hq5 => ?_⟩
      · rw [h, List.append_nil] at hp'
        exact k q3 _ H6 (s5.trans t4) (by show H6 q3 = some (.tup (Cm.vs _)); rw [← hp']; exact e3') okp
      · refine k q5 _ _ (s5.trans (t4.trans (same_new hq5))) (by show upd H6 q5 _ q5 = some (.tup (Cm.vs _)); rw [← hp']; exact upd_same) okp
    walk_at "rs"
    refine ite2 (fun c2 => ?_) (fun c2 => ?_)
    · walk_at "rs"
      refine ⟨p, _, rfl, SqT.of hp2, nw1, fun q1 hq1 => ?_⟩
      have t1 := same_new (o := .tup (cutV x.vs none (some (1 + m / 42 % (x.cnt : Int))))) hq1
      have e1 : (upd H2 q1 (.tup (cutV x.vs none (some (1 + m / 42 % (x.cnt : Int)))))) q1 = some (.tup (cutV x.vs none (some (1 + m / 42 % (x.cnt : Int))))) := upd_same
      generalize upd H2 q1 (.tup (cutV x.vs none (some (1 + m / 42 % (x.cnt : Int))))) = H3 at t1 e1 ⊢
      walk_at "rs"
      refine ⟨(by show 1 ≤ sizeLine; decide), fun q2 hq2 => ?_⟩
      have t2 := same_new (o := .tup [V.int (-1 - m % 50)]) hq2
      have e2 : (upd H3 q2 (.tup [V.int (-1 - m % 50)])) q2 = some (.tup [V.int (-1 - m % 50)]) := upd_same
      have e1' := t2 _ _ e1
      generalize upd H3 q2 (.tup [V.int (-1 - m % 50)]) = H4 at t2 e1' e2 ⊢
      refine ⟨q1, q2, _, _, rfl, rfl, SqT.of e1', SqT.of e2, by rw [sizeLine_eq]; simp; omega, fun h => absurd h neA, fun _ h => (nomatch h), fun _ _ q3 hq3 => ?_⟩
      have t3 := same_new (o := .tup (cutV x.vs none (some (1 + m / 42 % (x.cnt : Int))) ++ [V.int (-1 - m % 50)])) hq3
      have e3 : (upd H4 q3 (.tup (cutV x.vs none (some (1 + m / 42 % (x.cnt : Int))) ++ [V.int (-1 - m % 50)]))) q3 = some (.tup (cutV x.vs none (some (1 + m / 42 % (x.cnt : Int))) ++ [V.int (-1 - m % 50)])) := upd_same
      generalize upd H4 q3 (.tup (cutV x.vs none (some (1 + m / 42 % (x.cnt : Int))) ++ [V.int (-1 - m % 50)])) = H5 at t3 e3 ⊢
      have s5 := s2.trans (t1.trans (t2.trans t3))
      have hp5 := t3 _ _ (t2 _ _ (t1 _ _ hp2))
      walk_at "rs"
      refine ⟨p, _, rfl, SqT.of hp5, nw2, fun q4 hq4 => ?_⟩
      have t4 := same_new (o := .tup (cutV x.vs (some (1 + m / 42 % (x.cnt : Int) + 1)) none)) hq4
      have e4 : (upd H5 q4 (.tup (cutV x.vs (some (1 + m / 42 % (x.cnt : Int) + 1)) none))) q4 = some (.tup (cutV x.vs (some (1 + m / 42 % (x.cnt : Int) + 1)) none)) := upd_same
      have e3' := t4 _ _ e3
      generalize upd H5 q4 (.tup (cutV x.vs (some (1 + m / 42 % (x.cnt : Int) + 1)) none)) = H6 at t4 e3' e4 ⊢
      have hp' := hput (-1 - m % 50)
      have okp : (x.put j (-1 - m % 50)).ok := Cm.put_ok gx.ok ⟨by omega, by omega⟩
      refine ⟨q3, q4, _, _, rfl, rfl, SqT.of e3', SqT.of e4, by rw [sizeLine_eq]; simp; omega, fun h => absurd (List.append_eq_nil_iff.mp h).1 neA, fun _ h => ?_, fun _ _ q5 hq5 => ?_⟩
      · rw [h, List.append_nil] at hp'
        exact k q3 _ H6 (s5.trans t4) (by show H6 q3 = some (.tup (Cm.vs _)); rw [← hp']; exact e3') okp
      · refine k q5 _ _ (s5.trans (t4.trans (same_new hq5))) (by show upd H6 q5 _ q5 = some (.tup (Cm.vs _)); rw [← hp']; exact upd_same) okp
    have fin : Q (.ref p) H2 := k p x H2 s2 hp2 gx.ok
    walk_at "rs"
    refine ite2 (fun c3 => ?_) (fun c3 => ?_)
    · walk_at "rs"
      refine ⟨p, _, _, _, rfl, rfl, SqT.of hp2, atI_nat (j := 0) rfl, ?_⟩
      walk_at "rs"
      refine ite2 (fun c4 => ?_) (fun c4 => ?_)
      · walk_at "rs"
        obtain ⟨a0, z, rfl⟩ := ki_d (of_decide_eq_true c4)
        refine ⟨p, _, rfl, SqT.of hp2, (by show ¬ (_ ∧ HT.sIx 3 3 (some ((2 : Nat) : Int)) = 3); rw [HT.sIx_nat]; omega), fun q1 hq1 => ?_⟩
        have t1 := same_new (o := .tup (cutV (Cm.vs (.d a0 z)) none (some 2))) hq1
        have e1 : (upd H2 q1 (.tup (cutV (Cm.vs (.d a0 z)) none (some 2)))) q1 = some (.tup [.str "d", .int a0]) := upd_same
        generalize upd H2 q1 (.tup (cutV (Cm.vs (.d a0 z)) none (some 2))) = H3 at t1 e1 ⊢
        walk_at "rs"
        refine ⟨p, _, _, _, rfl, rfl, SqT.of (t1 _ _ hp2), atI_nat (j := 2) rfl, ?_⟩
        walk_at "rs"
        have b0 := Int.emod_nonneg (m / 42) (show (5 : Int) ≠ 0 by decide)
        have b1 := Int.emod_lt_of_pos (m / 42) (show (0 : Int) < 5 by decide)
        have l5 : (TL.tl "zqxp_").length = 5 := by decide +kernel
        refine ⟨_, _, _, rfl, rfl, (by rw [sizeLine_eq]; decide +kernel), at_sign (l := TL.tl "zqxp_") b0 (by rw [l5]; omega), ?_⟩
        have hsg : (TL.tl "zqxp_").getD (m / 42 % 5).toNat 0 < 1114112 := by
          have : ∀ i : Fin 5, (TL.tl "zqxp_").getD i.val 0 < 1114112 := by decide +kernel
          exact this ⟨(m / 42 % 5).toNat, by omega⟩
        generalize (TL.tl "zqxp_").getD (m / 42 % 5).toNat 0 = sg at hsg ⊢
        have l1 : (⟨#[sg]⟩ : Str).length = 1 := rfl
        have l12 := gx.2.1
        walk_at "rs"
        refine ⟨by rw [l1, sizeLine_eq]; omega, ?_⟩
        walk_at "rs"
        refine ⟨(by show 1 ≤ sizeLine; decide), fun q2 hq2 => ?_⟩
        have t2 := same_new (o := .tup [V.str (z ++ ⟨#[sg]⟩)]) hq2
        have e2 : (upd H3 q2 (.tup [V.str (z ++ ⟨#[sg]⟩)])) q2 = some (.tup [V.str (z ++ ⟨#[sg]⟩)]) := upd_same
        have e1' := t2 _ _ e1
        generalize upd H3 q2 (.tup [V.str (z ++ ⟨#[sg]⟩)]) = H4 at t2 e1' e2 ⊢
        refine ⟨q1, q2, _, _, rfl, rfl, SqT.of e1', SqT.of e2, (by rw [sizeLine_eq]; show 2 + 1 ≤ _; decide), fun h => (nomatch h), fun _ h => (nomatch h), fun _ _ q3 hq3 => ?_⟩
        refine k q3 (.d a0 (z ++ ⟨#[sg]⟩)) _ (s2.trans (t1.trans (t2.trans (same_new hq3)))) (by show upd H4 q3 _ q3 = _; exact upd_same) ⟨gx.1.w, by rw [PySem.Str.length_append, l1]; omega, strOk_cps fun c hc => ?_⟩
        rw [TL.tl_append] at hc
        rcases List.mem_append.mp hc with hc | hc
        · have : ∀ c ∈ TL.tl "0123456789ginasmtcehlujfyo", c < 1114112 := by decide +kernel
          exact this c (gx.2.2 c hc)
        · rw [tl1, List.mem_singleton] at hc
          rw [hc]
          exact hsg
      · walk_at "rs"
        refine ite2 (fun c5 => ?_) (fun c5 => ?_)
        · walk_at "rs"
          refine ⟨p, _, _, _, rfl, rfl, SqT.of hp2, atI_nat (j := 0) rfl, ?_⟩
          walk_at "rs"
          refine ite2 (fun c6 => ?_) (fun c6 => ?_)
          · walk_at "rs"
            obtain ⟨a0, z, rfl⟩ := ki_d (of_decide_eq_true c6)
            refine ⟨p, _, rfl, SqT.of hp2, (by show ¬ (_ ∧ HT.sIx 3 3 (some ((2 : Nat) : Int)) = 3); rw [HT.sIx_nat]; omega), fun q1 hq1 => ?_⟩
            have t1 := same_new (o := .tup (cutV (Cm.vs (.d a0 z)) none (some 2))) hq1
            have e1 : (upd H2 q1 (.tup (cutV (Cm.vs (.d a0 z)) none (some 2)))) q1 = some (.tup [.str "d", .int a0]) := upd_same
            generalize upd H2 q1 (.tup (cutV (Cm.vs (.d a0 z)) none (some 2))) = H3 at t1 e1 ⊢
            walk_at "rs"
            have b0 := Int.emod_nonneg (m / 42) (show (91 : Int) ≠ 0 by decide)
            have b1 := Int.emod_lt_of_pos (m / 42) (show (0 : Int) < 91 by decide)
            obtain ⟨o1, o2, o3⟩ := mul_ones b0 b1
            refine ⟨o1, ?_⟩
            walk_at "rs"
            refine ⟨(by show 1 ≤ sizeLine; decide), fun q2 hq2 => ?_⟩
            have t2 := same_new (o := .tup [V.str (Txt.mul "1" (m / 42 % 91))]) hq2
            have e2 : (upd H3 q2 (.tup [V.str (Txt.mul "1" (m / 42 % 91))])) q2 = some (.tup [V.str (Txt.mul "1" (m / 42 % 91))]) := upd_same
            have e1' := t2 _ _ e1
            generalize upd H3 q2 (.tup [V.str (Txt.mul "1" (m / 42 % 91))]) = H4 at t2 e1' e2 ⊢
            refine ⟨q1, q2, _, _, rfl, rfl, SqT.of e1', SqT.of e2, (by rw [sizeLine_eq]; show 2 + 1 ≤ _; decide), fun h => (nomatch h), fun _ h => (nomatch h), fun _ _ q3 hq3 => ?_⟩
            exact k q3 (.d a0 (Txt.mul "1" (m / 42 % 91))) _ (s2.trans (t1.trans (t2.trans (same_new hq3)))) (by show upd H4 q3 _ q3 = _; exact upd_same) ⟨gx.1.w, Nat.le_trans o2 (by decide), o3⟩
          · walk_at "rs"
            exact fin
        · walk_at "rs"
          exact fin
    · walk_at "rs"
      refine ite2 (fun c5 => ?_) (fun c5 => ?_)
      · walk_at "rs"
        refine ⟨p, _, _, _, rfl, rfl, SqT.of hp2, atI_nat (j := 0) rfl, ?_⟩
        walk_at "rs"
        refine ite2 (fun c6 => ?_) (fun c6 => ?_)
        · walk_at "rs"
          obtain ⟨a0, z, rfl⟩ := ki_d (of_decide_eq_true c6)
          refine ⟨p, _, rfl, SqT.of hp2, (by show ¬ (_ ∧ HT.sIx 3 3 (some ((2 : Nat) : Int)) = 3); rw [HT.sIx_nat]; omega), fun q1 hq1 => ?_⟩
          have t1 := same_new (o := .tup (cutV (Cm.vs (.d a0 z)) none (some 2))) hq1
          have e1 : (upd H2 q1 (.tup (cutV (Cm.vs (.d a0 z)) none (some 2)))) q1 = some (.tup [.str "d", .int a0]) := upd_same
          generalize upd H2 q1 (.tup (cutV (Cm.vs (.d a0 z)) none (some 2))) = H3 at t1 e1 ⊢
          walk_at "rs"
          have b0 := Int.emod_nonneg (m / 42) (show (91 : Int) ≠ 0 by decide)
          have b1 := Int.emod_lt_of_pos (m / 42) (show (0 : Int) < 91 by decide)
          obtain ⟨o1, o2, o3⟩ := mul_ones b0 b1
          refine ⟨o1, ?_⟩
          walk_at "rs"
          refine ⟨(by show 1 ≤ sizeLine; decide), fun q2 hq2 => ?_⟩
          have t2 := same_new (o := .tup [V.str (Txt.mul "1" (m / 42 % 91))]) hq2
          have e2 : (upd H3 q2 (.tup [V.str (Txt.mul "1" (m / 42 % 91))])) q2 = some (.tup [V.str (Txt.mul "1" (m / 42 % 91))]) := upd_same
          have e1' := t2 _ _ e1
          generalize upd H3 q2 (.tup [V.str (Txt.mul "1" (m / 42 % 91))]) = H4 at t2 e1' e2 ⊢
          refine ⟨q1, q2, _, _, rfl, rfl, SqT.of e1', SqT.of e2, (by rw [sizeLine_eq]; show 2 + 1 ≤ _; decide), fun h => (nomatch h), fun _ h => (nomatch h), fun _ _ q3 hq3 => ?_⟩
          exact k q3 (.d a0 (Txt.mul "1" (m / 42 % 91))) _ (s2.trans (t1.trans (t2.trans (same_new hq3)))) (by show upd H4 q3 _ q3 = _; exact upd_same) ⟨gx.1.w, Nat.le_trans o2 (by decide), o3⟩
        · walk_at "rs"
          exact fin
      · walk_at "rs"
        exact fin


/-- every number that is a part is right -/
def pOk (v : V) : Prop := ∀ i, v = .int i → NOk i
theorem right_iff {c : Cm} : c.right ↔ (∀ v ∈ c.ps, pOk v) ∧ ∀ a s, c = .d a s → Sgn s := by
  cases c with
  | p a b d =>
    constructor
    · rintro ⟨h1, h2, h3⟩
      refine ⟨fun v hv i e => ?_, fun _ _ e => (nomatch e)⟩
      simp only [Cm.ps, List.mem_cons, List.not_mem_nil, or_false] at hv
      rcases hv with rfl | rfl | rfl <;> (cases e; assumption)
    · rintro ⟨h, _⟩
      exact ⟨h _ (by simp [Cm.ps]) a rfl, h _ (by simp [Cm.ps]) b rfl, h _ (by simp [Cm.ps]) d rfl⟩
  | k a b d =>
    constructor
    · rintro ⟨h1, h2, h3⟩
      refine ⟨fun v hv i e => ?_, fun _ _ e => (nomatch e)⟩
      simp only [Cm.ps, List.mem_cons, List.not_mem_nil, or_false] at hv
      rcases hv with rfl | rfl | rfl <;> (cases e; assumption)
    · rintro ⟨h, _⟩
      exact ⟨h _ (by simp [Cm.ps]) a rfl, h _ (by simp [Cm.ps]) b rfl, h _ (by simp [Cm.ps]) d rfl⟩
  | w a b =>
    constructor
    · rintro ⟨h1, h2⟩
      refine ⟨fun v hv i e => ?_, fun _ _ e => (nomatch e)⟩
      simp only [Cm.ps, List.mem_cons, List.not_mem_nil, or_false] at hv
      rcases hv with rfl | rfl <;> (cases e; assumption)
    · rintro ⟨h, _⟩
      exact ⟨h _ (by simp [Cm.ps]) a rfl, h _ (by simp [Cm.ps]) b rfl⟩
  | d a s =>
    constructor
    · rintro ⟨h1, h2⟩
      refine ⟨fun v hv i e => ?_, fun _ _ e => by cases e; exact h2⟩
      simp only [Cm.ps, List.mem_cons, List.not_mem_nil, or_false] at hv
      rcases hv with rfl | rfl
      · cases e
        exact h1
      · cases e
    · rintro ⟨h, g⟩
      exact ⟨h _ (by simp [Cm.ps]) a rfl, g a s rfl⟩
theorem part_kind {c : Cm} {v : V} (h : v ∈ c.ps) : (∃ i, v = .int i) ∨ ∃ s, v = .str s := by
  cases c <;> simp only [Cm.ps, List.mem_cons, List.not_mem_nil, or_false] at h
  · rcases h with rfl | rfl | rfl <;> exact .inl ⟨_, rfl⟩
  · rcases h with rfl | rfl <;> exact .inl ⟨_, rfl⟩
  · rcases h with rfl | rfl | rfl <;> exact .inl ⟨_, rfl⟩
  · rcases h with rfl | rfl
    · exact .inl ⟨_, rfl⟩
    · exact .inr ⟨_, rfl⟩
def spRight : Sp := fun vs H Q _ => ∃ (p : Addr) (c : Cm), vs = [.ref p] ∧ CmAt H p c ∧ c.ok ∧ ∀ (b : Bool) H', Same H H' → (b = true ↔ (c.txt.length ≤ 60 ∧ c.right)) → Q (.bl b) H'
theorem ok_law_right (T : Txt K mg a) : ∃ fd, FnOk P w K mg base CX0 2 a.d_law_right fd ["command"] spRight ∧ Binds K fd ["command"] [] := by
  obtain ⟨fd, F, b⟩ := T.d_law_right.F
  obtain ⟨fd_law_text, G_law_text, b_law_text⟩ := ok_law_text (P := P) (w := w) (base := base) T
  refine ⟨fd, F.ok sc_law_right (fun vs H Q E h => ?_) (fun cdv A outer s H vs Q E hr h => ?_), b⟩
  · obtain ⟨_, _, rfl, _⟩ := h
    rfl
  · obtain ⟨p, c, rfl, hp, ok, k⟩ := h
    have hp' : H p = some (.tup c.vs) := hp
    obtain ⟨l1, l2⟩ := c.vs_len
    have k0 : ¬ (c.txt.length ≤ 60 ∧ c.right) → ∀ H', Same H H' → Q (.bl false) H' := fun h H' s => k false H' s ⟨fun e => (nomatch e), fun g => absurd g h⟩
    refine ⟨_, (pss_cons (ps_for PassesOwn.never rfl (pi_tup (pe_slice sl_tup (pv 0) (po_some pe_int) po_none)) (pg_name (i := 1) sc_law_right.nd rfl (Or.inl rfl))
      (pss_one (ps_if (PW.pt (pw_and (pt_not (pt_val (pe_callB call_isi (by rfl) T.n_isinstance (by decide +kernel) (pa_cons (pv 1) (pa_cons (pe_bltn (v := .ty "str") (u := .type "str") (by rfl) T.n_str (by decide +kernel) rfl) pa_nil))))) (pw_and1 (pt_not (pt_chain op_le op_le pe_int (pv 1) pe_int)))))
        (pss_one (ps_ret pe_bl))
        pss_nil)))
      (pss_cons (ps_if (pt_cmpR op_gt (pe_callB call_len_str (by rfl) T.n_len PySem.boot_len (pa_cons (pe_call G_law_text (hr.mono (by decide)) rfl T.d_law_text.g T.d_law_text.kp b_law_text .nil pass0 (pa_cons (pv 0) pa_nil)) pa_nil)) pe_int (nomark _))
      (pss_one (ps_ret pe_bl))
      pss_nil)
      (pss_cons (ps_if (pt_cmpR op_eq (pe_ix ix_tup (pv 0) pe_int (fun _ _ => rfl)) pe_str (nomark _))
      (pss_one (ps_for PassesOwn.never rfl (pi_str (pe_ix ix_tup (pv 0) pe_int (fun _ _ => rfl))) (pg_name (i := 2) sc_law_right.nd rfl (Or.inl rfl))
        (pss_one (ps_if (pt_cmpR op_notIn_sign (pv 2) pe_str (by rfl))
          (pss_one (ps_ret pe_bl))
          pss_nil))))
      pss_nil)
      (pss_one (ps_ret pe_bl))))), ?_⟩
    walk_at "rs"
    refine ⟨p, _, rfl, SqT.of hp', (by show ¬ (HT.sIx c.vs.length 0 (some ((1 : Nat) : Int)) = 0 ∧ _); rw [HT.sIx_nat]; omega), fun D hD => ?_⟩
    have s1 := same_new (o := .tup (cutV c.vs (some 1) none)) hD
    have hD1 : (upd H D (.tup (cutV c.vs (some 1) none))) D = some (.tup c.ps) := by
      rw [upd_same]
      have : cutV c.vs (some 1) none = c.ps := by cases c <;> rfl
      rw [this]
    generalize upd H D (.tup (cutV c.vs (some 1) none)) = H1 at s1 hD1 ⊢
    walk_at "rs"
    refine ⟨⟨_, SqT.of hD1⟩, for_tup (K := K) (a := D) (xs := c.ps) (fun i σ H2 => ∃ v1 v2 : Option V, σ = [some (.ref p), v1, v2] ∧ Same H H2 ∧ H2 D = some (.tup c.ps) ∧ ∀ v ∈ c.ps.take i, pOk v)
      ⟨none, none, rfl, s1, hD1, fun v hv => absurd hv List.not_mem_nil⟩ (fun i σ H2 _ ⟨_, _, _, _, h, _⟩ => SqT.of h) ?_ ?_⟩
    · rintro i y σ H2 hy ⟨v1, v2, rfl, s2, hD2, hall⟩
      have hm := List.mem_of_getElem? hy
      have et : c.ps.take (i + 1) = c.ps.take i ++ [y] := by rw [List.take_add_one, hy]; rfl
      have step : pOk y → ∀ v ∈ c.ps.take (i + 1), pOk v := fun h v hv => by
        rw [et] at hv
        rcases List.mem_append.mp hv with hv | hv
        · exact hall v hv
        · rw [List.mem_singleton.mp hv]
          exact h
      rcases part_kind hm with ⟨n, rfl⟩ | ⟨z, rfl⟩
      · walk_at "rs"
        refine ⟨_, _, .type "int", .type "str", false, rfl, .ty _, .base (.int _), kit_ty (by decide +kernel), ?_⟩
        walk_at "rs"
        have nr : ¬ NOk n → ¬ (c.txt.length ≤ 60 ∧ c.right) := fun h g => h ((right_iff.mp g.2).1 _ hm n rfl)
        refine ite2 (fun c1 => ?_) (fun c1 => ?_)
        · have c1 := of_decide_eq_true c1
          walk_at "rs"
          refine ite2 (fun c2 => ?_) (fun c2 => ?_)
          · have c2 : ¬ n ≤ 999999 := by simpa using c2
            walk_at "rs"
            exact k0 (nr fun h => c2 h.2) H2 s2
          · have c2 : n ≤ 999999 := by simpa using c2
            exact ⟨_, _, rfl, s2, hD2, step fun i e => by cases e; exact ⟨c1, c2⟩⟩
        · have c1 : ¬ 0 ≤ n := fun h => c1 (decide_eq_true h)
          walk_at "rs"
          exact k0 (nr fun h => c1 h.1) H2 s2
      · walk_at "rs"
        refine ⟨_, _, .type "str", .type "str", true, rfl, .ty _, .base (.str _), kit_ty (by decide +kernel), ?_⟩
        walk_at "rs"
        exact ⟨_, _, rfl, s2, hD2, step fun i e => (nomatch e)⟩
    · rintro σ H2 ⟨v1, v2, rfl, s2, hD2, hall⟩
      rw [List.take_length] at hall
      have hp2 := s2 _ _ hp'
      walk_at "rs"
      refine ⟨p, c, rfl, hp2, ok, fun H3 s3 => ?_⟩
      have s23 := s2.trans s3
      have tl := txt_len ok
      walk_at "rs"
      refine ⟨(by rw [sizeLine_eq]; omega), ?_⟩
      walk_at "rs"
      refine ite2 (fun c1 => ?_) (fun c1 => ?_)
      · have : ¬ (c.txt.length ≤ 60 ∧ c.right) := fun h => by
          have := of_decide_eq_true c1
          omega
        exact k0 this H3 s23
      have c1 : c.txt.length ≤ 60 := by
        have : ¬ (60 : Int) < (c.txt.length : Int) := fun h => c1 (decide_eq_true h)
        omega
      walk_at "rs"
      refine ⟨p, _, _, _, rfl, rfl, SqT.of (s3 _ _ hp2), atI_nat (j := 0) rfl, ?_⟩
      walk_at "rs"
      refine ite2 (fun c2 => ?_) (fun c2 => ?_)
      · obtain ⟨a0, z, rfl⟩ := ki_d (of_decide_eq_true c2)
        walk_at "rs"
        refine ⟨p, _, _, _, rfl, rfl, SqT.of (s3 _ _ hp2), atI_nat (j := 2) rfl, ?_⟩
        have hz : z.length ≤ 250 := ok.2.1
        walk_at "rs"
        have esz : z.cps.size = (TL.tl z).length := by rw [← TL.len_tl]; rfl
        have ht3 : H3 p = some (.tup [.str "d", .int a0, .str z]) := s3 _ _ hp2
        refine for_it walk_str (fun i σ H4 => ∃ v2 : Option V, σ = [some (.ref p), v1, v2] ∧ Same H3 H4 ∧ ∀ n ∈ (TL.tl z).take i, n ∈ TL.tl "0123456789ginasmtcehlujfyo") ⟨_, rfl, Same.refl H3, fun n h => by rw [List.take_zero] at h; cases h⟩ (fun _ _ _ _ _ => trivial) ?_ ?_
        · rintro i y σ H4 _ hi ⟨v2, rfl, s4, hsg⟩ ⟨rfl, d, hd0, rfl⟩
          have hd1 : (TL.tl z)[i]? = some d := by rw [← hd0]; exact Array.getElem?_toList
          have et : (TL.tl z).take (i + 1) = (TL.tl z).take i ++ [d] := by rw [List.take_add_one, hd1]; rfl
          walk_at "rs"
          refine ite2 (fun c3 => ?_) (fun c3 => ?_)
          · have c3' : (!decide (d ∈ TL.tl "0123456789ginasmtcehlujfyo")) = true := c3
            have nd : ¬ d ∈ TL.tl "0123456789ginasmtcehlujfyo" := by simpa using c3'
            walk_at "rs"
            exact k0 (fun g => nd (g.2.2 d (List.mem_of_getElem? hd1))) _ (s23.trans s4)
          · have c3' : ¬ (!decide (d ∈ TL.tl "0123456789ginasmtcehlujfyo")) = true := c3
            have nd : d ∈ TL.tl "0123456789ginasmtcehlujfyo" := by simpa using c3'
            refine ⟨_, rfl, s4, fun n hn => ?_⟩
            rw [et] at hn
            rcases List.mem_append.mp hn with hn | hn
            · exact hsg n hn
            · rw [List.mem_singleton.mp hn]
              exact nd
        · rintro σ H4 ⟨v2, rfl, s4, hsg⟩
          rw [esz, List.take_length] at hsg
          have : (Cm.d a0 z).right := right_iff.mpr ⟨hall, fun a s e => by cases e; exact hsg⟩
          walk_at "rs"
          exact k true _ (s23.trans s4) ⟨fun _ => ⟨c1, this⟩, fun _ => rfl⟩
      · have : c.right := right_iff.mpr ⟨hall, fun a s e => by rw [e] at c2; exact absurd (decide_eq_true (show V.str (Cm.d a s).ki = V.str "d" from rfl)) c2⟩
        walk_at "rs"
        exact k true H3 s23 ⟨fun _ => ⟨c1, this⟩, fun _ => rfl⟩


/-- o.m(e, ..) within a try: what the method lets out is wished for at the slots -/
def tMethT (C : Addr) (m : Str) (sp : Sp) (E : L2.St → XK) (ta : TE) (t : TA) : TE := fun σ H Q => ta σ H fun x H1 => ∃ (j dx : Addr) (fs : List (Str × V)), x = V.ref j ∧ H1 j = some (HO.ins C dx fs) ∧ fs.lookup m = Option.none ∧ (t σ H1 fun vs H2 => sp (x :: vs) H2 Q (E σ))
theorem pe_methT {X : Cx} {CX : CXT} {k : Nat} {f C : Addr} {fd : FuncData} {ps : List Str} {sp : Sp} {E : L2.St → XK} {m : Str} {apos pos : Pos} {o e : Expr} {es : List Expr} {ta : TE} {t : TA} {pl : Sem Bool} (he : PE X o ta) (c : L2.Cls X.K C) (hm : L2.Meth X.K C m f) (F : FnOk X.prog X.w X.K X.mg X.base CX k f fd ps sp)
    (hr : Room k X.A) (hb : Binds X.K fd ps []) (hx : ∀ σ, PassesAt CX X σ (E σ)) (ha : PA X (e :: es) t) (one : starEach (e :: es) X.env = (false, eval e X.env) :: starEach es X.env := by rfl) (nost : (backTo pos (starEach es X.env)).any (·.1) = false := by rfl)
    (text : eval (.Call (.Attribute o m apos) (e :: es) [] pos) X.env = (do let ov ← eval o X.env; standAt apos.atName; let (f, first) ← holding [ov] (getMethod ov m pl); callWith pos f first (backTo pos (starEach (e :: es) X.env)) (backToKw pos (keywordEach [] X.env))) := by rfl) :
    PE X (.Call (.Attribute o m apos) (e :: es) [] pos) (tMethT C m sp E ta t) := by
  constructor
  intro pins s σ H Q I hyp
  refine PySem.W.methodCall_KW (pl := pl) (thn (he.run pins s σ H _ I hyp) fun u s1 got => ?_) text
  obtain ⟨x, H1, I1, rx, j, dx, fs, ex, ej, nf, q⟩ := got
  subst ex
  have eu : u = Value.ref j := rx
  subst eu
  refine getmeth_ok I1 ej c hm nf (PySem.W.callWith_K (first := [Value.ref j]) (h₀ := X.base) I.ok.mod.kin hm.kp (thn (ha.run pos pins s1 σ H1 _ I1 q) fun us s2 got2 => ?_) one nost)
  obtain ⟨vs, H2, I2, rel, q2⟩ := got2
  exact ⟨I2.kIn, run_fnS (us := Value.ref j :: us) (vs := V.ref j :: vs) F hr hb (hx σ) I2 (.cons rfl rel) q2⟩

def spRefused : Sp := fun vs H Q _ => ∃ (p : Addr) (c : Cm) (b : Bool), vs = [.ref p, .bl b] ∧ CmAt H p c ∧ c.ok ∧ (b = true ↔ (c.txt.length ≤ 60 ∧ c.right)) ∧ ∀ H', Same H H' → Q (.bl true) H'
theorem ok_law_refused (TE : TxtE w K mg a) (T : Txt K mg a) : ∃ fd, FnOk P w K mg base CX0 7 a.d_law_refused fd ["command", "right"] spRefused ∧ Binds K fd ["command", "right"] [] := by
  obtain ⟨fd, F, b⟩ := T.d_law_refused.F
  obtain ⟨fd_Pool_init, G_Pool_init, b_Pool_init⟩ := ok_Pool_init (P := P) (w := w) (base := base) T
  obtain ⟨fd_Pool_submit, G_Pool_submit, b_Pool_submit⟩ := ok_Pool_submit (P := P) (w := w) (base := base) TE T
  refine ⟨fd, F.ok sc_law_refused (fun vs H Q E h => ?_) (fun cdv A outer s H vs Q E hr h => ?_), b⟩
  · obtain ⟨_, _, _, rfl, _⟩ := h
    rfl
  · obtain ⟨p, c, r, rfl, hp, ok, hr2, k⟩ := h
    refine ⟨_, (pss_cons (ps_set (i := 2) sc_law_refused.nd rfl (Or.inl rfl) (pe_make0 T.m_Pool G_Pool_init (hr.mono (by decide)) (by rfl) T.g_Pool b_Pool_init .nil pass0))
      (pss_cons (ps_try_as (i := 3) rfl rfl sc_law_refused.nd rfl rfl ⟨rfl, by decide, .inl TE.g_TribunalError⟩ takes0 (fun W pn xe tk _ => (pss_one (ps_expr (pe_methT (pv 2) T.cl_Pool T.me_Pool_submit G_Pool_submit (hr.mono (by decide)) b_Pool_submit (E := fun σ cls d H => W cls d σ H) (fun σ => passAt tk σ) (pa_cons (pv 0) pa_nil))))) (fun ae oe cls d pn hz hf => (pss_one (ps_ret (pe_and (pe_not (pv 1)) (pe_and (pe_callB (call_isN hz hf) (by rfl) T.n_isinstance (by decide +kernel) (pa_cons (pv 3) (pa_cons (pe_glob (v := .ref a.C_BadCommand) rfl TE.g_BadCommand rfl) pa_nil))) (pe_and (pe_not (pe_callB (call_isN hz hf) (by rfl) T.n_isinstance (by decide +kernel) (pa_cons (pv 3) (pa_cons (pe_glob (v := .ref a.C_BadLine) rfl TE.g_BadLine rfl) pa_nil)))) (pe_one (pe_cmpR (r := rEqD K) (op_eqD hr.units) (pe_fldK (K := K) rfl (pv 2) rfl) (pe_lst pa_nil) (nomark _))))))))))
      (pss_one (ps_ret (pe_and (pv 1) (pe_one (pe_cmpR (op_eqD hr.units) (pe_fld (pv 2) rfl) (pe_lst (pa_cons (pv 0) pa_nil)) (nomark _)))))))), ?_⟩
    walk_at "rs"
    intro j dx hj0 hdx ndx
    refine ⟨j, dx, rfl, upd_same, fun L H1 hL hj hLL keep => ?_⟩
    have hL0 : H L = none := by
      cases e : H L with
      | none => rfl
      | some o =>
        rw [upd_ne (fun q => by rw [q, hj0] at e; cases e), upd_ne (fun q => by rw [q, hdx] at e; cases e), e] at hL
        cases hL
    have s1 : Same H H1 := fun b o e => keep b o (fun q => by rw [q, hj0] at e; cases e) (by rw [upd_ne (fun q => by rw [q, hj0] at e; cases e), upd_ne (fun q => by rw [q, hdx] at e; cases e)]; exact e)
    refine ⟨rfl, ?_⟩
    clear keep hL
    obtain ⟨dx1, hj1⟩ := id hj
    walk_at "rs"
    refine ⟨j, dx1, _, rfl, hj1, rfl, ?_⟩
    walk_at "rs"
    refine ⟨j, L, p, [], [], c, rfl, hj, hLL, CmsAt.nil, s1 _ _ hp, ok, fun _ h => (nomatch h), by decide, fun g1 g2 H2 k2 pl2 hL2 => ?_, fun g H2 s2 => ?_⟩
    · have rt : r = true := hr2.mpr ⟨g1, g2⟩
      subst rt
      have s2 : Same H H2 := fun b o e => k2 b o (fun q => by rw [q, hL0] at e; cases e) (s1 b o e)
      have hp2 : CmAt H2 p c := s2 _ _ hp
      have e1 : aftP [] [] p c = [p] := rfl
      rw [e1] at hL2
      obtain ⟨dx2, hj2⟩ := id pl2
      walk_at "rs"
      refine ⟨j, _, dx2, _, .ref L, rfl, hj2, T.cl_Pool, T.a_Pool_waiting, rfl, ?_⟩
      walk_at "rs"
      refine ⟨(by show 1 ≤ sizeLine; decide), fun l hl => ?_⟩
      have s3 := same_new (o := .lst [V.ref p]) hl
      refine ⟨.list ([c].map Cm.dat), .list ([c].map Cm.dat), .lst (SqL.of (s3 _ _ hL2)) (.cons (dp_cm (s3 _ _ hp2)) .nil), .lst (SqL.of (xs := [V.ref p]) upd_same) (.cons (dp_cm (s3 _ _ hp2)) .nil), shaped_cms fun x hx => by rw [List.mem_singleton.mp hx]; exact ok.sok, shaped_cms fun x hx => by rw [List.mem_singleton.mp hx]; exact ok.sok, ?_⟩
      rw [(eqv_cms [c] [c]).mpr rfl]
      exact k _ (s2.trans s3)
    · have rf : r = false := by
        cases r with
        | false => rfl
        | true => exact absurd (hr2.mp rfl) g
      subst rf
      refine ⟨true, TE.exm_TribunalError_BadCommand, fun _ ex hex => ?_, fun z => nomatch z⟩
      walk_at "rs"
      refine ⟨a.C_BadCommand, .ref a.C_BadCommand, .ref a.C_BadCommand, true, rfl, rfl, rfl, TE.xc_BadCommand, .own _, TE.kt_BadCommand_BadCommand, ?_⟩
      walk_at "rs"
      refine ⟨a.C_BadCommand, .ref a.C_BadLine, .ref a.C_BadLine, false, rfl, rfl, rfl, TE.xc_BadCommand, .own _, TE.kt_BadCommand_BadLine, ?_⟩
      walk_at "rs"
      refine ⟨j, _, dx1, _, .ref L, rfl, s2 _ _ hj1, T.cl_Pool, T.a_Pool_waiting, rfl, ?_⟩
      walk_at "rs"
      refine ⟨(by show 0 ≤ sizeLine; decide), fun l hl => ?_⟩
      have s3 := same_new (o := .lst []) hl
      refine ⟨.list (([] : List Cm).map Cm.dat), .list (([] : List Cm).map Cm.dat), .lst (SqL.of (s3 _ _ (s2 _ _ hLL))) .nil, .lst (SqL.of (xs := []) upd_same) .nil, shaped_cms fun x hx => (nomatch hx), shaped_cms fun x hx => (nomatch hx), ?_⟩
      rw [(eqv_cms [] []).mpr rfl]
      exact k _ (s1.trans (s2.trans s3))


/-! ### texts that are no commands -/
theorem cmdsOf_none {z : Str} (h : cmdP (TL.tl z) = none) : cmdsOf z = [] := by
  unfold cmdsOf
  cases e : TL.tl z with
  | nil => rw [TL.len_tl, e]; rfl
  | cons c r =>
    rw [e] at h
    rw [TL.len_tl, e, List.length_cons, cmdsP, h]
    rfl
theorem partsP_no {m : Nat} {ms l : List Nat} (h : partP m l = none) : partsP (m :: ms) l = none := by
  rw [partsP, h]
theorem partsP_no2 {m : Nat} {ms l : List Nat} {v : V} {r : List Nat} (h1 : partP m l = some (v, r)) (h2 : partsP ms r = none) : partsP (m :: ms) l = none := by
  rw [partsP, h1]
  dsimp only
  rw [h2]
theorem cmdP_no {c : Nat} {ms r : List Nat} (hk : kdOf c = some ms) (h : partsP ms (c :: r) = none) : cmdP (c :: r) = none := by
  rw [cmdP, hk]
  dsimp only
  rw [h]
theorem run_all {al : List Nat} : ∀ {l : List Nat}, (∀ n ∈ l, n ∈ al) → runL al l = l.length
  | [], _ => rfl
  | c :: l, h => by
    rw [runL, if_pos (h c List.mem_cons_self), run_all fun n hn => h n (List.mem_cons_of_mem _ hn)]
    rfl
theorem numP_no {l : List Nat} (h : ∀ n ∈ l, n ∈ TL.tl "0123456789") (nw : ¬ NumW l) : numP l = none := by
  unfold numP
  rw [run_all h, List.take_length, if_neg nw]
theorem numP_all {l : List Nat} (h : ∀ n ∈ l, n ∈ TL.tl "0123456789") : numP l = none ∨ ∃ v, numP l = some (v, []) := by
  unfold numP
  rw [run_all h, List.take_length, List.drop_length]
  split
  · exact .inr ⟨_, rfl⟩
  · exact .inl rfl
theorem nu_digs {i : Int} (h : NOk i) : ∀ n ∈ TL.tl (nu i), n ∈ TL.tl "0123456789" := fun n hn => by
  rw [nu_tl h] at hn
  have := TL.numL_digits _ n hn
  rw [dig10]
  simp only [List.mem_cons, List.not_mem_nil, or_false]
  omega
theorem nu_pos {i : Int} (h : NOk i) : 1 ≤ (TL.tl (nu i)).length := by
  rw [nu_tl h]
  exact List.length_pos_iff.mpr (TL.numL_ne _)
theorem no1 {i : Int} (h : NOk i) : cmdsOf ("p0q1r0" ++ nu i) = [] := by
  have e : TL.tl ("p0q1r0" ++ nu i) = 112 :: (TL.tl (nu 0) ++ 113 :: (TL.tl (nu 1) ++ 114 :: (48 :: TL.tl (nu i)))) := by
    rw [TL.tl_append]
    rfl
  refine cmdsOf_none ?_
  rw [e]
  refine cmdP_no (ms := [112, 113, 114]) rfl ?_
  refine partsP_no2 (partP_nu (m := 112) (by decide) ⟨by decide, by decide⟩ (noDig_cons (by decide +kernel))) ?_
  refine partsP_no2 (partP_nu (m := 113) (by decide) ⟨by decide, by decide⟩ (noDig_cons (by decide +kernel))) ?_
  refine partsP_no ?_
  rw [partP, if_pos rfl, if_neg (by decide)]
  refine numP_no (fun n hn => ?_) fun g => g.2.2 ⟨rfl, fun e => ?_⟩
  · rcases List.mem_cons.mp hn with rfl | hn
    · decide +kernel
    · exact nu_digs h n hn
  · have := congrArg List.length e
    have := nu_pos h
    rw [List.length_cons, List.length_singleton] at *
    omega
theorem no4 {i : Int} (h : NOk i) : cmdsOf ("w1x" ++ nu i ++ "1234567") = [] := by
  have e : TL.tl ("w1x" ++ nu i ++ "1234567") = 119 :: (TL.tl (nu 1) ++ 120 :: (TL.tl (nu i) ++ TL.tl "1234567")) := by
    rw [TL.tl_append, TL.tl_append]
    rfl
  refine cmdsOf_none ?_
  rw [e]
  refine cmdP_no (ms := [119, 120]) rfl ?_
  refine partsP_no2 (partP_nu (m := 119) (by decide) ⟨by decide, by decide⟩ (noDig_cons (by decide +kernel))) ?_
  refine partsP_no ?_
  rw [partP, if_pos rfl, if_neg (by decide)]
  refine numP_no (fun n hn => ?_) fun g => ?_
  · rcases List.mem_append.mp hn with hn | hn
    · exact nu_digs h n hn
    · have : ∀ n ∈ TL.tl "1234567", n ∈ TL.tl "0123456789" := by decide +kernel
      exact this n hn
  · have g2 := g.2.1
    have l7 : (TL.tl "1234567").length = 7 := by decide +kernel
    rw [List.length_append, l7] at g2
    omega
theorem no5 {i : Int} (h : NOk i) : cmdsOf ("k0b1" ++ nu i) = [] := by
  have e : TL.tl ("k0b1" ++ nu i) = 107 :: (TL.tl (nu 0) ++ 98 :: (49 :: TL.tl (nu i))) := by
    rw [TL.tl_append]
    rfl
  refine cmdsOf_none ?_
  rw [e]
  refine cmdP_no (ms := [107, 98, 118]) rfl ?_
  refine partsP_no2 (partP_nu (m := 107) (by decide) ⟨by decide, by decide⟩ (noDig_cons (by decide +kernel))) ?_
  have hd : ∀ n ∈ 49 :: TL.tl (nu i), n ∈ TL.tl "0123456789" := fun n hn => by
    rcases List.mem_cons.mp hn with rfl | hn
    · decide +kernel
    · exact nu_digs h n hn
  have ep : partP 98 (98 :: (49 :: TL.tl (nu i))) = numP (49 :: TL.tl (nu i)) := by
    rw [partP, if_pos rfl, if_neg (by decide)]
  rcases numP_all hd with g | ⟨v, g⟩
  · exact partsP_no (ep.trans g)
  · exact partsP_no2 (ep.trans g) rfl
theorem no_len {z : Str} (h : (cmdsOf z).length = 0) : cmdsOf z = [] := List.eq_nil_of_length_eq_zero h
theorem no2 : cmdsOf "p0q1" = [] := no_len (by decide +kernel)
theorem no3 : cmdsOf "p0q1r" = [] := no_len (by decide +kernel)
theorem no6 : cmdsOf "d0z1" = [] := no_len (by decide +kernel)
theorem no0 : cmdsOf "" = [] := no_len (by decide +kernel)
theorem b_none (z : Str) : cmdsOf ("b0t" ++ z) = [] := by
  have e : TL.tl ("b0t" ++ z) = 98 :: (48 :: 116 :: TL.tl z) := by
    rw [TL.tl_append]
    rfl
  refine cmdsOf_none ?_
  rw [e, cmdP]
  rfl
theorem ok_law {f : Addr} {fd : FuncData} (F : Fun K "law" "law" s_law f fd) (TE : TxtE w K mg a) (T : Txt K mg a) : FnOk P w K mg base CX0 8 f fd ["script"] (spLaw K) := by
  obtain ⟨fd_law_spoilt, G_law_spoilt, b_law_spoilt⟩ := ok_law_spoilt (P := P) (w := w) (base := base) T
  obtain ⟨fd_law_right, G_law_right, b_law_right⟩ := ok_law_right (P := P) (w := w) (base := base) T
  obtain ⟨fd_commands_of, G_commands_of, b_commands_of⟩ := ok_commands_of (P := P) (w := w) (base := base) TE T
  obtain ⟨fd_law_cell, G_law_cell, b_law_cell⟩ := ok_law_cell (P := P) (w := w) (base := base) T
  obtain ⟨fd_law_refused, G_law_refused, b_law_refused⟩ := ok_law_refused (P := P) (w := w) (base := base) TE T
  obtain ⟨fd_checked_text, G_checked_text, b_checked_text⟩ := ok_checked_text (P := P) (w := w) (base := base) TE T
  obtain ⟨fd_law_text, G_law_text, b_law_text⟩ := ok_law_text (P := P) (w := w) (base := base) T
  refine F.ok sc_law (fun vs H Q E h => ?_) (fun cdv A outer s H vs Q E hr h => ?_)
  · obtain ⟨_, _, rfl, _⟩ := h
    rfl
  · obtain ⟨l, ns, rfl, hS, hl, k⟩ := h
    refine ⟨_, (pss_cons (ps_for PassesOwn.never rfl (pi_range1 rfl T.n_range (pa_cons (pe_op op_fdiv (pe_op op_add (pe_callB call_len_seq (by rfl) T.n_len PySem.boot_len (pa_cons (pv 0) pa_nil)) pe_int) pe_int) pa_nil)) (pg_name (i := 1) sc_law.nd rfl (Or.inl rfl))
      (pss_cons (ps_set (i := 2) sc_law.nd rfl (Or.inl rfl) (pe_callB call_abs (by rfl) T.n_abs (by decide +kernel) (pa_cons (pe_call G_law_cell (hr.mono (by decide)) rfl T.d_law_cell.g T.d_law_cell.kp b_law_cell .nil pass0 (pa_cons (pv 0) (pa_cons (pe_op op_mul pe_int (pv 1)) pa_nil))) pa_nil)))
        (pss_cons (ps_set (i := 3) sc_law.nd rfl (Or.inl rfl) (pe_callB call_abs (by rfl) T.n_abs (by decide +kernel) (pa_cons (pe_call G_law_cell (hr.mono (by decide)) rfl T.d_law_cell.g T.d_law_cell.kp b_law_cell .nil pass0 (pa_cons (pv 0) (pa_cons (pe_op op_add (pe_op op_mul pe_int (pv 1)) pe_int) pa_nil))) pa_nil)))
        (pss_cons (ps_set (i := 4) sc_law.nd rfl (Or.inl rfl) (pe_call G_law_spoilt (hr.mono (by decide)) rfl T.d_law_spoilt.g T.d_law_spoilt.kp b_law_spoilt .nil pass0 (pa_cons (pv 2) (pa_cons (pv 3) pa_nil))))
        (pss_cons (ps_set (i := 5) sc_law.nd rfl (Or.inl rfl) (pe_call G_law_right (hr.mono (by decide)) rfl T.d_law_right.g T.d_law_right.kp b_law_right .nil pass0 (pa_cons (pv 4) pa_nil)))
        (pss_cons (ps_if (pt_not (pt_val (pe_call G_law_refused (hr.mono (by decide)) rfl T.d_law_refused.g T.d_law_refused.kp b_law_refused .nil pass0 (pa_cons (pv 4) (pa_cons (pv 5) pa_nil)))))
        (pss_one (ps_ret pe_bl))
        pss_nil)
        (C8.pss_cut (ps_try_else (pb := ⟨0, 0, 0, 0⟩) (ps_try_as (i := 7) rfl rfl sc_law.nd rfl rfl ⟨rfl, by decide, .inl TE.g_TribunalError⟩ takes0 (fun W pn xe tk _ => (pss_cons (ps_set (i := 6) sc_law.nd rfl (Or.inl rfl) (pe_callS G_checked_text (hr.mono (by decide)) rfl T.d_checked_text.g T.d_checked_text.kp b_checked_text (fun σ => passAt tk σ) (pa_cons (pv 4) pa_nil))) (pss_one ps_continue))) (fun ae oe cls d pn hz hf => (pss_one (ps_if (PW.pt (pw_or (pt_val (pv 5)) (pw_or1 (pt_not (pt_val (pe_callB (call_isN hz hf) (by rfl) T.n_isinstance (by decide +kernel) (pa_cons (pv 7) (pa_cons (pe_glob (v := .ref a.C_BadCommand) rfl TE.g_BadCommand rfl) pa_nil)))))))) (pss_one (ps_ret pe_bl)) pss_nil)))) (pss_one (ps_if (PW.pt (pw_or (pt_not (pt_val (pv 5))) (pw_or1 (pt_cmpR op_ne (pv 6) (pe_call G_law_text (hr.mono (by decide)) rfl T.d_law_text.g T.d_law_text.kp b_law_text .nil pass0 (pa_cons (pv 4) pa_nil)) (nomark _)))))
          (pss_one (ps_ret pe_bl))
          pss_nil)))
        (pss_cons (ps_set (i := 8) sc_law.nd rfl (Or.inl rfl) (pe_callTy call_str_int (by rfl) T.n_str (by decide +kernel) (pa_cons (pe_op op_add pe_int (pe_op op_mod (pe_callTy call_int1 (by rfl) T.n_int (by decide +kernel) (pa_cons (pv 3) pa_nil)) pe_int)) pa_nil)))
        (pss_one (ps_for PassesOwn.never rfl (pi_tup (pe_tup (pa_cons (pe_op op_add_str pe_str (pv 8)) (pa_cons pe_str (pa_cons pe_str (pa_cons (pe_op op_add_str (pe_op op_add_str pe_str (pv 8)) pe_str) (pa_cons (pe_op op_add_str pe_str (pv 8)) (pa_cons pe_str (pa_cons (pe_op op_add_str pe_str (pv 8)) pa_nil))))))))) (pg_name (i := 6) sc_law.nd rfl (Or.inl rfl))
        (pss_one (ps_if (pt_cmpR (op_neD hr.units) (pe_call G_commands_of (hr.mono (by decide)) rfl T.d_commands_of.g T.d_commands_of.kp b_commands_of .nil pass0 (pa_cons (pv 6) pa_nil)) (pe_lst pa_nil) (nomark _))
          (pss_one (ps_ret pe_bl))
          pss_nil))))))))))))
      (pss_one (ps_ret (pe_cmpR (op_eqD hr.units) (pe_call G_commands_of (hr.mono (by decide)) rfl T.d_commands_of.g T.d_commands_of.kp b_commands_of .nil pass0 (pa_cons pe_str pa_nil)) (pe_lst pa_nil) (nomark _))))), ?_⟩
    walk_at "rs"
    refine ⟨l, _, rfl, .inl hS, ?_⟩
    walk_at "rs"
    have b0 : (0 : Int) ≤ (((ns.map V.int).length : Int) + 1) / 2 := by omega
    have b1 : (((ns.map V.int).length : Int) + 1) / 2 ≤ 32 := by rw [List.length_map]; omega
    refine ⟨by omega, by omega, ?_⟩
    generalize ((((ns.map V.int).length : Int) + 1) / 2).toNat = N
    clear b0 b1
    refine for_range (lo := 0) (n := N) (fun i σ H2 => ∃ (v1 v2 v3 v4 v5 v6 v7 v8 : Option V), σ = [some (.ref l), v1, v2, v3, v4, v5, v6, v7, v8] ∧ Same H H2)
      ⟨_, _, _, _, _, _, _, _, rfl, Same.refl H⟩ ?_ ?_
    · rintro i σ H2 hi ⟨v1, v2, v3, v4, v5, v6, v7, v8, rfl, s2⟩
      walk_at "rs"
      refine ⟨l, ns, _, rfl, s2.seq hS, hl, by omega, ?_⟩
      walk_at "rs"
      refine ⟨l, ns, _, rfl, s2.seq hS, hl, by omega, ?_⟩
      walk_at "rs"
      generalize (if ns.getD (2 * (0 + (i : Int))).toNat 0 < 0 then -ns.getD (2 * (0 + (i : Int))).toNat 0 else ns.getD (2 * (0 + (i : Int))).toNat 0) = cc
      generalize (if ns.getD (2 * (0 + (i : Int)) + 1).toNat 0 < 0 then -ns.getD (2 * (0 + (i : Int)) + 1).toNat 0 else ns.getD (2 * (0 + (i : Int)) + 1).toNat 0) = mm
      refine ⟨_, _, rfl, fun p x H3 s3 hp ok => ?_⟩
      walk_at "rs"
      refine ⟨p, x, rfl, hp, ok, fun r H4 s4 hr4 => ?_⟩
      walk_at "rs"
      refine ⟨p, x, r, rfl, s4 _ _ hp, ok, hr4, fun H5 s5 => ?_⟩
      have s25 := s2.trans (s3.trans (s4.trans s5))
      have hp5 := s5 _ _ (s4 _ _ hp)
      walk_at "rs"
      refine ⟨fun σ' H' => ∃ (v6 v7 v8 : Option V), σ' = [some (.ref l), some (.int (0 + (i : Int))), some (.int cc), some (.int mm), some (.ref p), some (.bl r), v6, v7, v8] ∧ Same H H', ?_, ?_⟩
      · walk_at "rs"
        have hx5 : CmAt H5 p x := hp5
        refine ⟨p, x, rfl, hx5, ok, fun g1 g2 H6 s6 => ?_, fun g H6 s6 => ?_⟩
        · have rt : r = true := hr4.mpr ⟨g1, g2⟩
          subst rt
          walk_at "rs"
          refine ⟨⟨_, _, _, _, _, _, _, _, rfl, s25.trans s6⟩, ?_⟩
          walk_at "rs"
          refine ⟨p, x, rfl, s6 _ _ hp5, ok, fun H7 s7 => ?_⟩
          walk_at "rs"
          refine ite2 (fun c1 => by simp at c1) (fun c1 => ?_)
          exact ⟨_, _, _, rfl, s25.trans (s6.trans s7)⟩
        · have rf : r = false := by
            cases r with
            | false => rfl
            | true => exact absurd (hr4.mp rfl) g
          subst rf
          refine ⟨true, TE.exm_TribunalError_BadCommand, fun _ ex hex => ?_, fun z => nomatch z⟩
          walk_at "rs"
          refine ⟨a.C_BadCommand, .ref a.C_BadCommand, .ref a.C_BadCommand, true, rfl, rfl, rfl, TE.xc_BadCommand, .own _, TE.kt_BadCommand_BadCommand, ?_⟩
          walk_at "rs"
          exact ⟨_, _, _, rfl, s25.trans s6⟩
      rintro σ' H6 ⟨v6, v7, v8, rfl, s6⟩
      walk_at "rs"
      have n0 := Int.emod_nonneg mm (show (999999 : Int) ≠ 0 by decide)
      have n1 := Int.emod_lt_of_pos mm (show (0 : Int) < 999999 by decide)
      have nk : NOk (1 + mm % 999999) := ⟨by omega, by omega⟩
      have nl : (nu (1 + mm % 999999)).length ≤ 7 := nu_len nk.w
      have hno : ∀ y ∈ [V.str ("p0q1r0" ++ nu (1 + mm % 999999)), .str "p0q1", .str "p0q1r", .str ("w1x" ++ nu (1 + mm % 999999) ++ "1234567"), .str ("k0b1" ++ nu (1 + mm % 999999)), .str "d0z1", .str ("b0t" ++ nu (1 + mm % 999999))], ∃ z, y = .str z ∧ cmdsOf z = [] ∧ z.length ≤ 1000 := fun y hy => by
        simp only [List.mem_cons, List.not_mem_nil, or_false] at hy
        have q1 : ("p0q1r0" : Str).length = 6 := rfl
        have q2 : ("w1x" : Str).length = 3 := rfl
        have q3 : ("1234567" : Str).length = 7 := rfl
        have q4 : ("k0b1" : Str).length = 4 := rfl
        have q5 : ("b0t" : Str).length = 3 := rfl
        rcases hy with rfl | rfl | rfl | rfl | rfl | rfl | rfl
        · exact ⟨_, rfl, no1 nk, by rw [PySem.Str.length_append]; omega⟩
        · exact ⟨_, rfl, no2, by decide +kernel⟩
        · exact ⟨_, rfl, no3, by decide +kernel⟩
        · exact ⟨_, rfl, no4 nk, by rw [PySem.Str.length_append, PySem.Str.length_append]; omega⟩
        · exact ⟨_, rfl, no5 nk, by rw [PySem.Str.length_append]; omega⟩
        · exact ⟨_, rfl, no6, by decide +kernel⟩
        · exact ⟨_, rfl, b_none _, by rw [PySem.Str.length_append]; omega⟩
      refine ⟨nu_log nk.w, ?_⟩
      walk_at "rs"
      have nl' : (Str.ofString (toString (1 + mm % 999999))).length ≤ 7 := nl
      have q1 : ("p0q1r0" : Str).length = 6 := rfl
      have q2 : ("w1x" : Str).length = 3 := rfl
      have q3 : ("1234567" : Str).length = 7 := rfl
      have q4 : ("k0b1" : Str).length = 4 := rfl
      have q5 : ("b0t" : Str).length = 3 := rfl
      refine ⟨by rw [sizeLine_eq]; omega, ?_⟩
      walk_at "rs"
      refine ⟨by rw [sizeLine_eq]; omega, ?_⟩
      walk_at "rs"
      refine ⟨by rw [PySem.Str.length_append, sizeLine_eq]; omega, ?_⟩
      walk_at "rs"
      refine ⟨by rw [sizeLine_eq]; omega, ?_⟩
      walk_at "rs"
      refine ⟨by rw [sizeLine_eq]; omega, ?_⟩
      walk_at "rs"
      refine ⟨(by show 7 ≤ sizeLine; decide), fun t ht => ?_⟩
      have hno' : ∀ y ∈ [V.str ("p0q1r0" ++ Str.ofString (toString (1 + mm % 999999))), .str "p0q1", .str "p0q1r", .str ("w1x" ++ Str.ofString (toString (1 + mm % 999999)) ++ "1234567"), .str ("k0b1" ++ Str.ofString (toString (1 + mm % 999999))), .str "d0z1", .str ("b0t" ++ Str.ofString (toString (1 + mm % 999999)))], ∃ z, y = .str z ∧ cmdsOf z = [] ∧ z.length ≤ 1000 := hno
      clear hno
      generalize [V.str ("p0q1r0" ++ Str.ofString (toString (1 + mm % 999999))), .str "p0q1", .str "p0q1r", .str ("w1x" ++ Str.ofString (toString (1 + mm % 999999)) ++ "1234567"), .str ("k0b1" ++ Str.ofString (toString (1 + mm % 999999))), .str "d0z1", .str ("b0t" ++ Str.ofString (toString (1 + mm % 999999)))] = xs at hno' ⊢
      have st := same_new (o := .tup xs) ht
      have ht1 : (upd H6 t (.tup xs)) t = some (.tup xs) := upd_same
      generalize upd H6 t (.tup xs) = H7 at st ht1 ⊢
      walk_at "rs"
      refine ⟨⟨_, SqT.of ht1⟩, for_tup (K := K) (a := t) (xs := xs) (fun i' σ H8 => ∃ (v6 v7 v8 : Option V), σ = [some (.ref l), some (.int (0 + (i : Int))), some (.int cc), some (.int mm), some (.ref p), some (.bl r), v6, v7, v8] ∧ Same H7 H8)
        ⟨_, _, _, rfl, Same.refl H7⟩ (fun i σ H8 _ ⟨_, _, _, _, s8⟩ => SqT.of (s8 _ _ ht1)) ?_ ?_⟩
      · rintro i' y σ H8 hy ⟨v6, v7, v8, rfl, s8⟩
        obtain ⟨z, rfl, hz, lz⟩ := hno' y (List.mem_of_getElem? hy)
        walk_at "rs"
        refine ⟨lz, fun q ps2 H9 s9 hq0 hq hc => ?_⟩
        rw [hz] at hc
        walk_at "rs"
        refine ⟨(by show 0 ≤ sizeLine; decide), fun u hu => ?_⟩
        have s10 := same_new (o := .lst []) hu
        refine ⟨.list (([] : List Cm).map Cm.dat), .list (([] : List Cm).map Cm.dat), .lst (SqL.of (s10 _ _ hq)) (dp_cms (hc.same s10)), .lst (SqL.of (xs := []) upd_same) .nil, shaped_cms fun x hx => (nomatch hx), shaped_cms fun x hx => (nomatch hx), ?_⟩
        walk_at "rs"
        refine ite2 (fun c2 => absurd rfl (ne_cms c2)) (fun c2 => ?_)
        exact ⟨_, _, _, rfl, s8.trans (s9.trans s10)⟩
      · rintro σ H8 ⟨v6, v7, v8, rfl, s8⟩
        exact ⟨_, _, _, _, _, _, _, _, rfl, s6.trans (st.trans s8)⟩
    · rintro σ H2 ⟨v1, v2, v3, v4, v5, v6, v7, v8, rfl, s2⟩
      walk_at "rs"
      refine ⟨by decide, fun q ps2 H3 s3 hq0 hq hc => ?_⟩
      rw [no0] at hc
      walk_at "rs"
      refine ⟨(by show 0 ≤ sizeLine; decide), fun r hr => ?_⟩
      have s4 := same_new (o := .lst []) hr
      refine ⟨.list (([] : List Cm).map Cm.dat), .list (([] : List Cm).map Cm.dat), .lst (SqL.of (s4 _ _ hq)) (dp_cms (hc.same s4)), .lst (SqL.of (xs := []) upd_same) .nil, shaped_cms fun x hx => (nomatch hx), shaped_cms fun x hx => (nomatch hx), ?_⟩
      rw [(eqv_cms [] []).mpr rfl]
      exact k _

end

theorem all_mk {l : PySem.W.OpenLaw} {w : World} {K : PySem.W.Frag} {h : Heap} {mg : Str → Option Value} {fa : Addr} (X : K.In h) (G : h.Ns mainGlobals mg) (hfa : mg "law" = some (.ref fa))
    {t_SIGNS : Tok} {t_DIGITS : Tok} {t_MOST_SIGNS : Tok} {t_MOST_DIGITS : Tok} {t_CODE_END : Tok} {C_Reader : Addr} {C_Pool : Addr} {f_command_text : Addr} {od_command_text an_command_text : Option Addr} {sl_command_text : Array (Option Value)} {oc_command_text kV_command_text dc_command_text pm_command_text cd_command_text ct_command_text : Value} {f_Reader_init : Addr} {od_Reader_init an_Reader_init : Option Addr} {sl_Reader_init : Array (Option Value)} {oc_Reader_init kV_Reader_init dc_Reader_init pm_Reader_init cd_Reader_init ct_Reader_init : Value} {f_Reader_read_signs : Addr} {od_Reader_read_signs an_Reader_read_signs : Option Addr} {sl_Reader_read_signs : Array (Option Value)} {oc_Reader_read_signs kV_Reader_read_signs dc_Reader_read_signs pm_Reader_read_signs cd_Reader_read_signs ct_Reader_read_signs : Value} {f_Reader_skip : Addr} {od_Reader_skip an_Reader_skip : Option Addr} {sl_Reader_skip : Array (Option Value)} {oc_Reader_skip kV_Reader_skip dc_Reader_skip pm_Reader_skip cd_Reader_skip ct_Reader_skip : Value} {f_Reader_read_number : Addr} {od_Reader_read_number an_Reader_read_number : Option Addr} {sl_Reader_read_number : Array (Option Value)} {oc_Reader_read_number kV_Reader_read_number dc_Reader_read_number pm_Reader_read_number cd_Reader_read_number ct_Reader_read_number : Value} {f_Reader_read_code : Addr} {od_Reader_read_code an_Reader_read_code : Option Addr} {sl_Reader_read_code : Array (Option Value)} {oc_Reader_read_code kV_Reader_read_code dc_Reader_read_code pm_Reader_read_code cd_Reader_read_code ct_Reader_read_code : Value} {f_Reader_read_command : Addr} {od_Reader_read_command an_Reader_read_command : Option Addr} {sl_Reader_read_command : Array (Option Value)} {oc_Reader_read_command kV_Reader_read_command dc_Reader_read_command pm_Reader_read_command cd_Reader_read_command ct_Reader_read_command : Value} {f_commands_of : Addr} {od_commands_of an_commands_of : Option Addr} {sl_commands_of : Array (Option Value)} {oc_commands_of kV_commands_of dc_commands_of pm_commands_of cd_commands_of ct_commands_of : Value} {f_checked_text : Addr} {od_checked_text an_checked_text : Option Addr} {sl_checked_text : Array (Option Value)} {oc_checked_text kV_checked_text dc_checked_text pm_checked_text cd_checked_text ct_checked_text : Value} {f_law_cell : Addr} {od_law_cell an_law_cell : Option Addr} {sl_law_cell : Array (Option Value)} {oc_law_cell kV_law_cell dc_law_cell pm_law_cell cd_law_cell ct_law_cell : Value} {f_law_row : Addr} {od_law_row an_law_row : Option Addr} {sl_law_row : Array (Option Value)} {oc_law_row kV_law_row dc_law_row pm_law_row cd_law_row ct_law_row : Value} {f_law_number : Addr} {od_law_number an_law_number : Option Addr} {sl_law_number : Array (Option Value)} {oc_law_number kV_law_number dc_law_number pm_law_number cd_law_number ct_law_number : Value} {f_law_code : Addr} {od_law_code an_law_code : Option Addr} {sl_law_code : Array (Option Value)} {oc_law_code kV_law_code dc_law_code pm_law_code cd_law_code ct_law_code : Value} {f_law_place : Addr} {od_law_place an_law_place : Option Addr} {sl_law_place : Array (Option Value)} {oc_law_place kV_law_place dc_law_place pm_law_place cd_law_place ct_law_place : Value} {f_law_command : Addr} {od_law_command an_law_command : Option Addr} {sl_law_command : Array (Option Value)} {oc_law_command kV_law_command dc_law_command pm_law_command cd_law_command ct_law_command : Value} {f_law_text : Addr} {od_law_text an_law_text : Option Addr} {sl_law_text : Array (Option Value)} {oc_law_text kV_law_text dc_law_text pm_law_text cd_law_text ct_law_text : Value} {f_Pool_init : Addr} {od_Pool_init an_Pool_init : Option Addr} {sl_Pool_init : Array (Option Value)} {oc_Pool_init kV_Pool_init dc_Pool_init pm_Pool_init cd_Pool_init ct_Pool_init : Value} {f_Pool_submit : Addr} {od_Pool_submit an_Pool_submit : Option Addr} {sl_Pool_submit : Array (Option Value)} {oc_Pool_submit kV_Pool_submit dc_Pool_submit pm_Pool_submit cd_Pool_submit ct_Pool_submit : Value} {f_law_spoilt : Addr} {od_law_spoilt an_law_spoilt : Option Addr} {sl_law_spoilt : Array (Option Value)} {oc_law_spoilt kV_law_spoilt dc_law_spoilt pm_law_spoilt cd_law_spoilt ct_law_spoilt : Value} {f_law_right : Addr} {od_law_right an_law_right : Option Addr} {sl_law_right : Array (Option Value)} {oc_law_right kV_law_right dc_law_right pm_law_right cd_law_right ct_law_right : Value} {f_law_refused : Addr} {od_law_refused an_law_refused : Option Addr} {sl_law_refused : Array (Option Value)} {oc_law_refused kV_law_refused dc_law_refused pm_law_refused cd_law_refused ct_law_refused : Value} {f_law : Addr} {od_law an_law : Option Addr} {sl_law : Array (Option Value)} {oc_law kV_law dc_law pm_law cd_law ct_law : Value} {P_MARKS M_MARKS_p M_MARKS_w M_MARKS_d M_MARKS_k : Addr} {n_MARKS : Nat} {h_MARKS_p h_MARKS_w h_MARKS_d h_MARKS_k : Int} {t_MARKS_p t_MARKS_w t_MARKS_d t_MARKS_k : Tok} {od_MARKS_p : Option Addr} {sl_MARKS_p : Array (Option Value)} {n_MARKS_p : Nat} {t0_MARKS_p t1_MARKS_p t2_MARKS_p : Tok} {od_MARKS_w : Option Addr} {sl_MARKS_w : Array (Option Value)} {n_MARKS_w : Nat} {t0_MARKS_w t1_MARKS_w : Tok} {od_MARKS_d : Option Addr} {sl_MARKS_d : Array (Option Value)} {n_MARKS_d : Nat} {t0_MARKS_d t1_MARKS_d : Tok} {od_MARKS_k : Option Addr} {sl_MARKS_k : Array (Option Value)} {n_MARKS_k : Nat} {t0_MARKS_k t1_MARKS_k t2_MARKS_k : Tok} {C_BadCommand : Addr} {C_BadLine : Addr} {C_TribunalError : Addr}
    (c_SIGNS : PySem.W.nsIn K mainGlobals "SIGNS" = some (some (.str "0123456789ginasmtcehlujfyo" t_SIGNS)))
    (c_DIGITS : PySem.W.nsIn K mainGlobals "DIGITS" = some (some (.str "0123456789" t_DIGITS)))
    (c_MOST_SIGNS : PySem.W.nsIn K mainGlobals "MOST_SIGNS" = some (some (.int 60 t_MOST_SIGNS)))
    (c_MOST_DIGITS : PySem.W.nsIn K mainGlobals "MOST_DIGITS" = some (some (.int 6 t_MOST_DIGITS)))
    (c_CODE_END : PySem.W.nsIn K mainGlobals "CODE_END" = some (some (.str "z" t_CODE_END)))
    (n_len : PySem.W.nsIn K mainGlobals "len" = some none)
    (n_range : PySem.W.nsIn K mainGlobals "range" = some none)
    (n_isinstance : PySem.W.nsIn K mainGlobals "isinstance" = some none)
    (n_int : PySem.W.nsIn K mainGlobals "int" = some none)
    (n_bool : PySem.W.nsIn K mainGlobals "bool" = some none)
    (n_list : PySem.W.nsIn K mainGlobals "list" = some none)
    (n_tuple : PySem.W.nsIn K mainGlobals "tuple" = some none)
    (n_str : PySem.W.nsIn K mainGlobals "str" = some none)
    (n_zip : PySem.W.nsIn K mainGlobals "zip" = some none)
    (n_enumerate : PySem.W.nsIn K mainGlobals "enumerate" = some none)
    (n_max : PySem.W.nsIn K mainGlobals "max" = some none)
    (n_abs : PySem.W.nsIn K mainGlobals "abs" = some none)
    (g_Reader : PySem.W.nsIn K mainGlobals "Reader" = some (some (.ref C_Reader)))
    (g_Pool : PySem.W.nsIn K mainGlobals "Pool" = some (some (.ref C_Pool)))
    (a_command_text : PySem.W.nsIn K mainGlobals "command_text" = some (some (.ref f_command_text)))
    (l_command_text : K.lookup f_command_text = some ⟨oc_command_text, od_command_text, .func (PySem.W.fnOf "command_text" "command_text" (defArgs s_command_text) (defBody s_command_text) (defScope s_command_text) .none kV_command_text dc_command_text pm_command_text an_command_text cd_command_text ct_command_text), sl_command_text⟩)
    (q_command_text : PySem.W.codeIn K cd_command_text "command_text" = true)
    (k_command_text : PySem.W.keepIn K (.ref f_command_text) = true)
    (a_Reader_init : PySem.W.findIn K (.ref C_Reader) "__init__" = some (some (.ref f_Reader_init)))
    (i_Reader_init : PySem.W.isFn K (.ref f_Reader_init) = true)
    (l_Reader_init : K.lookup f_Reader_init = some ⟨oc_Reader_init, od_Reader_init, .func (PySem.W.fnOf "__init__" "Reader.__init__" (defArgs s_Reader_init) (defBody s_Reader_init) (defScope s_Reader_init) .none kV_Reader_init dc_Reader_init pm_Reader_init an_Reader_init cd_Reader_init ct_Reader_init), sl_Reader_init⟩)
    (q_Reader_init : PySem.W.codeIn K cd_Reader_init "Reader.__init__" = true)
    (k_Reader_init : PySem.W.keepIn K (.ref f_Reader_init) = true)
    (a_Reader_read_signs : PySem.W.findIn K (.ref C_Reader) "read_signs" = some (some (.ref f_Reader_read_signs)))
    (i_Reader_read_signs : PySem.W.isFn K (.ref f_Reader_read_signs) = true)
    (l_Reader_read_signs : K.lookup f_Reader_read_signs = some ⟨oc_Reader_read_signs, od_Reader_read_signs, .func (PySem.W.fnOf "read_signs" "Reader.read_signs" (defArgs s_Reader_read_signs) (defBody s_Reader_read_signs) (defScope s_Reader_read_signs) .none kV_Reader_read_signs dc_Reader_read_signs pm_Reader_read_signs an_Reader_read_signs cd_Reader_read_signs ct_Reader_read_signs), sl_Reader_read_signs⟩)
    (q_Reader_read_signs : PySem.W.codeIn K cd_Reader_read_signs "Reader.read_signs" = true)
    (k_Reader_read_signs : PySem.W.keepIn K (.ref f_Reader_read_signs) = true)
    (a_Reader_skip : PySem.W.findIn K (.ref C_Reader) "skip" = some (some (.ref f_Reader_skip)))
    (i_Reader_skip : PySem.W.isFn K (.ref f_Reader_skip) = true)
    (l_Reader_skip : K.lookup f_Reader_skip = some ⟨oc_Reader_skip, od_Reader_skip, .func (PySem.W.fnOf "skip" "Reader.skip" (defArgs s_Reader_skip) (defBody s_Reader_skip) (defScope s_Reader_skip) .none kV_Reader_skip dc_Reader_skip pm_Reader_skip an_Reader_skip cd_Reader_skip ct_Reader_skip), sl_Reader_skip⟩)
    (q_Reader_skip : PySem.W.codeIn K cd_Reader_skip "Reader.skip" = true)
    (k_Reader_skip : PySem.W.keepIn K (.ref f_Reader_skip) = true)
    (a_Reader_read_number : PySem.W.findIn K (.ref C_Reader) "read_number" = some (some (.ref f_Reader_read_number)))
    (i_Reader_read_number : PySem.W.isFn K (.ref f_Reader_read_number) = true)
    (l_Reader_read_number : K.lookup f_Reader_read_number = some ⟨oc_Reader_read_number, od_Reader_read_number, .func (PySem.W.fnOf "read_number" "Reader.read_number" (defArgs s_Reader_read_number) (defBody s_Reader_read_number) (defScope s_Reader_read_number) .none kV_Reader_read_number dc_Reader_read_number pm_Reader_read_number an_Reader_read_number cd_Reader_read_number ct_Reader_read_number), sl_Reader_read_number⟩)
    (q_Reader_read_number : PySem.W.codeIn K cd_Reader_read_number "Reader.read_number" = true)
    (k_Reader_read_number : PySem.W.keepIn K (.ref f_Reader_read_number) = true)
    (a_Reader_read_code : PySem.W.findIn K (.ref C_Reader) "read_code" = some (some (.ref f_Reader_read_code)))
    (i_Reader_read_code : PySem.W.isFn K (.ref f_Reader_read_code) = true)
    (l_Reader_read_code : K.lookup f_Reader_read_code = some ⟨oc_Reader_read_code, od_Reader_read_code, .func (PySem.W.fnOf "read_code" "Reader.read_code" (defArgs s_Reader_read_code) (defBody s_Reader_read_code) (defScope s_Reader_read_code) .none kV_Reader_read_code dc_Reader_read_code pm_Reader_read_code an_Reader_read_code cd_Reader_read_code ct_Reader_read_code), sl_Reader_read_code⟩)
    (q_Reader_read_code : PySem.W.codeIn K cd_Reader_read_code "Reader.read_code" = true)
    (k_Reader_read_code : PySem.W.keepIn K (.ref f_Reader_read_code) = true)
    (a_Reader_read_command : PySem.W.findIn K (.ref C_Reader) "read_command" = some (some (.ref f_Reader_read_command)))
    (i_Reader_read_command : PySem.W.isFn K (.ref f_Reader_read_command) = true)
    (l_Reader_read_command : K.lookup f_Reader_read_command = some ⟨oc_Reader_read_command, od_Reader_read_command, .func (PySem.W.fnOf "read_command" "Reader.read_command" (defArgs s_Reader_read_command) (defBody s_Reader_read_command) (defScope s_Reader_read_command) .none kV_Reader_read_command dc_Reader_read_command pm_Reader_read_command an_Reader_read_command cd_Reader_read_command ct_Reader_read_command), sl_Reader_read_command⟩)
    (q_Reader_read_command : PySem.W.codeIn K cd_Reader_read_command "Reader.read_command" = true)
    (k_Reader_read_command : PySem.W.keepIn K (.ref f_Reader_read_command) = true)
    (a_commands_of : PySem.W.nsIn K mainGlobals "commands_of" = some (some (.ref f_commands_of)))
    (l_commands_of : K.lookup f_commands_of = some ⟨oc_commands_of, od_commands_of, .func (PySem.W.fnOf "commands_of" "commands_of" (defArgs s_commands_of) (defBody s_commands_of) (defScope s_commands_of) .none kV_commands_of dc_commands_of pm_commands_of an_commands_of cd_commands_of ct_commands_of), sl_commands_of⟩)
    (q_commands_of : PySem.W.codeIn K cd_commands_of "commands_of" = true)
    (k_commands_of : PySem.W.keepIn K (.ref f_commands_of) = true)
    (a_checked_text : PySem.W.nsIn K mainGlobals "checked_text" = some (some (.ref f_checked_text)))
    (l_checked_text : K.lookup f_checked_text = some ⟨oc_checked_text, od_checked_text, .func (PySem.W.fnOf "checked_text" "checked_text" (defArgs s_checked_text) (defBody s_checked_text) (defScope s_checked_text) .none kV_checked_text dc_checked_text pm_checked_text an_checked_text cd_checked_text ct_checked_text), sl_checked_text⟩)
    (q_checked_text : PySem.W.codeIn K cd_checked_text "checked_text" = true)
    (k_checked_text : PySem.W.keepIn K (.ref f_checked_text) = true)
    (a_law_cell : PySem.W.nsIn K mainGlobals "_law_cell" = some (some (.ref f_law_cell)))
    (l_law_cell : K.lookup f_law_cell = some ⟨oc_law_cell, od_law_cell, .func (PySem.W.fnOf "_law_cell" "_law_cell" (defArgs s_law_cell) (defBody s_law_cell) (defScope s_law_cell) .none kV_law_cell dc_law_cell pm_law_cell an_law_cell cd_law_cell ct_law_cell), sl_law_cell⟩)
    (q_law_cell : PySem.W.codeIn K cd_law_cell "_law_cell" = true)
    (k_law_cell : PySem.W.keepIn K (.ref f_law_cell) = true)
    (a_law_row : PySem.W.nsIn K mainGlobals "_law_row" = some (some (.ref f_law_row)))
    (l_law_row : K.lookup f_law_row = some ⟨oc_law_row, od_law_row, .func (PySem.W.fnOf "_law_row" "_law_row" (defArgs s_law_row) (defBody s_law_row) (defScope s_law_row) .none kV_law_row dc_law_row pm_law_row an_law_row cd_law_row ct_law_row), sl_law_row⟩)
    (q_law_row : PySem.W.codeIn K cd_law_row "_law_row" = true)
    (k_law_row : PySem.W.keepIn K (.ref f_law_row) = true)
    (a_law_number : PySem.W.nsIn K mainGlobals "_law_number" = some (some (.ref f_law_number)))
    (l_law_number : K.lookup f_law_number = some ⟨oc_law_number, od_law_number, .func (PySem.W.fnOf "_law_number" "_law_number" (defArgs s_law_number) (defBody s_law_number) (defScope s_law_number) .none kV_law_number dc_law_number pm_law_number an_law_number cd_law_number ct_law_number), sl_law_number⟩)
    (q_law_number : PySem.W.codeIn K cd_law_number "_law_number" = true)
    (k_law_number : PySem.W.keepIn K (.ref f_law_number) = true)
    (a_law_code : PySem.W.nsIn K mainGlobals "_law_code" = some (some (.ref f_law_code)))
    (l_law_code : K.lookup f_law_code = some ⟨oc_law_code, od_law_code, .func (PySem.W.fnOf "_law_code" "_law_code" (defArgs s_law_code) (defBody s_law_code) (defScope s_law_code) .none kV_law_code dc_law_code pm_law_code an_law_code cd_law_code ct_law_code), sl_law_code⟩)
    (q_law_code : PySem.W.codeIn K cd_law_code "_law_code" = true)
    (k_law_code : PySem.W.keepIn K (.ref f_law_code) = true)
    (a_law_place : PySem.W.nsIn K mainGlobals "_law_place" = some (some (.ref f_law_place)))
    (l_law_place : K.lookup f_law_place = some ⟨oc_law_place, od_law_place, .func (PySem.W.fnOf "_law_place" "_law_place" (defArgs s_law_place) (defBody s_law_place) (defScope s_law_place) .none kV_law_place dc_law_place pm_law_place an_law_place cd_law_place ct_law_place), sl_law_place⟩)
    (q_law_place : PySem.W.codeIn K cd_law_place "_law_place" = true)
    (k_law_place : PySem.W.keepIn K (.ref f_law_place) = true)
    (a_law_command : PySem.W.nsIn K mainGlobals "_law_command" = some (some (.ref f_law_command)))
    (l_law_command : K.lookup f_law_command = some ⟨oc_law_command, od_law_command, .func (PySem.W.fnOf "_law_command" "_law_command" (defArgs s_law_command) (defBody s_law_command) (defScope s_law_command) .none kV_law_command dc_law_command pm_law_command an_law_command cd_law_command ct_law_command), sl_law_command⟩)
    (q_law_command : PySem.W.codeIn K cd_law_command "_law_command" = true)
    (k_law_command : PySem.W.keepIn K (.ref f_law_command) = true)
    (a_law_text : PySem.W.nsIn K mainGlobals "_law_text" = some (some (.ref f_law_text)))
    (l_law_text : K.lookup f_law_text = some ⟨oc_law_text, od_law_text, .func (PySem.W.fnOf "_law_text" "_law_text" (defArgs s_law_text) (defBody s_law_text) (defScope s_law_text) .none kV_law_text dc_law_text pm_law_text an_law_text cd_law_text ct_law_text), sl_law_text⟩)
    (q_law_text : PySem.W.codeIn K cd_law_text "_law_text" = true)
    (k_law_text : PySem.W.keepIn K (.ref f_law_text) = true)
    (a_Pool_init : PySem.W.findIn K (.ref C_Pool) "__init__" = some (some (.ref f_Pool_init)))
    (i_Pool_init : PySem.W.isFn K (.ref f_Pool_init) = true)
    (l_Pool_init : K.lookup f_Pool_init = some ⟨oc_Pool_init, od_Pool_init, .func (PySem.W.fnOf "__init__" "Pool.__init__" (defArgs s_Pool_init) (defBody s_Pool_init) (defScope s_Pool_init) .none kV_Pool_init dc_Pool_init pm_Pool_init an_Pool_init cd_Pool_init ct_Pool_init), sl_Pool_init⟩)
    (q_Pool_init : PySem.W.codeIn K cd_Pool_init "Pool.__init__" = true)
    (k_Pool_init : PySem.W.keepIn K (.ref f_Pool_init) = true)
    (a_Pool_submit : PySem.W.findIn K (.ref C_Pool) "submit" = some (some (.ref f_Pool_submit)))
    (i_Pool_submit : PySem.W.isFn K (.ref f_Pool_submit) = true)
    (l_Pool_submit : K.lookup f_Pool_submit = some ⟨oc_Pool_submit, od_Pool_submit, .func (PySem.W.fnOf "submit" "Pool.submit" (defArgs s_Pool_submit) (defBody s_Pool_submit) (defScope s_Pool_submit) .none kV_Pool_submit dc_Pool_submit pm_Pool_submit an_Pool_submit cd_Pool_submit ct_Pool_submit), sl_Pool_submit⟩)
    (q_Pool_submit : PySem.W.codeIn K cd_Pool_submit "Pool.submit" = true)
    (k_Pool_submit : PySem.W.keepIn K (.ref f_Pool_submit) = true)
    (a_law_spoilt : PySem.W.nsIn K mainGlobals "_law_spoilt" = some (some (.ref f_law_spoilt)))
    (l_law_spoilt : K.lookup f_law_spoilt = some ⟨oc_law_spoilt, od_law_spoilt, .func (PySem.W.fnOf "_law_spoilt" "_law_spoilt" (defArgs s_law_spoilt) (defBody s_law_spoilt) (defScope s_law_spoilt) .none kV_law_spoilt dc_law_spoilt pm_law_spoilt an_law_spoilt cd_law_spoilt ct_law_spoilt), sl_law_spoilt⟩)
    (q_law_spoilt : PySem.W.codeIn K cd_law_spoilt "_law_spoilt" = true)
    (k_law_spoilt : PySem.W.keepIn K (.ref f_law_spoilt) = true)
    (a_law_right : PySem.W.nsIn K mainGlobals "_law_right" = some (some (.ref f_law_right)))
    (l_law_right : K.lookup f_law_right = some ⟨oc_law_right, od_law_right, .func (PySem.W.fnOf "_law_right" "_law_right" (defArgs s_law_right) (defBody s_law_right) (defScope s_law_right) .none kV_law_right dc_law_right pm_law_right an_law_right cd_law_right ct_law_right), sl_law_right⟩)
    (q_law_right : PySem.W.codeIn K cd_law_right "_law_right" = true)
    (k_law_right : PySem.W.keepIn K (.ref f_law_right) = true)
    (a_law_refused : PySem.W.nsIn K mainGlobals "_law_refused" = some (some (.ref f_law_refused)))
    (l_law_refused : K.lookup f_law_refused = some ⟨oc_law_refused, od_law_refused, .func (PySem.W.fnOf "_law_refused" "_law_refused" (defArgs s_law_refused) (defBody s_law_refused) (defScope s_law_refused) .none kV_law_refused dc_law_refused pm_law_refused an_law_refused cd_law_refused ct_law_refused), sl_law_refused⟩)
    (q_law_refused : PySem.W.codeIn K cd_law_refused "_law_refused" = true)
    (k_law_refused : PySem.W.keepIn K (.ref f_law_refused) = true)
    (a_law : PySem.W.nsIn K mainGlobals "law" = some (some (.ref f_law)))
    (l_law : K.lookup f_law = some ⟨oc_law, od_law, .func (PySem.W.fnOf "law" "law" (defArgs s_law) (defBody s_law) (defScope s_law) .none kV_law dc_law pm_law an_law cd_law ct_law), sl_law⟩)
    (q_law : PySem.W.codeIn K cd_law "law" = true)
    (k_law : PySem.W.keepIn K (.ref f_law) = true)
    (pg_Reader : PySem.W.plainGet K C_Reader Str.empty = true)
    (hd_Reader : PySem.W.hasDictIn K C_Reader = true)
    (po_Reader : PySem.W.plainOver K C_Reader = true)
    (sa_Reader : PySem.W.findIn K (.ref C_Reader) "__setattr__" = some (some (.builtin "object.__setattr__")))
    (mk_Reader : PySem.W.makesIn K C_Reader = true)
    (kc_Reader : PySem.W.keepIn K (.ref C_Reader) = true)
    (no_Reader_text : PySem.W.findIn K (.ref C_Reader) "text" = some none)
    (no_Reader_at : PySem.W.findIn K (.ref C_Reader) "at" = some none)
    (pg_Pool : PySem.W.plainGet K C_Pool Str.empty = true)
    (hd_Pool : PySem.W.hasDictIn K C_Pool = true)
    (po_Pool : PySem.W.plainOver K C_Pool = true)
    (sa_Pool : PySem.W.findIn K (.ref C_Pool) "__setattr__" = some (some (.builtin "object.__setattr__")))
    (mk_Pool : PySem.W.makesIn K C_Pool = true)
    (kc_Pool : PySem.W.keepIn K (.ref C_Pool) = true)
    (no_Pool_waiting : PySem.W.findIn K (.ref C_Pool) "waiting" = some none)
    (g_MARKS : PySem.W.nsIn K mainGlobals "MARKS" = some (some (.ref P_MARKS)))
    (l_MARKS : K.lookup P_MARKS = some ⟨.type "dict", none, .dict #[⟨h_MARKS_p, .str "p" t_MARKS_p, .ref M_MARKS_p⟩, ⟨h_MARKS_w, .str "w" t_MARKS_w, .ref M_MARKS_w⟩, ⟨h_MARKS_d, .str "d" t_MARKS_d, .ref M_MARKS_d⟩, ⟨h_MARKS_k, .str "k" t_MARKS_k, .ref M_MARKS_k⟩] n_MARKS, #[]⟩)
    (kl_MARKS : PySem.W.KeysLit w.params [⟨h_MARKS_p, .str "p" t_MARKS_p, .ref M_MARKS_p⟩, ⟨h_MARKS_w, .str "w" t_MARKS_w, .ref M_MARKS_w⟩, ⟨h_MARKS_d, .str "d" t_MARKS_d, .ref M_MARKS_d⟩, ⟨h_MARKS_k, .str "k" t_MARKS_k, .ref M_MARKS_k⟩])
    (lo_MARKS : (P_MARKS == sysModules) = false)
    (l_MARKS_p : K.lookup M_MARKS_p = some ⟨.type "tuple", od_MARKS_p, .seq #[.str "p" t0_MARKS_p, .str "q" t1_MARKS_p, .str "r" t2_MARKS_p] n_MARKS_p, sl_MARKS_p⟩)
    (l_MARKS_w : K.lookup M_MARKS_w = some ⟨.type "tuple", od_MARKS_w, .seq #[.str "w" t0_MARKS_w, .str "x" t1_MARKS_w] n_MARKS_w, sl_MARKS_w⟩)
    (l_MARKS_d : K.lookup M_MARKS_d = some ⟨.type "tuple", od_MARKS_d, .seq #[.str "d" t0_MARKS_d, .str "z" t1_MARKS_d] n_MARKS_d, sl_MARKS_d⟩)
    (l_MARKS_k : K.lookup M_MARKS_k = some ⟨.type "tuple", od_MARKS_k, .seq #[.str "k" t0_MARKS_k, .str "b" t1_MARKS_k, .str "v" t2_MARKS_k] n_MARKS_k, sl_MARKS_k⟩)
    (g_BadCommand : PySem.W.nsIn K mainGlobals "BadCommand" = some (some (.ref C_BadCommand)))
    (x_BadCommand : PySem.W.excIn K C_BadCommand [.type "ValueError", .type "Exception", .type "BaseException", .type "object"] "ValueError.__new__" = true)
    (kc_BadCommand : PySem.W.keepIn K (.ref C_BadCommand) = true)
    (b_BadCommand : PySem.W.subIn K (.ref C_BadCommand) (.type "BaseException") = some true)
    (t_BadCommand : PySem.W.typeIn K (.ref C_BadCommand) = some (.type "type"))
    (xga_BadCommand : PySem.W.findIn K (.ref C_BadCommand) "__getattribute__" = some (some (.builtin "BaseException.__getattribute__")))
    (xgt_BadCommand : PySem.W.findIn K (.ref C_BadCommand) "__getattr__" = some none)
    (xhd_BadCommand : PySem.W.hasDictIn K C_BadCommand = true)
    (xcc_BadCommand : PySem.W.findIn K (.ref C_BadCommand) "__class__" = some (some (.builtin "object.__class__")))
    (xsp_BadCommand : PySem.W.specialIn K (.builtin "object.__class__") "__get__" = some (some (.builtin "getset_descriptor.__get__")))
    (xtk_BadCommand : PySem.W.takesIn K (.builtin "object.__class__") = some true)
    (xmo_BadCommand : PySem.W.mroIn K C_BadCommand (.type "object") = some true)
    (te1_BadCommand : PySem.W.subIn K (.ref C_BadCommand) (.type "BaseException") = some true)
    (te2_BadCommand : PySem.W.hasDictIn K C_BadCommand = true)
    (te3_BadCommand : PySem.W.typeIn K (.ref C_BadCommand) = some (.type "type"))
    (te4_BadCommand_BadCommand : PySem.W.subIn K (.ref C_BadCommand) (.ref C_BadCommand) = some true)
    (g_BadLine : PySem.W.nsIn K mainGlobals "BadLine" = some (some (.ref C_BadLine)))
    (g_TribunalError : PySem.W.nsIn K mainGlobals "TribunalError" = some (some (.ref C_TribunalError)))
    (te1_TribunalError : PySem.W.subIn K (.ref C_TribunalError) (.type "BaseException") = some true)
    (te2_TribunalError : PySem.W.hasDictIn K C_TribunalError = true)
    (te3_TribunalError : PySem.W.typeIn K (.ref C_TribunalError) = some (.type "type"))
    (te4_TribunalError_BadCommand : PySem.W.subIn K (.ref C_BadCommand) (.ref C_TribunalError) = some true)
    (kt_BadCommand_BadCommand : PySem.W.kitOne K (.ref C_BadCommand) (.ref C_BadCommand) = some true)
    (kt_BadCommand_BadLine : PySem.W.kitOne K (.ref C_BadCommand) (.ref C_BadLine) = some false) :
    ∃ fd : FuncData, (∀ (s : Shared) (v : Value), BindsTo s fd ⟨[v], []⟩ [("script", v)]) ∧ ∀ base : Heap, K.In base → base.Ns mainGlobals mg → FnOk l.prog w K mg base CX0 8 fa fd ["script"] (spLaw K) := by
  have e := hfa.symm.trans (PySem.W.mg_of X G a_law)
  cases e
  have T : Txt K mg ⟨C_Reader, C_Pool, f_command_text, f_Reader_init, f_Reader_read_signs, f_Reader_skip, f_Reader_read_number, f_Reader_read_code, f_Reader_read_command, f_commands_of, f_checked_text, f_law_cell, f_law_row, f_law_number, f_law_code, f_law_place, f_law_command, f_law_text, f_Pool_init, f_Pool_submit, f_law_spoilt, f_law_right, f_law_refused, P_MARKS, M_MARKS_p, M_MARKS_w, M_MARKS_d, M_MARKS_k, C_BadCommand, C_BadLine, C_TribunalError⟩ := {
    n_len := mg_no X G n_len
    n_range := mg_no X G n_range
    n_isinstance := mg_no X G n_isinstance
    n_int := mg_no X G n_int
    n_bool := mg_no X G n_bool
    n_list := mg_no X G n_list
    n_tuple := mg_no X G n_tuple
    n_str := mg_no X G n_str
    n_zip := mg_no X G n_zip
    n_enumerate := mg_no X G n_enumerate
    n_max := mg_no X G n_max
    n_abs := mg_no X G n_abs
    c_SIGNS := ⟨_, PySem.W.mg_of X G c_SIGNS⟩
    c_DIGITS := ⟨_, PySem.W.mg_of X G c_DIGITS⟩
    c_MOST_SIGNS := ⟨_, PySem.W.mg_of X G c_MOST_SIGNS⟩
    c_MOST_DIGITS := ⟨_, PySem.W.mg_of X G c_MOST_DIGITS⟩
    c_CODE_END := ⟨_, PySem.W.mg_of X G c_CODE_END⟩
    g_Reader := PySem.W.mg_of X G g_Reader
    cl_Reader := ⟨pg_Reader, hd_Reader, po_Reader, sa_Reader⟩
    kc_Reader := kc_Reader
    mk_Reader := mk_Reader
    a_Reader_text := no_Reader_text
    a_Reader_at := no_Reader_at
    g_Pool := PySem.W.mg_of X G g_Pool
    cl_Pool := ⟨pg_Pool, hd_Pool, po_Pool, sa_Pool⟩
    kc_Pool := kc_Pool
    mk_Pool := mk_Pool
    a_Pool_waiting := no_Pool_waiting
    d_command_text := ⟨def_mk l_command_text q_command_text k_command_text (fun _ _ _ _ _ _ us hl => match us, hl with | [_], _ => rfl), PySem.W.mg_of X G a_command_text, k_command_text⟩
    d_Reader_init := ⟨def_mk l_Reader_init q_Reader_init k_Reader_init (fun _ _ _ _ _ _ us hl => match us, hl with | [_, _], _ => rfl), a_Reader_init, i_Reader_init, k_Reader_init⟩
    d_Reader_read_signs := ⟨def_mk l_Reader_read_signs q_Reader_read_signs k_Reader_read_signs (fun _ _ _ _ _ _ us hl => match us, hl with | [_, _], _ => rfl), a_Reader_read_signs, i_Reader_read_signs, k_Reader_read_signs⟩
    d_Reader_skip := ⟨def_mk l_Reader_skip q_Reader_skip k_Reader_skip (fun _ _ _ _ _ _ us hl => match us, hl with | [_, _], _ => rfl), a_Reader_skip, i_Reader_skip, k_Reader_skip⟩
    d_Reader_read_number := ⟨def_mk l_Reader_read_number q_Reader_read_number k_Reader_read_number (fun _ _ _ _ _ _ us hl => match us, hl with | [_], _ => rfl), a_Reader_read_number, i_Reader_read_number, k_Reader_read_number⟩
    d_Reader_read_code := ⟨def_mk l_Reader_read_code q_Reader_read_code k_Reader_read_code (fun _ _ _ _ _ _ us hl => match us, hl with | [_], _ => rfl), a_Reader_read_code, i_Reader_read_code, k_Reader_read_code⟩
    d_Reader_read_command := ⟨def_mk l_Reader_read_command q_Reader_read_command k_Reader_read_command (fun _ _ _ _ _ _ us hl => match us, hl with | [_], _ => rfl), a_Reader_read_command, i_Reader_read_command, k_Reader_read_command⟩
    d_commands_of := ⟨def_mk l_commands_of q_commands_of k_commands_of (fun _ _ _ _ _ _ us hl => match us, hl with | [_], _ => rfl), PySem.W.mg_of X G a_commands_of, k_commands_of⟩
    d_checked_text := ⟨def_mk l_checked_text q_checked_text k_checked_text (fun _ _ _ _ _ _ us hl => match us, hl with | [_], _ => rfl), PySem.W.mg_of X G a_checked_text, k_checked_text⟩
    d_law_cell := ⟨def_mk l_law_cell q_law_cell k_law_cell (fun _ _ _ _ _ _ us hl => match us, hl with | [_, _], _ => rfl), PySem.W.mg_of X G a_law_cell, k_law_cell⟩
    d_law_row := ⟨def_mk l_law_row q_law_row k_law_row (fun _ _ _ _ _ _ us hl => match us, hl with | [_, _, _], _ => rfl), PySem.W.mg_of X G a_law_row, k_law_row⟩
    d_law_number := ⟨def_mk l_law_number q_law_number k_law_number (fun _ _ _ _ _ _ us hl => match us, hl with | [_], _ => rfl), PySem.W.mg_of X G a_law_number, k_law_number⟩
    d_law_code := ⟨def_mk l_law_code q_law_code k_law_code (fun _ _ _ _ _ _ us hl => match us, hl with | [_], _ => rfl), PySem.W.mg_of X G a_law_code, k_law_code⟩
    d_law_place := ⟨def_mk l_law_place q_law_place k_law_place (fun _ _ _ _ _ _ us hl => match us, hl with | [_], _ => rfl), PySem.W.mg_of X G a_law_place, k_law_place⟩
    d_law_command := ⟨def_mk l_law_command q_law_command k_law_command (fun _ _ _ _ _ _ us hl => match us, hl with | [_, _], _ => rfl), PySem.W.mg_of X G a_law_command, k_law_command⟩
    d_law_text := ⟨def_mk l_law_text q_law_text k_law_text (fun _ _ _ _ _ _ us hl => match us, hl with | [_], _ => rfl), PySem.W.mg_of X G a_law_text, k_law_text⟩
    d_Pool_init := ⟨def_mk l_Pool_init q_Pool_init k_Pool_init (fun _ _ _ _ _ _ us hl => match us, hl with | [_], _ => rfl), a_Pool_init, i_Pool_init, k_Pool_init⟩
    d_Pool_submit := ⟨def_mk l_Pool_submit q_Pool_submit k_Pool_submit (fun _ _ _ _ _ _ us hl => match us, hl with | [_, _], _ => rfl), a_Pool_submit, i_Pool_submit, k_Pool_submit⟩
    d_law_spoilt := ⟨def_mk l_law_spoilt q_law_spoilt k_law_spoilt (fun _ _ _ _ _ _ us hl => match us, hl with | [_, _], _ => rfl), PySem.W.mg_of X G a_law_spoilt, k_law_spoilt⟩
    d_law_right := ⟨def_mk l_law_right q_law_right k_law_right (fun _ _ _ _ _ _ us hl => match us, hl with | [_], _ => rfl), PySem.W.mg_of X G a_law_right, k_law_right⟩
    d_law_refused := ⟨def_mk l_law_refused q_law_refused k_law_refused (fun _ _ _ _ _ _ us hl => match us, hl with | [_, _], _ => rfl), PySem.W.mg_of X G a_law_refused, k_law_refused⟩ }
  have TE : TxtE w K mg ⟨C_Reader, C_Pool, f_command_text, f_Reader_init, f_Reader_read_signs, f_Reader_skip, f_Reader_read_number, f_Reader_read_code, f_Reader_read_command, f_commands_of, f_checked_text, f_law_cell, f_law_row, f_law_number, f_law_code, f_law_place, f_law_command, f_law_text, f_Pool_init, f_Pool_submit, f_law_spoilt, f_law_right, f_law_refused, P_MARKS, M_MARKS_p, M_MARKS_w, M_MARKS_d, M_MARKS_k, C_BadCommand, C_BadLine, C_TribunalError⟩ := {
    g_MARKS := PySem.W.mg_of X G g_MARKS
    tab_MARKS := ktab_mk l_MARKS kl_MARKS lo_MARKS ⟨⟨_, rfl, rfl⟩, ⟨_, rfl, rfl⟩, ⟨_, rfl, rfl⟩, ⟨_, rfl, rfl⟩, trivial⟩
    s_MARKS_p := fun H => .inr ⟨_, _, _, l_MARKS_p, rfl, rfl, (by show 3 ≤ sizeLine; decide), (.cons ⟨_, rfl⟩ (.cons ⟨_, rfl⟩ (.cons ⟨_, rfl⟩ .nil)))⟩
    s_MARKS_w := fun H => .inr ⟨_, _, _, l_MARKS_w, rfl, rfl, (by show 2 ≤ sizeLine; decide), (.cons ⟨_, rfl⟩ (.cons ⟨_, rfl⟩ .nil))⟩
    s_MARKS_d := fun H => .inr ⟨_, _, _, l_MARKS_d, rfl, rfl, (by show 2 ≤ sizeLine; decide), (.cons ⟨_, rfl⟩ (.cons ⟨_, rfl⟩ .nil))⟩
    s_MARKS_k := fun H => .inr ⟨_, _, _, l_MARKS_k, rfl, rfl, (by show 3 ≤ sizeLine; decide), (.cons ⟨_, rfl⟩ (.cons ⟨_, rfl⟩ (.cons ⟨_, rfl⟩ .nil)))⟩
    g_BadCommand := PySem.W.mg_of X G g_BadCommand
    x_BadCommand := x_BadCommand
    kc_BadCommand := kc_BadCommand
    b_BadCommand := b_BadCommand
    t_BadCommand := t_BadCommand
    xc_BadCommand := ⟨(PySem.W.any_some xhd_BadCommand).elim fun cd h => by rw [h.1]; rfl, xga_BadCommand, xgt_BadCommand, b_BadCommand, xhd_BadCommand, xcc_BadCommand, xsp_BadCommand, xtk_BadCommand, xmo_BadCommand⟩
    exm_BadCommand_BadCommand := PySem.W.exm_ref te1_BadCommand te2_BadCommand te3_BadCommand te4_BadCommand_BadCommand
    g_BadLine := PySem.W.mg_of X G g_BadLine
    g_TribunalError := PySem.W.mg_of X G g_TribunalError
    exm_TribunalError_BadCommand := PySem.W.exm_ref te1_TribunalError te2_TribunalError te3_TribunalError te4_TribunalError_BadCommand
    kt_BadCommand_BadCommand := kt_BadCommand_BadCommand
    kt_BadCommand_BadLine := kt_BadCommand_BadLine }
  have F5 := fun_mk (st := s_law) l_law q_law k_law
  exact ⟨PySem.W.fnOf "law" "law" (defArgs s_law) (defBody s_law) (defScope s_law) .none kV_law dc_law pm_law an_law cd_law ct_law, fun s v => .of_eq rfl, fun base _ _ => ok_law F5 TE T⟩
theorem walk {l : PySem.W.OpenLaw} {q : Program} {loose : List Str} {XP : (Str → Option Value) → Heap → Prop} {YP : World → Heap → Prop} {d : DefRec} {K : Params → PySem.W.Frag} (hn : l.most = some 63) (hdf : d.params.defaults = [])
    (hY : ∀ (w : World) (h : Heap), YP w h → (K w.params).In h)
    (F : ∀ (w : World) (mg : Str → Option Value) (fa : Addr) (h : Heap), (K w.params).In h → h.Ns mainGlobals mg → mg d.name = some (.ref fa) →
      ∃ fd : FuncData, (∀ (s : Shared) (u : Value), BindsTo s fd ⟨[u], []⟩ [("script", u)]) ∧ ∀ base : Heap, (K w.params).In base → base.Ns mainGlobals mg → FnOk l.prog w (K w.params) mg base CX0 8 fa fd ["script"] (spLaw (K w.params))) :
    PySem.W.WalkO q loose XP YP l.row.toRowW d [] (fun f vs => PySem.call f vs) :=
  L2.walk_of (n := 63) (k := 8) (x := "script") (CX := fun _ => CX0) (sp := fun w => spLaw (K w.params)) hn (by decide) hdf ⟨rfl, by decide, by decide⟩ hY F (fun _ _ a ns hl _ hS => ⟨a, ns, rfl, hS, hl, fun _ => rfl⟩) fun _ _ _ _ _ z => z
end Toy
open PySem PySem.W PyProof.Rows
set_option maxRecDepth 100000 in
set_option maxHeartbeats 0 in
theorem PySem.Challenge.cw_tribunal_k21_commands_that_do_not_fit_holds : PySem.Challenge.rw_tribunal_k21_commands_that_do_not_fit.Holds := by
  w_on; o_law; k_head; (case hw => w_witness2)
  k_fill
  refine Toy.walk (l := PySem.Challenge.rw_tribunal_k21_commands_that_do_not_fit) rfl rfl (fun w h Y => PySem.W.kIn_of Y) ?F
  case F =>
    intro w mg fa h KX G hmg
    refine' Toy.all_mk KX G hmg ?c_SIGNS ?c_DIGITS ?c_MOST_SIGNS ?c_MOST_DIGITS ?c_CODE_END ?n_len ?n_range ?n_isinstance ?n_int ?n_bool ?n_list ?n_tuple ?n_str ?n_zip ?n_enumerate ?n_max ?n_abs ?g_Reader ?g_Pool ?a_command_text ?l_command_text ?q_command_text ?k_command_text ?a_Reader_init ?i_Reader_init ?l_Reader_init ?q_Reader_init ?k_Reader_init ?a_Reader_read_signs ?i_Reader_read_signs ?l_Reader_read_signs ?q_Reader_read_signs ?k_Reader_read_signs ?a_Reader_skip ?i_Reader_skip ?l_Reader_skip ?q_Reader_skip ?k_Reader_skip ?a_Reader_read_number ?i_Reader_read_number ?l_Reader_read_number ?q_Reader_read_number ?k_Reader_read_number ?a_Reader_read_code ?i_Reader_read_code ?l_Reader_read_code ?q_Reader_read_code ?k_Reader_read_code ?a_Reader_read_command ?i_Reader_read_command ?l_Reader_read_command ?q_Reader_read_command ?k_Reader_read_command ?a_commands_of ?l_commands_of ?q_commands_of ?k_commands_of ?a_checked_text ?l_checked_text ?q_checked_text ?k_checked_text ?a_law_cell ?l_law_cell ?q_law_cell ?k_law_cell ?a_law_row ?l_law_row ?q_law_row ?k_law_row ?a_law_number ?l_law_number ?q_law_number ?k_law_number ?a_law_code ?l_law_code ?q_law_code ?k_law_code ?a_law_place ?l_law_place ?q_law_place ?k_law_place ?a_law_command ?l_law_command ?q_law_command ?k_law_command ?a_law_text ?l_law_text ?q_law_text ?k_law_text ?a_Pool_init ?i_Pool_init ?l_Pool_init ?q_Pool_init ?k_Pool_init ?a_Pool_submit ?i_Pool_submit ?l_Pool_submit ?q_Pool_submit ?k_Pool_submit ?a_law_spoilt ?l_law_spoilt ?q_law_spoilt ?k_law_spoilt ?a_law_right ?l_law_right ?q_law_right ?k_law_right ?a_law_refused ?l_law_refused ?q_law_refused ?k_law_refused ?a_law ?l_law ?q_law ?k_law ?pg_Reader ?hd_Reader ?po_Reader ?sa_Reader ?mk_Reader ?kc_Reader ?no_Reader_text ?no_Reader_at ?pg_Pool ?hd_Pool ?po_Pool ?sa_Pool ?mk_Pool ?kc_Pool ?no_Pool_waiting ?g_MARKS ?l_MARKS ?kl_MARKS ?lo_MARKS ?l_MARKS_p ?l_MARKS_w ?l_MARKS_d ?l_MARKS_k ?g_BadCommand ?x_BadCommand ?kc_BadCommand ?b_BadCommand ?t_BadCommand ?xga_BadCommand ?xgt_BadCommand ?xhd_BadCommand ?xcc_BadCommand ?xsp_BadCommand ?xtk_BadCommand ?xmo_BadCommand ?te1_BadCommand ?te2_BadCommand ?te3_BadCommand ?te4_BadCommand_BadCommand ?g_BadLine ?g_TribunalError ?te1_TribunalError ?te2_TribunalError ?te3_TribunalError ?te4_TribunalError_BadCommand ?kt_BadCommand_BadCommand ?kt_BadCommand_BadLine
    (case c_SIGNS => k_is)
    (case c_DIGITS => k_is)
    (case c_MOST_SIGNS => k_is)
    (case c_MOST_DIGITS => k_is)
    (case c_CODE_END => k_is)
    (case n_len => k_is)
    (case n_range => k_is)
    (case n_isinstance => k_is)
    (case n_int => k_is)
    (case n_bool => k_is)
    (case n_list => k_is)
    (case n_tuple => k_is)
    (case n_str => k_is)
    (case n_zip => k_is)
    (case n_enumerate => k_is)
    (case n_max => k_is)
    (case n_abs => k_is)
    (case g_Reader => k_is)
    (case g_Pool => k_is)
    (case a_command_text => k_is)
    (case l_command_text => k_is)
    (case q_command_text => k_is)
    (case k_command_text => k_is)
    (case a_Reader_init => k_is)
    (case i_Reader_init => k_is)
    (case l_Reader_init => k_is)
    (case q_Reader_init => k_is)
    (case k_Reader_init => k_is)
    (case a_Reader_read_signs => k_is)
    (case i_Reader_read_signs => k_is)
    (case l_Reader_read_signs => k_is)
    (case q_Reader_read_signs => k_is)
    (case k_Reader_read_signs => k_is)
    (case a_Reader_skip => k_is)
    (case i_Reader_skip => k_is)
    (case l_Reader_skip => k_is)
    (case q_Reader_skip => k_is)
    (case k_Reader_skip => k_is)
    (case a_Reader_read_number => k_is)
    (case i_Reader_read_number => k_is)
    (case l_Reader_read_number => k_is)
    (case q_Reader_read_number => k_is)
    (case k_Reader_read_number => k_is)
    (case a_Reader_read_code => k_is)
    (case i_Reader_read_code => k_is)
    (case l_Reader_read_code => k_is)
    (case q_Reader_read_code => k_is)
    (case k_Reader_read_code => k_is)
    (case a_Reader_read_command => k_is)
    (case i_Reader_read_command => k_is)
    (case l_Reader_read_command => k_is)
    (case q_Reader_read_command => k_is)
    (case k_Reader_read_command => k_is)
    (case a_commands_of => k_is)
    (case l_commands_of => k_is)
    (case q_commands_of => k_is)
    (case k_commands_of => k_is)
    (case a_checked_text => k_is)
    (case l_checked_text => k_is)
    (case q_checked_text => k_is)
    (case k_checked_text => k_is)
    (case a_law_cell => k_is)
    (case l_law_cell => k_is)
    (case q_law_cell => k_is)
    (case k_law_cell => k_is)
    (case a_law_row => k_is)
    (case l_law_row => k_is)
    (case q_law_row => k_is)
    (case k_law_row => k_is)
    (case a_law_number => k_is)
    (case l_law_number => k_is)
    (case q_law_number => k_is)
    (case k_law_number => k_is)
    (case a_law_code => k_is)
    (case l_law_code => k_is)
    (case q_law_code => k_is)
    (case k_law_code => k_is)
    (case a_law_place => k_is)
    (case l_law_place => k_is)
    (case q_law_place => k_is)
    (case k_law_place => k_is)
    (case a_law_command => k_is)
    (case l_law_command => k_is)
    (case q_law_command => k_is)
    (case k_law_command => k_is)
    (case a_law_text => k_is)
    (case l_law_text => k_is)
    (case q_law_text => k_is)
    (case k_law_text => k_is)
    (case a_Pool_init => k_is)
    (case i_Pool_init => k_is)
    (case l_Pool_init => k_is)
    (case q_Pool_init => k_is)
    (case k_Pool_init => k_is)
    (case a_Pool_submit => k_is)
    (case i_Pool_submit => k_is)
    (case l_Pool_submit => k_is)
    (case q_Pool_submit => k_is)
    (case k_Pool_submit => k_is)
    (case a_law_spoilt => k_is)
    (case l_law_spoilt => k_is)
    (case q_law_spoilt => k_is)
    (case k_law_spoilt => k_is)
    (case a_law_right => k_is)
    (case l_law_right => k_is)
    (case q_law_right => k_is)
    (case k_law_right => k_is)
    (case a_law_refused => k_is)
    (case l_law_refused => k_is)
    (case q_law_refused => k_is)
    (case k_law_refused => k_is)
    (case a_law => k_is)
    (case l_law => k_is)
    (case q_law => k_is)
    (case k_law => k_is)
    (case pg_Reader => k_is)
    (case hd_Reader => k_is)
    (case po_Reader => k_is)
    (case sa_Reader => k_is)
    (case mk_Reader => k_is)
    (case kc_Reader => k_is)
    (case no_Reader_text => k_is)
    (case no_Reader_at => k_is)
    (case pg_Pool => k_is)
    (case hd_Pool => k_is)
    (case po_Pool => k_is)
    (case sa_Pool => k_is)
    (case mk_Pool => k_is)
    (case kc_Pool => k_is)
    (case no_Pool_waiting => k_is)
    (case g_MARKS => k_is)
    (case l_MARKS => k_is)
    (case kl_MARKS => exact ⟨⟨_, _, rfl, rfl⟩, ⟨_, _, rfl, rfl⟩, ⟨_, _, rfl, rfl⟩, ⟨_, _, rfl, rfl⟩, trivial⟩)
    (case lo_MARKS => exact rfl)
    (case l_MARKS_p => k_is)
    (case l_MARKS_w => k_is)
    (case l_MARKS_d => k_is)
    (case l_MARKS_k => k_is)
    (case g_BadCommand => k_is)
    (case x_BadCommand => k_exc)
    (case kc_BadCommand => k_is)
    (case b_BadCommand => k_is)
    (case t_BadCommand => k_is)
    (case xga_BadCommand => k_is)
    (case xgt_BadCommand => k_is)
    (case xhd_BadCommand => k_is)
    (case xcc_BadCommand => k_is)
    (case xsp_BadCommand => k_is)
    (case xtk_BadCommand => k_is)
    (case xmo_BadCommand => k_is)
    (case te1_BadCommand => k_is)
    (case te2_BadCommand => k_is)
    (case te3_BadCommand => k_is)
    (case te4_BadCommand_BadCommand => k_is)
    (case g_BadLine => k_is)
    (case g_TribunalError => k_is)
    (case te1_TribunalError => k_is)
    (case te2_TribunalError => k_is)
    (case te3_TribunalError => k_is)
    (case te4_TribunalError_BadCommand => k_is)
    (case kt_BadCommand_BadCommand => kit_is)
    (case kt_BadCommand_BadLine => kit_is)
