import PyProof.Rows.All
import Wide.All
import OpenK.AllK
import Wide.FinOn
import HandS.ForMost
import HandS.IsInst
import HandS.TupLe
import HandS.Codes
import HandS.More
import HandS.Exc
import HandS.ExcInit
import HandS.ExcSuper
import HandS.FStr
import HandS.ExcCtx
import HandS.HotCalls
import HandS.ExcInitHot
import HandS.ExcIs
import HandS.ExcField
import HandS.ExcOwn
import HandS.RaiseMore
import HandS.RaiseFrom
import HandS.SuiteRaise
import HandS.WordsExc
import HandS.Deep
import HandS.StrMore
import HandS.Walk
import KE.KExcIs
import KE.GoesMore
import KE.GoesEnum
import KE.KTupSum
import KE.KExcSuper
import PySem.Challenge.RW_tribunal_k03_lines_of_letters
set_option Elab.async false
set_option linter.all false
set_option maxRecDepth 100000
set_option maxHeartbeats 4000000
namespace Toy
open PySem L2
def top (i : Nat) : Stmt := PySem.Challenge.pw_tribunal_k03_lines_of_letters.main.body.getD i (.Pass ⟨0, 0, 0, 0⟩)
abbrev s_proposal : Stmt := (top 5)
abbrev s_prevote : Stmt := (top 6)
abbrev s_precommit : Stmt := (top 7)
abbrev s_is_number : Stmt := (top 17)
abbrev s_is_block : Stmt := (top 18)
abbrev s_word_at : Stmt := (top 20)
abbrev s_number_at : Stmt := (top 21)
abbrev s_kind_at : Stmt := (top 22)
abbrev s_block_at : Stmt := (top 23)
abbrev s_lean_at : Stmt := (top 24)
abbrev s_end_at : Stmt := (top 25)
abbrev s_read_letter : Stmt := (top 16)
abbrev s_word : Stmt := (top 19)
abbrev s_letter_line : Stmt := (top 15)
abbrev s_law_cell : Stmt := (top 27)
abbrev s_law_is_integer : Stmt := (top 28)
abbrev s_law_row : Stmt := (top 29)
abbrev s_law_number : Stmt := (top 30)
abbrev s_law_name : Stmt := (top 31)
abbrev s_law_line : Stmt := (top 33)
abbrev s_law_is_number : Stmt := (top 34)
abbrev s_law_is_name : Stmt := (top 35)
abbrev s_law_letter : Stmt := (top 32)
abbrev s_law_fits : Stmt := (top 36)
abbrev s_law_wrong : Stmt := (top 37)
abbrev s_law_value : Stmt := (top 38)
abbrev s_law_reads : Stmt := (top 39)
abbrev s_law_changed : Stmt := (top 40)
abbrev s_law : Stmt := (top 41)
abbrev s_BadLine_init : Stmt := (inClass (top 2) 0)
abbrev sc_proposal_N : List Str := ["height", "turn", "block"]
theorem sc_proposal : FnScope sc_proposal_N ["height", "turn", "block"] (defScope s_proposal) := ⟨rfl, rfl, rfl, by decide +kernel, rfl, by decide +kernel, by decide +kernel⟩
abbrev sc_prevote_N : List Str := ["height", "turn", "block", "lean"]
theorem sc_prevote : FnScope sc_prevote_N ["height", "turn", "block", "lean"] (defScope s_prevote) := ⟨rfl, rfl, rfl, by decide +kernel, rfl, by decide +kernel, by decide +kernel⟩
abbrev sc_precommit_N : List Str := ["height", "turn", "block"]
theorem sc_precommit : FnScope sc_precommit_N ["height", "turn", "block"] (defScope s_precommit) := ⟨rfl, rfl, rfl, by decide +kernel, rfl, by decide +kernel, by decide +kernel⟩
abbrev sc_is_number_N : List Str := ["word"]
theorem sc_is_number : FnScope sc_is_number_N ["word"] (defScope s_is_number) := ⟨rfl, rfl, rfl, by decide +kernel, rfl, by decide +kernel, by decide +kernel⟩
abbrev sc_is_block_N : List Str := ["word", "sign"]
theorem sc_is_block : FnScope sc_is_block_N ["word"] (defScope s_is_block) := ⟨rfl, rfl, rfl, by decide +kernel, rfl, by decide +kernel, by decide +kernel⟩
abbrev sc_word_at_N : List Str := ["words", "at"]
theorem sc_word_at : FnScope sc_word_at_N ["words", "at"] (defScope s_word_at) := ⟨rfl, rfl, rfl, by decide +kernel, rfl, by decide +kernel, by decide +kernel⟩
abbrev sc_number_at_N : List Str := ["words", "at", "word"]
theorem sc_number_at : FnScope sc_number_at_N ["words", "at"] (defScope s_number_at) := ⟨rfl, rfl, rfl, by decide +kernel, rfl, by decide +kernel, by decide +kernel⟩
abbrev sc_kind_at_N : List Str := ["words", "at", "word"]
theorem sc_kind_at : FnScope sc_kind_at_N ["words", "at"] (defScope s_kind_at) := ⟨rfl, rfl, rfl, by decide +kernel, rfl, by decide +kernel, by decide +kernel⟩
abbrev sc_block_at_N : List Str := ["words", "at", "kind", "word"]
theorem sc_block_at : FnScope sc_block_at_N ["words", "at", "kind"] (defScope s_block_at) := ⟨rfl, rfl, rfl, by decide +kernel, rfl, by decide +kernel, by decide +kernel⟩
abbrev sc_lean_at_N : List Str := ["words", "at", "turn", "word", "lean"]
theorem sc_lean_at : FnScope sc_lean_at_N ["words", "at", "turn"] (defScope s_lean_at) := ⟨rfl, rfl, rfl, by decide +kernel, rfl, by decide +kernel, by decide +kernel⟩
abbrev sc_end_at_N : List Str := ["words", "at"]
theorem sc_end_at : FnScope sc_end_at_N ["words", "at"] (defScope s_end_at) := ⟨rfl, rfl, rfl, by decide +kernel, rfl, by decide +kernel, by decide +kernel⟩
abbrev sc_read_letter_N : List Str := ["line", "words", "sender", "kind", "height", "turn", "block", "lean"]
theorem sc_read_letter : FnScope sc_read_letter_N ["line"] (defScope s_read_letter) := ⟨rfl, rfl, rfl, by decide +kernel, rfl, by decide +kernel, by decide +kernel⟩
abbrev sc_word_N : List Str := ["part"]
theorem sc_word : FnScope sc_word_N ["part"] (defScope s_word) := ⟨rfl, rfl, rfl, by decide +kernel, rfl, by decide +kernel, by decide +kernel⟩
abbrev sc_letter_line_N : List Str := ["letter", "sender", "statement", "part"]
theorem sc_letter_line : FnScope sc_letter_line_N ["letter"] (defScope s_letter_line) := ⟨rfl, rfl, rfl, by decide +kernel, rfl, by decide +kernel, by decide +kernel⟩
abbrev sc_law_cell_N : List Str := ["script", "k"]
theorem sc_law_cell : FnScope sc_law_cell_N ["script", "k"] (defScope s_law_cell) := ⟨rfl, rfl, rfl, by decide +kernel, rfl, by decide +kernel, by decide +kernel⟩
abbrev sc_law_is_integer_N : List Str := ["actual"]
theorem sc_law_is_integer : FnScope sc_law_is_integer_N ["actual"] (defScope s_law_is_integer) := ⟨rfl, rfl, rfl, by decide +kernel, rfl, by decide +kernel, by decide +kernel⟩
abbrev sc_law_row_N : List Str := ["cell", "count", "size", "state", "row", "k"]
theorem sc_law_row : FnScope sc_law_row_N ["cell", "count", "size"] (defScope s_law_row) := ⟨rfl, rfl, rfl, by decide +kernel, rfl, by decide +kernel, by decide +kernel⟩
abbrev sc_law_number_N : List Str := ["cell"]
theorem sc_law_number : FnScope sc_law_number_N ["cell"] (defScope s_law_number) := ⟨rfl, rfl, rfl, by decide +kernel, rfl, by decide +kernel, by decide +kernel⟩
abbrev sc_law_name_N : List Str := ["cell", "letters", "digits", "name", "k"]
theorem sc_law_name : FnScope sc_law_name_N ["cell"] (defScope s_law_name) := ⟨rfl, rfl, rfl, by decide +kernel, rfl, by decide +kernel, by decide +kernel⟩
abbrev sc_law_line_N : List Str := ["letter", "words", "part"]
theorem sc_law_line : FnScope sc_law_line_N ["letter"] (defScope s_law_line) := ⟨rfl, rfl, rfl, by decide +kernel, rfl, by decide +kernel, by decide +kernel⟩
abbrev sc_law_is_number_N : List Str := ["word", "char"]
theorem sc_law_is_number : FnScope sc_law_is_number_N ["word"] (defScope s_law_is_number) := ⟨rfl, rfl, rfl, by decide +kernel, rfl, by decide +kernel, by decide +kernel⟩
abbrev sc_law_is_name_N : List Str := ["word", "char"]
theorem sc_law_is_name : FnScope sc_law_is_name_N ["word"] (defScope s_law_is_name) := ⟨rfl, rfl, rfl, by decide +kernel, rfl, by decide +kernel, by decide +kernel⟩
abbrev sc_law_letter_N : List Str := ["cell", "more", "sender", "height", "turn", "block", "lean"]
theorem sc_law_letter : FnScope sc_law_letter_N ["cell", "more"] (defScope s_law_letter) := ⟨rfl, rfl, rfl, by decide +kernel, rfl, by decide +kernel, by decide +kernel⟩
abbrev sc_law_fits_N : List Str := ["words", "at", "word"]
theorem sc_law_fits : FnScope sc_law_fits_N ["words", "at"] (defScope s_law_fits) := ⟨rfl, rfl, rfl, by decide +kernel, rfl, by decide +kernel, by decide +kernel⟩
abbrev sc_law_wrong_N : List Str := ["words", "count", "at"]
theorem sc_law_wrong : FnScope sc_law_wrong_N ["words"] (defScope s_law_wrong) := ⟨rfl, rfl, rfl, by decide +kernel, rfl, by decide +kernel, by decide +kernel⟩
abbrev sc_law_value_N : List Str := ["words", "parts", "at"]
theorem sc_law_value : FnScope sc_law_value_N ["words"] (defScope s_law_value) := ⟨rfl, rfl, rfl, by decide +kernel, rfl, by decide +kernel, by decide +kernel⟩
abbrev sc_law_reads_N : List Str := ["line", "words", "wrong", "actual", "e"]
theorem sc_law_reads : FnScope sc_law_reads_N ["line"] (defScope s_law_reads) := ⟨rfl, rfl, rfl, by decide +kernel, rfl, by decide +kernel, by decide +kernel⟩
abbrev sc_law_changed_N : List Str := ["line", "way", "words", "at", "strange"]
theorem sc_law_changed : FnScope sc_law_changed_N ["line", "way"] (defScope s_law_changed) := ⟨rfl, rfl, rfl, by decide +kernel, rfl, by decide +kernel, by decide +kernel⟩
abbrev sc_law_N : List Str := ["script", "k", "letter", "line"]
theorem sc_law : FnScope sc_law_N ["script"] (defScope s_law) := ⟨rfl, rfl, rfl, by decide +kernel, rfl, by decide +kernel, by decide +kernel⟩
/-! ### what stands where -/
structure DefAt (K : PySem.W.Frag) (mg : Str → Option Value) (x : Str) (st : Stmt) (ps : List Str) (f : Addr) : Prop where
  F : ∃ fd, Fun K x x st f fd ∧ Binds K fd ps []
  g : mg x = some (.ref f)
  kp : PySem.W.keepIn K (.ref f) = true
structure MethAt (K : PySem.W.Frag) (C : Addr) (x qual : Str) (st : Stmt) (ps : List Str) (f : Addr) : Prop where
  F : ∃ fd, Fun K x qual st f fd ∧ Binds K fd ps []
  fi : PySem.W.findIn K (.ref C) x = some (some (.ref f))
  isf : PySem.W.isFn K (.ref f) = true
  kp : PySem.W.keepIn K (.ref f) = true
theorem def_mk {K : PySem.W.Frag} {x qual : Str} {st : Stmt} {f : Addr} {ps : List Str} {oc : Value} {od an : Option Addr} {osl : Array (Option Value)} {kV doc pm cdv ct : Value}
    (l : K.lookup f = some ⟨oc, od, .func (PySem.W.fnOf x qual (defArgs st) (defBody st) (defScope st) .none kV doc pm an cdv ct), osl⟩)
    (c : PySem.W.codeIn K cdv qual = true) (k : PySem.W.keepIn K (.ref f) = true)
    (h : ∀ (kV doc pm : Value) (an : Option Addr) (cdv ct : Value) (us : List Value), us.length = ps.length → bindArgs (PySem.W.fnOf x qual (defArgs st) (defBody st) (defScope st) .none kV doc pm an cdv ct) ⟨us, []⟩ = pure (ps.zip us)) :
    ∃ fd, Fun K x qual st f fd ∧ Binds K fd ps [] := by
  have F := fun_mk (st := st) l c k
  exact ⟨_, F, F.binds h⟩
theorem mg_no {K : PySem.W.Frag} {h : Heap} {mg : Str → Option Value} {n : Str} (X : K.In h) (G : h.Ns mainGlobals mg) (e : PySem.W.nsIn K mainGlobals n = some none) : mg n = none := PySem.W.mg_none_of X G e
theorem same_new {H : Hp} {p : Addr} {o : HO} (n : H p = Option.none) : Same H (upd H p o) := fun b u e => by
  rw [upd_ne (ne_of_none e n)]
  exact e
theorem same_upd {H H2 : Hp} {p : Addr} {o : HO} (s : Same H H2) (n : H p = Option.none) : Same H (upd H2 p o) := fun b u e => by
  rw [upd_ne (ne_of_none e n)]
  exact s b u e
structure Ads where
  d_proposal : Addr
  d_prevote : Addr
  d_precommit : Addr
  d_is_number : Addr
  d_is_block : Addr
  d_word_at : Addr
  d_number_at : Addr
  d_kind_at : Addr
  d_block_at : Addr
  d_lean_at : Addr
  d_end_at : Addr
  d_read_letter : Addr
  d_word : Addr
  d_letter_line : Addr
  d_law_cell : Addr
  d_law_is_integer : Addr
  d_law_row : Addr
  d_law_number : Addr
  d_law_name : Addr
  d_law_line : Addr
  d_law_is_number : Addr
  d_law_is_name : Addr
  d_law_letter : Addr
  d_law_fits : Addr
  d_law_wrong : Addr
  d_law_value : Addr
  d_law_reads : Addr
  d_law_changed : Addr
  C_BadLine : Addr
  d_BadLine_init : Addr
  P_KINDS : Addr
  C_TribunalError : Addr
  C_BadJournal : Addr
structure Txt (K : PySem.W.Frag) (mg : Str → Option Value) (a : Ads) : Prop where
  n_len : mg "len" = none
  n_range : mg "range" = none
  n_isinstance : mg "isinstance" = none
  n_int : mg "int" = none
  n_bool : mg "bool" = none
  n_list : mg "list" = none
  n_tuple : mg "tuple" = none
  n_str : mg "str" = none
  n_super : mg "super" = none
  n_ValueError : mg "ValueError" = none
  n_all : mg "all" = none
  n_abs : mg "abs" = none
  c_NONE : ∃ t, mg "NONE" = some (.str "-" t)
  c_LETTERS : ∃ t, mg "LETTERS" = some (.str "abcdefghijklmnopqrstuvwxyz" t)
  c_BLOCK_SIGNS : ∃ t, mg "BLOCK_SIGNS" = some (.str "abcdefghijklmnopqrstuvwxyz0123456789" t)
  c_MOST_DIGITS : ∃ t, mg "MOST_DIGITS" = some (.int 9 t)
  c_MOST_SIGNS : ∃ t, mg "MOST_SIGNS" = some (.int 60 t)
  d_proposal : DefAt K mg "proposal" s_proposal ["height", "turn", "block"] a.d_proposal
  d_prevote : DefAt K mg "prevote" s_prevote ["height", "turn", "block", "lean"] a.d_prevote
  d_precommit : DefAt K mg "precommit" s_precommit ["height", "turn", "block"] a.d_precommit
  d_is_number : DefAt K mg "is_number" s_is_number ["word"] a.d_is_number
  d_is_block : DefAt K mg "is_block" s_is_block ["word"] a.d_is_block
  d_word_at : DefAt K mg "_word_at" s_word_at ["words", "at"] a.d_word_at
  d_number_at : DefAt K mg "_number_at" s_number_at ["words", "at"] a.d_number_at
  d_kind_at : DefAt K mg "_kind_at" s_kind_at ["words", "at"] a.d_kind_at
  d_block_at : DefAt K mg "_block_at" s_block_at ["words", "at", "kind"] a.d_block_at
  d_lean_at : DefAt K mg "_lean_at" s_lean_at ["words", "at", "turn"] a.d_lean_at
  d_end_at : DefAt K mg "_end_at" s_end_at ["words", "at"] a.d_end_at
  d_read_letter : DefAt K mg "read_letter" s_read_letter ["line"] a.d_read_letter
  d_word : DefAt K mg "_word" s_word ["part"] a.d_word
  d_letter_line : DefAt K mg "letter_line" s_letter_line ["letter"] a.d_letter_line
  d_law_cell : DefAt K mg "_law_cell" s_law_cell ["script", "k"] a.d_law_cell
  d_law_is_integer : DefAt K mg "_law_is_integer" s_law_is_integer ["actual"] a.d_law_is_integer
  d_law_row : DefAt K mg "_law_row" s_law_row ["cell", "count", "size"] a.d_law_row
  d_law_number : DefAt K mg "_law_number" s_law_number ["cell"] a.d_law_number
  d_law_name : DefAt K mg "_law_name" s_law_name ["cell"] a.d_law_name
  d_law_line : DefAt K mg "_law_line" s_law_line ["letter"] a.d_law_line
  d_law_is_number : DefAt K mg "_law_is_number" s_law_is_number ["word"] a.d_law_is_number
  d_law_is_name : DefAt K mg "_law_is_name" s_law_is_name ["word"] a.d_law_is_name
  d_law_letter : DefAt K mg "_law_letter" s_law_letter ["cell", "more"] a.d_law_letter
  d_law_fits : DefAt K mg "_law_fits" s_law_fits ["words", "at"] a.d_law_fits
  d_law_wrong : DefAt K mg "_law_wrong" s_law_wrong ["words"] a.d_law_wrong
  d_law_value : DefAt K mg "_law_value" s_law_value ["words"] a.d_law_value
  d_law_reads : DefAt K mg "_law_reads" s_law_reads ["line"] a.d_law_reads
  d_law_changed : DefAt K mg "_law_changed" s_law_changed ["line", "way"] a.d_law_changed
section
open PyProof.Rows
/-! ### own rules: set(list of ints), k in that set; enumerate(a tuple) -/
theorem any_firstMet (zs : List Int) (k : Int) : (PyProof.Rows.firstMet (fun i => zs.getD i 0) zs.length).any (· == k) = decide (k ∈ zs) := by
  rw [PyProof.Rows.firstMet_any, Bool.eq_iff_iff, List.any_eq_true, decide_eq_true_iff]
  constructor
  · rintro ⟨y, hy, e⟩
    obtain ⟨i, hi, rfl⟩ := List.mem_map.mp hy
    have hi' : i < zs.length := List.mem_range.mp hi
    have e' : zs.getD i 0 = k := by simpa using e
    rw [← e', List.getD_eq_getElem?_getD, List.getElem?_eq_getElem hi']
    exact List.getElem_mem hi'
  · intro hk
    obtain ⟨i, hi, e⟩ := List.getElem_of_mem hk
    refine ⟨k, List.mem_map.mpr ⟨i, List.mem_range.mpr hi, ?_⟩, by simp⟩
    show zs.getD i 0 = k
    rw [List.getD_eq_getElem?_getD, List.getElem?_eq_getElem hi]
    exact e
/-- set(xs), xs a list of ints -/
def rSetOfL (K : PySem.W.Frag) : List V → Hp → VK → Prop := fun vs H Q => ∃ (l : Addr) (zs : List Int), vs = [V.ref l] ∧ SqL K H l (zs.map V.int) ∧ zs.length ≤ 1000 ∧
  ∀ (p : Addr) (n : Nat), H p = Option.none → Q (.ref p) (upd H p (.set (fun k => decide (k ∈ zs)) n))
theorem cr_set {X : Cx} (calm : X.calm = true) : CallR X (.type "set") (rSetOfL X.K) := by
  intro pins sh σ H vs us Q I rel hyp
  obtain ⟨l, zs, rfl, hl, few, q⟩ := hyp
  rw [Vals.ref1 rel]
  obtain ⟨its, rv, pl, _⟩ := I.list hl
  have isI := ints_of_vals rv
  have same : its.toArray.size = zs.length := by
    have e := rv.length
    rw [List.length_map] at e
    rw [List.size_toArray]
    exact e.symm
  refine PySem.call_set_list (items := its.toArray) (ns := zs) (I.ok.hd calm) pl.isList (by simpa using isI) (by rw [same]; unfold scanBound; omega) fun h' tk S kp => ?_
  have fresh : H sh.heap.objs.size = Option.none := I.hok.fresh (Nat.le_refl _)
  have e : (fun k => (PyProof.Rows.firstMet (fun i => zs.getD i 0) its.toArray.size).any (· == k)) = fun k => decide (k ∈ zs) := by
    funext k
    rw [same]
    exact any_firstMet zs k
  rw [e] at S
  exact ⟨.ref sh.heap.objs.size, upd H sh.heap.objs.size (.set (fun k => decide (k ∈ zs)) _), I.laid (t' := tk) (fun b o ho => kp b o (Heap.lt_size ho) ho) (Nat.le_refl _) S, rfl, q _ _ fresh⟩
/-- k in such a set -/
def rInSt (neg : Bool) : R2 := fun x y H Q => ∃ (k : Int) (b : Addr) (S : Int → Bool) (n : Nat), x = V.int k ∧ y = V.ref b ∧ H b = some (.set S n) ∧ Q (.bl (if neg then !S k else S k)) H
theorem op_in_set {X : Cx} : OpR X (compareOp .In) (rInSt false) := by
  intro pins sh σ H x y v u Q I r1 r2 hyp
  obtain ⟨k, b, S, n, rfl, rfl, hb, q⟩ := hyp
  obtain ⟨tk, rfl⟩ := r1
  cases r2
  have hS : sh.heap.SetOf (intKind X.prog X.w) b S n := I.hok b _ hb
  exact PySem.wpAny_inSet_of (PySem.intKind_is _ _ _ _) rfl hS ⟨.bl (S k), H, I.tok _, rfl, q⟩
/-- the pairs of enumerate over the tuple at a -/
def Itu (K : PySem.W.Frag) (a : Addr) : It where
  go i H := ∃ (ys : List V) (y : V), SqT K H a ys ∧ ys[i]? = some y
  yld i H v H' := ∃ (p : Addr) (y : V), v = .ref p ∧ H p = Option.none ∧ H' = upd H p (.tup [.int (i : Nat), y]) ∧ ∀ ys, SqT K H a ys → ys[i]? = some y
  stop i H := ∃ ys : List V, SqT K H a ys ∧ ys.length = i
theorem turn_enumT {P : Program} {w : World} {K : PySem.W.Frag} {elts : List Expr} {kk : Nat} {tpos : Pos} (a en it : Addr) (na : a ≠ it) (ne : en ≠ it) (nea : en ≠ a) :
    Turn P w K (.Tuple elts kk tpos) (Itu K a) [en, it] en (fun i h => (∃ old, IsEnum h en it ((i : Nat) : Int) old) ∧ h.IsTupleIter it a i) where
  mem := List.mem_cons_self
  obj := by
    rintro i h ⟨⟨old, he⟩, ⟨o, ho, hc, hd⟩⟩ b hb
    rcases List.mem_cons.mp hb with rfl | hb
    · exact ⟨_, he, fun v z => nomatch z⟩
    · rw [List.mem_singleton.mp hb]
      exact ⟨o, ho, fun v z => by rw [hd] at z; cases z⟩
  keep := by
    rintro i h h' ⟨⟨old, he⟩, hi⟩ kp
    exact ⟨⟨old, kp en List.mem_cons_self _ he⟩, hi.at fun o z => kp it (List.mem_cons_of_mem _ List.mem_cons_self) o z⟩
  item := by
    intro X hP hw hK calm i pins sh σ H E I fp st hg
    subst hP hw hK
    obtain ⟨⟨old, he⟩, hit⟩ := st
    obtain ⟨ys, y, hy, hix⟩ := hg
    obtain ⟨its, rv, tp, _⟩ := I.tuple hy
    obtain ⟨u, hu, ru⟩ := rv.get hix
    have hT : sh.heap.IsTuple a its.toArray := tp
    have hlen : i < its.toArray.size := by
      rw [List.size_toArray]
      exact (List.getElem?_eq_some_iff.mp hu).1
    have len : en < sh.heap.objs.size := Heap.lt_size he
    have lit : it < sh.heap.objs.size := by
      obtain ⟨_, z, _⟩ := hit
      exact Heap.lt_size z
    refine wpAny_pyNext_enum_itemD (Draws.tuple (by simp [I.ok.hd calm]) it a na its.toArray) he ⟨hit, hT⟩ hlen ne (by simp [ne, nea]) fun x h' tk hx ho hst hnew hsz kp => ?_
    have ex : x = u := by
      rw [List.getElem?_toArray, hu] at hx
      exact (Option.some.inj hx).symm
    subst ex
    refine ⟨_, rfl, wpAny_letOwnedTupleGo_enum (s := { sh with heap := h', toks := tk + 1 }) ho fun h2 he2 sb => ?_⟩
    have new2 : h2.get? sh.heap.objs.size = some { cls := .type "tuple", data := .seq #[.int i tk, x] } := (sb.2 _ (Nat.ne_of_gt len)).trans hnew
    have okN : ObjOk X.prog X.w (upd H sh.heap.objs.size (.tup [.int (i : Nat), y])) h2 sh.heap.objs.size (.tup [.int (i : Nat), y]) := by
      refine ⟨(by show 2 ≤ sizeLine; decide), [.int i tk, x], .cons ⟨_, rfl⟩ (.cons ru .nil), ?_⟩
      exact ⟨_, new2, rfl, _, rfl⟩
    have I2 : Inv X pins σ (upd H sh.heap.objs.size (.tup [.int (i : Nat), y])) { sh with heap := h2, toks := tk + 1 } := by
      refine I.turnedNew (ch := [en, it]) (fun b ob hb z => ?_) fp (Nat.le_refl _) okN
      have b1 : b ≠ en := fun q => hb (by rw [q]; exact List.mem_cons_self)
      have b2 : b ≠ it := fun q => hb (by rw [q]; exact List.mem_cons_of_mem _ List.mem_cons_self)
      exact (sb.2 b b1).trans (kp b ob b1 b2 z)
    refine ⟨.ref sh.heap.objs.size, _, I2, rfl, ⟨_, y, rfl, I.hok.fresh (Nat.le_refl _), rfl, fun zs hz => ?_⟩, ⟨⟨x, ?_⟩, hst.1.at fun o z => (sb.2 it (Ne.symm ne)).trans z⟩, fun b hb => ?_⟩
    · rw [I.tuple_inj hz hy]
      exact hix
    · have e1 : ((i + 1 : Nat) : Int) = (i : Int) + 1 := by omega
      rw [e1]
      exact he2
    · have lb : b < sh.heap.objs.size := by
        rcases List.mem_cons.mp hb with rfl | hb
        · exact len
        · rw [List.mem_singleton.mp hb]
          exact lit
      rw [upd_ne (Nat.ne_of_lt lb)]
      exact (fp b hb).1
  done := by
    intro X hP hw hK calm i pins sh σ H E I fp st hg
    subst hP hw hK
    obtain ⟨⟨old, he⟩, hit⟩ := st
    obtain ⟨ys, hy, rfl⟩ := hg
    obtain ⟨its, rv, tp, _⟩ := I.tuple hy
    have hT : sh.heap.IsTuple a its.toArray := tp
    have e : ys.length = its.toArray.size := by
      rw [List.size_toArray]
      exact rv.length
    rw [e] at hit
    obtain ⟨g0, g1, g2, g3, g4, g5⟩ := fp it (List.mem_cons_of_mem _ List.mem_cons_self)
    exact wpAny_pyNext_enum_endD (Draws.tuple (by simp [I.ok.hd calm]) it a na its.toArray) he ⟨hit, hT⟩ fun h' eb => ⟨rfl, I.turned (t' := sh.toks) (fun b o hb z => eb b o hb z) g0 g1 g3 g4 g5⟩
  self := by
    rintro A i s Q E ⟨⟨_, he⟩, _⟩ h
    exact wpAny_pyIter_enum he h
theorem meets_enum1 {v : Value} {o : Obj} {Z : Heap → Prop} (B : Begins v o Z) :
    Meets (Builtin.«enumerate.__new__» ⟨[.type "enumerate", v], []⟩) (fun _ R s => Z s.heap ∧
      R (.ok (.ret (.ref (s.heap.push o).objs.size))) { s with heap := (s.heap.push o).push { cls := .type "enumerate", data := .fields #[.none, .bool false, .ref s.heap.objs.size, rawInt 0, .none, .none] } }) :=
  .of_wp fun prog w A R s hyp => by
    obtain ⟨hp, g, d, tk, os⟩ := s
    obtain ⟨hz, hyp⟩ := hyp
    have sube := sub_enumerate
    have step : ∀ {A' : Around} {E' : Value → Shared → Prop} {Q' : Value → Shared → Prop}, Q' (.ref hp.objs.size) ⟨hp.push o, g, d, tk, os⟩ → wpAny (model prog w) A' (pyIter v) Q' E' ⟨hp, g, d, tk, os⟩ :=
      fun z => B.iter prog w _ _ ⟨hp, g, d, tk, os⟩ _ hz z
    wp_walk using step
    refine wpAny_stack_any fun st => wpAny_pure ?_
    split
    · rename_i c _ _ _ _ _
      cases (c == Value.type "enumerate") <;> (wp_walk using step; exact ⟨_, rfl, hyp⟩)
    · wp_walk using step
      exact ⟨_, rfl, hyp⟩
theorem call_enum1 {prog : Program} {w : World} {A : Around} {E : Value → Shared → Prop} {s : Shared} {v : Value} {o : Obj} {Z : Heap → Prop} {Q : Value → Shared → Prop} (B : Begins v o Z) (hz : Z s.heap)
    (fin : ∀ h', IsEnum h' (s.heap.objs.size + 1) s.heap.objs.size 0 .none → h'.get? s.heap.objs.size = some o → (∀ b u, s.heap.get? b = some u → h'.get? b = some u) → Q (.ref (s.heap.objs.size + 1)) { s with heap := h' }) :
    wpAny (model prog w) A (call (.type "enumerate") [v]) Q E s := by
  have size1 : (s.heap.push o).objs.size = s.heap.objs.size + 1 := Heap.size_push ..
  refine callType_new F.called_enumerate (by decide) (F.typeCall_enumerate_1 _) (F.newCall_enumerate_1 _) (fun obj => F.args_object_init_2 obj _) F.entry_enumerate_new (meets_enum1 B) ⟨hz, ?_⟩
  rw [size1]
  have isE : IsEnum ((s.heap.push o).push { cls := .type "enumerate", data := .fields #[.none, .bool false, .ref s.heap.objs.size, rawInt 0, .none, .none] }) (s.heap.objs.size + 1) s.heap.objs.size 0 .none := by
    have z := Heap.get?_push_size (s.heap.push o) (o := { cls := .type "enumerate", data := .fields #[.none, .bool false, .ref s.heap.objs.size, rawInt 0, .none, .none] }) rfl
    rwa [size1] at z
  exact ⟨⟨_, isE, rfl⟩, fin _ isE (Heap.get?_push_of_some _ (Heap.get?_push_size _ B.free)) fun b u z => Heap.get?_push_of_some _ (Heap.get?_push_of_some _ z)⟩
def iEnumT (K : PySem.W.Frag) (ta : TA) : TI := fun σ H R => ta σ H fun vs H1 => ∃ (a : Addr) (ys : List V), vs = [.ref a] ∧ SqT K H1 a ys ∧ R (Itu K a) H1
theorem pi_enumT {X : Cx} {e : Expr} {ta : TA} {p pos tpos : Pos} {elts : List Expr} {kk : Nat} (gl : Gl X "enumerate") (no : X.mg "enumerate" = none) (pa : PA X [e] ta) (plain : starEach [e] X.env = [(false, eval e X.env)] := by rfl) :
    PI X (.Tuple elts kk tpos) (.Call (.Name "enumerate" p) [e] [] pos) (iEnumT X.K ta) := by
  constructor
  intro pins s σ H R I hyp
  refine PyProof.Rows.Call_ (ld_blt I gl no boot_enumerate (PyProof.Rows.callWith_type1 (thn (pa.run pos pins s σ H _ I hyp) fun us s1 got => ?_) plain rfl))
  obtain ⟨vs, H1, I1, rel, a, ys, rfl, hy, q⟩ := got
  rw [Vals.ref1 rel]
  obtain ⟨its, rv, tp, _⟩ := I1.tuple hy
  have hT : s1.heap.IsTuple a its.toArray := tp
  have la : a < s1.heap.objs.size := by
    obtain ⟨_, z, _⟩ := hT
    exact Heap.lt_size z
  refine call_enum1 (begins_tuple a its.toArray) hT fun h' isE hit kp => wpAny_pyIter_enum isE ?_
  have I2 : Inv X pins σ H1 { s1 with heap := h' } := I1.kept (t' := s1.toks) kp
  refine ⟨s1.heap.objs.size + 1, [s1.heap.objs.size + 1, s1.heap.objs.size], _, _, H1, rfl, I2, turn_enumT a (s1.heap.objs.size + 1) s1.heap.objs.size (Nat.ne_of_lt la) (Nat.succ_ne_self _) (Nat.ne_of_gt (Nat.lt_succ_of_lt la)), ⟨⟨.none, isE⟩, _, hit, rfl, rfl⟩, fun b hb => ?_, q⟩
  have le : s1.heap.objs.size ≤ b := by
    rcases List.mem_cons.mp hb with rfl | hb
    · exact Nat.le_succ _
    · rw [List.mem_singleton.mp hb]
      exact Nat.le_refl _
  exact I1.fpOk le (I1.hok.fresh le)
/-- the forms that one uses: a word by the turn -/
theorem for_enumT {K : PySem.W.Frag} {a : Addr} {ys : List V} {g : TG} {tb : TS} {D : Ends} {σ : L2.St} {H : Hp} (Pv : Nat → L2.St → Hp → Prop) (h0 : Pv 0 σ H) (src : ∀ i σ H, i ≤ ys.length → Pv i σ H → SqT K H a ys)
    (turn : ∀ i y σ H p, ys[i]? = some y → Pv i σ H → H p = Option.none → g (.ref p) σ (upd H p (.tup [.int (i : Nat), y])) fun σ2 H2 => tb { D with nx := Pv (i + 1), ct := Pv (i + 1), bk := D.nx } σ2 H2) (fin : ∀ σ H, Pv ys.length σ H → D.nx σ H) :
    ∃ W : Nat → Nat → L2.St → Hp → Prop, (∃ m, W 0 m σ H) ∧ ∀ i m σ H, W i m σ H →
      ((Itu K a).stop i H ∧ D.nx σ H) ∨ ((Itu K a).go i H ∧ ∃ N : L2.St → Hp → Prop, (∀ σ' H', N σ' H' → ∃ m', m' < m ∧ W (i + 1) m' σ' H') ∧ ∀ x H', (Itu K a).yld i H x H' → g x σ H' fun σ2 H2 => tb { D with nx := N, ct := N, bk := D.nx } σ2 H2) := by
  refine ⟨fun i m σ H => m + i = ys.length ∧ Pv i σ H, ⟨ys.length, Nat.add_zero _, h0⟩, ?_⟩
  rintro i m σ H ⟨em, pv⟩
  have s := src i σ H (by omega) pv
  rcases Nat.lt_or_ge i ys.length with lt | ge
  · refine .inr ⟨⟨ys, ys[i], s, List.getElem?_eq_getElem lt⟩, Pv (i + 1), fun σ' H' z => ⟨m - 1, by omega, by omega, z⟩, ?_⟩
    rintro x H' ⟨p, y, rfl, hp, rfl, hy⟩
    exact turn i y σ H p (hy ys s) pv hp
  · have e : i = ys.length := by omega
    subst e
    exact .inl ⟨⟨ys, s, rfl⟩, fin σ H pv⟩
theorem lc_enumT {K : PySem.W.Frag} {a : Addr} {ys : List V} {g : TG} {tt : TT} {te : TE} {vs : List Nat} {σ : L2.St} {H1 : Hp} {D : Addr} {Qd : Hp → Prop} (Pv : Nat → Hp → Prop) (h0 : Pv 0 (upd H1 D (.lst []))) (src : ∀ i H, i ≤ ys.length → Pv i H → SqT K H a ys)
    (turn : ∀ i y H p, ys[i]? = some y → Pv i H → H p = Option.none → g (.ref p) (wipe σ vs) (upd H p (.tup [.int (i : Nat), y])) fun σ2 H2 => wipe σ2 vs = wipe σ vs ∧ tt σ2 H2 fun b H3 =>
      if b = true then te σ2 H3 fun y H4 => ∃ acc, H4 D = some (.lst acc) ∧ acc.length < sizeLine ∧ Pv (i + 1) (upd H4 D (.lst (acc ++ [y]))) else Pv (i + 1) H3) (fin : ∀ H, Pv ys.length H → Qd H) :
    ∃ W : Nat → Nat → Hp → Prop, (∃ m, W 0 m (upd H1 D (.lst []))) ∧ ∀ i m H, W i m H →
      ((Itu K a).stop i H ∧ Qd H) ∨ ((Itu K a).go i H ∧ ∃ Nx : Hp → Prop, (∀ H', Nx H' → ∃ m', m' < m ∧ W (i + 1) m' H') ∧ ∀ x H', (Itu K a).yld i H x H' → g x (wipe σ vs) H' fun σ2 H2 => wipe σ2 vs = wipe σ vs ∧ tt σ2 H2 fun b H3 =>
        if b = true then te σ2 H3 fun y H4 => ∃ acc, H4 D = some (.lst acc) ∧ acc.length < sizeLine ∧ Nx (upd H4 D (.lst (acc ++ [y]))) else Nx H3) := by
  refine ⟨fun i m H => m + i = ys.length ∧ Pv i H, ⟨ys.length, Nat.add_zero _, h0⟩, ?_⟩
  rintro i m H ⟨em, pv⟩
  have s := src i H (by omega) pv
  rcases Nat.lt_or_ge i ys.length with lt | ge
  · refine .inr ⟨⟨ys, ys[i], s, List.getElem?_eq_getElem lt⟩, Pv (i + 1), fun H' z => ⟨m - 1, by omega, by omega, z⟩, ?_⟩
    rintro x H' ⟨p, y, rfl, hp, rfl, hy⟩
    exact turn i y H p (hy ys s) pv hp
  · have e : i = ys.length := by omega
    subst e
    exact .inl ⟨⟨ys, s, rfl⟩, fin H pv⟩
/-- sum(t), t a tuple of ints -/
def rSumT (K : PySem.W.Frag) : List V → Hp → VK → Prop := fun vs H Q => ∃ (a : Addr) (zs : List Int), vs = [V.ref a] ∧ SqT K H a (zs.map V.int) ∧ Q (.int zs.sum) H
theorem cr_sumT {X : Cx} (calm : X.calm = true) : CallR X (.builtin "sum") (rSumT X.K) := by
  intro pins sh σ H vs us Q I rel hyp
  obtain ⟨a, zs, rfl, hz, q⟩ := hyp
  rw [Vals.ref1 rel]
  obtain ⟨its, rv, tp, _⟩ := I.tuple hz
  have hT : sh.heap.IsTuple a its.toArray := tp
  have isI : IntsAre its zs := Vals.ints rv
  obtain ⟨xs, ex⟩ := isI.allInts.items
  have en : numsOf (intItems xs).toList = zs := by
    rw [← ex]
    exact isI.numsOf
  rw [nums_intItems] at en
  rw [ex] at hT
  refine PySem.W.ktm_sumG (I.ok.hd calm) hT fun h' tk t' kp => ?_
  rw [preSum_eq, List.take_of_length_le (by simp), en]
  exact ⟨.int zs.sum, H, I.kept kp, ⟨_, rfl⟩, q⟩
/-- enumerate over a list, by a word -/
theorem for_enumL {K : PySem.W.Frag} {a : Addr} {ys : List V} {g : TG} {tb : TS} {D : Ends} {σ : L2.St} {H : Hp} (Pv : Nat → L2.St → Hp → Prop) (h0 : Pv 0 σ H) (src : ∀ i σ H, i ≤ ys.length → Pv i σ H → SqL K H a ys)
    (turn : ∀ i y σ H p, ys[i]? = some y → Pv i σ H → H p = Option.none → g (.ref p) σ (upd H p (.tup [.int (i : Nat), y])) fun σ2 H2 => tb { D with nx := Pv (i + 1), ct := Pv (i + 1), bk := D.nx } σ2 H2) (fin : ∀ σ H, Pv ys.length σ H → D.nx σ H) :
    ∃ W : Nat → Nat → L2.St → Hp → Prop, (∃ m, W 0 m σ H) ∧ ∀ i m σ H, W i m σ H →
      ((Ite K a).stop i H ∧ D.nx σ H) ∨ ((Ite K a).go i H ∧ ∃ N : L2.St → Hp → Prop, (∀ σ' H', N σ' H' → ∃ m', m' < m ∧ W (i + 1) m' σ' H') ∧ ∀ x H', (Ite K a).yld i H x H' → g x σ H' fun σ2 H2 => tb { D with nx := N, ct := N, bk := D.nx } σ2 H2) := by
  refine ⟨fun i m σ H => m + i = ys.length ∧ Pv i σ H, ⟨ys.length, Nat.add_zero _, h0⟩, ?_⟩
  rintro i m σ H ⟨em, pv⟩
  have s := src i σ H (by omega) pv
  rcases Nat.lt_or_ge i ys.length with lt | ge
  · refine .inr ⟨⟨ys, ys[i], s, List.getElem?_eq_getElem lt⟩, Pv (i + 1), fun σ' H' z => ⟨m - 1, by omega, by omega, z⟩, ?_⟩
    rintro x H' ⟨p, y, rfl, hp, rfl, hy⟩
    exact turn i y σ H p (hy ys s) pv hp
  · have e : i = ys.length := by omega
    subst e
    exact .inl ⟨⟨ys, s, Nat.le_refl _⟩, fin σ H pv⟩
/-- k in xs, xs a list of ints -/
theorem inV_ints (zs : List Int) (k : Int) : inV (V.int k) (zs.map V.int) = decide (k ∈ zs) := by
  induction zs with
  | nil => rfl
  | cons a r ih =>
    have e : inV (V.int k) ((a :: r).map V.int) = (eqV (V.int a) (V.int k) || inV (V.int k) (r.map V.int)) := rfl
    rw [e, ih]
    by_cases h : a = k
    · subst h
      simp [eqV]
    · have h' : ¬ k = a := fun z => h z.symm
      simp [eqV, h, h']
theorem flat_ints (zs : List Int) : (zs.map V.int).all flatV = true := by
  rw [List.all_eq_true]
  intro x hx
  obtain ⟨z, _, rfl⟩ := List.mem_map.mp hx
  rfl
end

/-! ### the data: a statement as the tuple that it is -/
inductive Kd where
  | prop | pre | com
  deriving DecidableEq
def Kd.s : Kd → Str
  | .prop => "proposal"
  | .pre => "prevote"
  | .com => "precommit"
structure Sm where
  k : Kd
  h : Int
  t : Int
  b : Option Str
  l : Option Int
def oS : Option Str → V
  | none => .non
  | some x => .str x
def oI : Option Int → V
  | none => .non
  | some x => .int x
def Sm.vals (m : Sm) : List V := match m.k with
  | .pre => [.str m.k.s, .int m.h, .int m.t, oS m.b, oI m.l]
  | _ => [.str m.k.s, .int m.h, .int m.t, oS m.b]
def SmAt (H : Hp) (p : Addr) (m : Sm) : Prop := H p = some (.tup m.vals)
theorem at0 (m : Sm) : atI m.vals 0 = some (.str m.k.s) := by
  cases m with | mk k h t b l => cases k <;> rfl
theorem at1 (m : Sm) : atI m.vals 1 = some (.int m.h) := by
  cases m with | mk k h t b l => cases k <;> rfl
theorem at2 (m : Sm) : atI m.vals 2 = some (.int m.t) := by
  cases m with | mk k h t b l => cases k <;> rfl
theorem at3 (m : Sm) : atI m.vals 3 = some (oS m.b) := by
  cases m with | mk k h t b l => cases k <;> rfl
theorem at4 (m : Sm) (e : m.k = .pre) : atI m.vals 4 = some (oI m.l) := by
  cases m with | mk k h t b l => cases k <;> first | rfl | cases e
theorem ks_pp : ¬ (("proposal" : Str) = "prevote") := by decide +kernel
theorem ks_pc : ¬ (("proposal" : Str) = "precommit") := by decide +kernel
theorem ks_vc : ¬ (("prevote" : Str) = "precommit") := by decide +kernel
theorem ks_vp : ¬ (("prevote" : Str) = "proposal") := fun e => ks_pp e.symm
theorem ks_cp : ¬ (("precommit" : Str) = "proposal") := fun e => ks_pc e.symm
theorem ks_cv : ¬ (("precommit" : Str) = "prevote") := fun e => ks_vc e.symm
theorem kd_inj (a b : Kd) : a.s = b.s ↔ a = b := by
  cases a <;> cases b <;> simp [Kd.s, ks_pp, ks_pc, ks_vc, ks_vp, ks_cp, ks_cv]
theorem dec_kd (a b : Kd) : decide (V.str a.s = V.str b.s) = decide (a = b) := by
  rw [Bool.eq_iff_iff, decide_eq_true_iff, decide_eq_true_iff]
  constructor
  · intro e
    injection e with e
    exact (kd_inj a b).mp e
  · intro e
    rw [e]
theorem kprop (a : Kd) : (V.str a.s = V.str "proposal") = (a = .prop) := propext (by simpa [Kd.s] using decide_eq_decide.mp (dec_kd a .prop))
theorem kpre (a : Kd) : (V.str a.s = V.str "prevote") = (a = .pre) := propext (by simpa [Kd.s] using decide_eq_decide.mp (dec_kd a .pre))
theorem kcom (a : Kd) : (V.str a.s = V.str "precommit") = (a = .com) := propext (by simpa [Kd.s] using decide_eq_decide.mp (dec_kd a .com))
theorem koS (a b : Option Str) : (oS a = oS b) = (a = b) := propext (by
  cases a <;> cases b <;> simp [oS])
theorem koSn (a : Option Str) : (oS a = V.non) = (a = none) := koS a none
theorem koIn (a : Option Int) : (oI a = V.non) = (a = none) := by cases a <;> simp [oI]
theorem dec_oS (a b : Option Str) : decide (oS a = oS b) = decide (a = b) := by
  rw [Bool.eq_iff_iff, decide_eq_true_iff, decide_eq_true_iff]
  constructor
  · intro e
    cases a <;> cases b <;> first | rfl | cases e
    rfl
  · intro e
    rw [e]
theorem dec_oSn (a : Option Str) : decide (oS a = V.non) = decide (a = none) := dec_oS a none
theorem dec_oIn (a : Option Int) : decide (oI a = V.non) = decide (a = none) := by
  cases a <;> rfl
theorem scal_oS (a b : Option Str) : scal (oS a) (oS b) = true := by
  cases a <;> cases b <;> rfl
/-! ### the mirror -/
def abandM (x y : Sm) : Bool :=
  if x.k = .com ∧ y.k = .pre ∧ x.b ≠ none ∧ y.b ≠ none ∧ x.b ≠ y.b ∧ x.t < y.t then (match y.l with | none => true | some l => decide (l < x.t)) else false
def clashM (x y : Sm) : Bool :=
  if x.h ≠ y.h then false
  else if x.k = y.k then (decide (x.k ≠ .prop) && (decide (x.t = y.t) && decide (x.b ≠ y.b)))
  else (abandM x y || abandM y x)
theorem clashM_comm (x y : Sm) : clashM x y = clashM y x := by
  unfold clashM
  by_cases h1 : x.h = y.h
  · by_cases h2 : x.k = y.k
    · simp only [h1, h2, ne_eq, not_true_eq_false, if_false, if_true]
      congr 1
      congr 1
      · exact decide_eq_decide.mpr ⟨Eq.symm, Eq.symm⟩
      · exact decide_eq_decide.mpr ⟨Ne.symm, Ne.symm⟩
    · have h3 : ¬ y.k = x.k := fun e => h2 e.symm
      simp only [h1, h2, h3, ne_eq, not_true_eq_false, if_false, Bool.or_comm]
  · have h3 : ¬ y.h = x.h := fun e => h1 e.symm
    simp only [h1, h3, ne_eq, not_false_eq_true, if_true]
def OkS (b : Option Str) : Prop := ∀ x, b = some x → PyData.strOk x = true
theorem okA : OkS (some "a") := fun x e => by
  cases e
  decide +kernel
theorem okB : OkS (some "b") := fun x e => by
  cases e
  decide +kernel
theorem okN : OkS none := fun x e => nomatch e
theorem pick5 {i : Int} (h0 : 0 ≤ i) (h5 : i < 5) : ∃ b : Option Str, atI [V.str "a", V.str "b", V.str "a", V.str "b", V.non] i = some (oS b) ∧ OkS b := by
  have h : i = 0 ∨ i = 1 ∨ i = 2 ∨ i = 3 ∨ i = 4 := by omega
  rcases h with rfl | rfl | rfl | rfl | rfl
  · exact ⟨some "a", rfl, okA⟩
  · exact ⟨some "b", rfl, okB⟩
  · exact ⟨some "a", rfl, okA⟩
  · exact ⟨some "b", rfl, okB⟩
  · exact ⟨none, rfl, okN⟩
def Sm.dat (m : Sm) : List PyData := match m.k with
  | .pre => [.str m.k.s, .int m.h, .int m.t, (match m.b with | none => .none | some x => .str x), (match m.l with | none => .none | some x => .int x)]
  | _ => [.str m.k.s, .int m.h, .int m.t, (match m.b with | none => .none | some x => .str x)]
theorem dp_oS {K : PySem.W.Frag} {H : Hp} (b : Option Str) : Dp K H (oS b) (match b with | none => .none | some x => .str x) := by
  cases b with
  | none => exact .non
  | some x => exact .str x
theorem dp_oI {K : PySem.W.Frag} {H : Hp} (b : Option Int) : Dp K H (oI b) (match b with | none => .none | some x => .int x) := by
  cases b with
  | none => exact .non
  | some x => exact .int x
theorem dp_sm {K : PySem.W.Frag} {H : Hp} {p : Addr} {m : Sm} (h : H p = some (.tup m.vals)) : Dp K H (.ref p) (.tuple m.dat) := by
  refine .tup (SqT.of h) ?_
  obtain ⟨mk, mh, mt, mb, ml⟩ := m
  cases mk
  · exact .cons (.str _) (.cons (.int _) (.cons (.int _) (.cons (dp_oS _) .nil)))
  · exact .cons (.str _) (.cons (.int _) (.cons (.int _) (.cons (dp_oS _) (.cons (dp_oI _) .nil))))
  · exact .cons (.str _) (.cons (.int _) (.cons (.int _) (.cons (dp_oS _) .nil)))
theorem ks_ok (k : Kd) : PyData.strOk k.s = true := by
  cases k <;> decide +kernel
theorem shaped_sm (m : Sm) (o : OkS m.b) : SeqAt.shaped (.tuple m.dat) = true := by
  obtain ⟨mk, mh, mt, mb, ml⟩ := m
  cases mk <;> cases mb <;> cases ml <;> simp [Sm.dat, SeqAt.shaped, PyData.canLay0, PyData.canLayAll0, PyData.depth, PyData.depthAll, ks_ok] <;> exact o _ rfl
theorem eqv_sm (m : Sm) (o : OkS m.b) : PyData.eqv (.tuple m.dat) (.tuple m.dat) = true := SeqAt.eqv_refl _ (by
  obtain ⟨mk, mh, mt, mb, ml⟩ := m
  cases mk <;> cases mb <;> cases ml <;> simp [Sm.dat, PyData.canLay0, PyData.canLayAll0, ks_ok] <;> exact o _ rfl)
def spVote (K : PySem.W.Frag) : Sp := fun vs H Q _ => ∃ (p : Addr) (m : Sm), vs = [.ref p] ∧ SmAt H p m ∧ ∀ H', Same H H' → Q (.bl (decide (m.k ≠ .prop))) H'
def spAband (K : PySem.W.Frag) : Sp := fun vs H Q _ => ∃ (p q : Addr) (m n : Sm), vs = [.ref p, .ref q] ∧ SmAt H p m ∧ SmAt H q n ∧ ∀ H', Same H H' → Q (.bl (abandM m n)) H'
def spClash (K : PySem.W.Frag) : Sp := fun vs H Q _ => ∃ (p q : Addr) (m n : Sm), vs = [.ref p, .ref q] ∧ SmAt H p m ∧ SmAt H q n ∧ ∀ H', Same H H' → Q (.bl (clashM m n)) H'

/-! ### letters, lists of letters, what is due -/
structure Lt where
  w : Int
  m : Sm
instance : Inhabited Lt := ⟨⟨0, ⟨.prop, 0, 0, none, none⟩⟩⟩
def LtAt (H : Hp) (p : Addr) (x : Lt) : Prop := ∃ q, H p = some (.tup [.int x.w, .ref q]) ∧ SmAt H q x.m
theorem LtAt.same {H H' : Hp} {p : Addr} {x : Lt} (h : LtAt H p x) (s : Same H H') : LtAt H' p x := by
  obtain ⟨q, h1, h2⟩ := h
  exact ⟨q, s _ _ h1, s _ _ h2⟩
theorem ne_lst {H : Hp} {p l : Addr} {xs ys : List V} (h : H p = some (.tup xs)) (hl : H l = some (.lst ys)) : p ≠ l := fun e => by
  rw [e, hl] at h
  cases h
theorem LtAt.upd {H : Hp} {p l : Addr} {x : Lt} {ys : List V} {o : HO} (h : LtAt H p x) (hl : H l = some (.lst ys)) : LtAt (upd H l o) p x := by
  obtain ⟨q, h1, h2⟩ := h
  have h2' : H q = some (.tup x.m.vals) := h2
  refine ⟨q, ?_, ?_⟩
  · rw [upd_ne (ne_lst h1 hl)]
    exact h1
  · unfold SmAt
    rw [upd_ne (ne_lst h2' hl)]
    exact h2
def LsAt (H : Hp) (ps : List Addr) (xs : List Lt) : Prop := ps.length = xs.length ∧ ∀ i, i < xs.length → LtAt H (ps.getD i 0) (xs.getD i default)
theorem LsAt.nil {H : Hp} : LsAt H [] [] := ⟨rfl, fun i h => absurd h (Nat.not_lt_zero i)⟩
theorem LsAt.same {H H' : Hp} {ps : List Addr} {xs : List Lt} (h : LsAt H ps xs) (s : Same H H') : LsAt H' ps xs := ⟨h.1, fun i hi => (h.2 i hi).same s⟩
theorem LsAt.upd {H : Hp} {ps : List Addr} {xs : List Lt} {l : Addr} {ys : List V} {o : HO} (h : LsAt H ps xs) (hl : H l = some (.lst ys)) : LsAt (upd H l o) ps xs := ⟨h.1, fun i hi => (h.2 i hi).upd hl⟩
theorem getD_left {α : Type} {d : α} {xs ys : List α} {i : Nat} (h : i < xs.length) : (xs ++ ys).getD i d = xs.getD i d := by
  rw [List.getD_eq_getElem?_getD, List.getD_eq_getElem?_getD, List.getElem?_append_left h]
theorem getD_last {α : Type} {d : α} {xs : List α} {x : α} : (xs ++ [x]).getD xs.length d = x := by
  rw [List.getD_eq_getElem?_getD, List.getElem?_append_right (Nat.le_refl _), Nat.sub_self]
  rfl
theorem LsAt.snoc {H : Hp} {ps : List Addr} {xs : List Lt} {p : Addr} {x : Lt} (h : LsAt H ps xs) (e : LtAt H p x) : LsAt H (ps ++ [p]) (xs ++ [x]) := by
  refine ⟨by rw [List.length_append, List.length_append, h.1]; rfl, fun i hi => ?_⟩
  rw [List.length_append, List.length_singleton] at hi
  rcases Nat.lt_or_ge i xs.length with z | z
  · rw [getD_left (by rw [h.1]; exact z), getD_left z]
    exact h.2 i z
  · have ei : i = xs.length := by omega
    subst ei
    rw [getD_last]
    have : (ps ++ [p]).getD xs.length 0 = p := by rw [← h.1, getD_last]
    rw [this]
    exact e
theorem at_refs {ps : List Addr} {i : Nat} (h : i < ps.length) : (ps.map V.ref)[i]? = some (.ref (ps.getD i 0)) := by
  rw [List.getElem?_map, List.getD_eq_getElem?_getD, List.getElem?_eq_getElem h]
  rfl
def ownOf (xs : List Lt) (who : Int) : List Lt := xs.filter fun x => decide (x.w = who)
theorem take_succ_getD {α : Type} {d : α} {xs : List α} {i : Nat} (h : i < xs.length) : xs.take (i + 1) = xs.take i ++ [xs.getD i d] := by
  rw [List.take_add_one, List.getElem?_eq_getElem h, List.getD_eq_getElem?_getD, List.getElem?_eq_getElem h]
  rfl
theorem own_yes {xs : List Lt} {who : Int} {i : Nat} (h : i < xs.length) (e : (xs.getD i default).w = who) : ownOf (xs.take (i + 1)) who = ownOf (xs.take i) who ++ [xs.getD i default] := by
  unfold ownOf
  rw [take_succ_getD (d := default) h, List.filter_append, List.filter_cons_of_pos (by exact decide_eq_true e)]
  rfl
theorem own_no {xs : List Lt} {who : Int} {i : Nat} (h : i < xs.length) (e : ¬ (xs.getD i default).w = who) : ownOf (xs.take (i + 1)) who = ownOf (xs.take i) who := by
  unfold ownOf
  rw [take_succ_getD (d := default) h, List.filter_append, List.filter_cons_of_neg (by simpa using e), List.filter_nil, List.append_nil]
theorem own_len (xs : List Lt) (who : Int) : (ownOf xs who).length ≤ xs.length := List.length_filter_le _ _
theorem own_mem {xs : List Lt} {who : Int} {x : Lt} (h : x ∈ ownOf xs who) : x ∈ xs ∧ x.w = who := by
  unfold ownOf at h
  rw [List.mem_filter] at h
  exact ⟨h.1, of_decide_eq_true h.2⟩
theorem getD_mem2 {α : Type} {d : α} {xs : List α} {i : Nat} (h : i < xs.length) : xs.getD i d ∈ xs := by
  rw [List.getD_eq_getElem?_getD, List.getElem?_eq_getElem h]
  exact List.getElem_mem h
/-- the first letter before place n with which the one at place a clashes -/
def rowDue (own : List Lt) (a : Nat) : Nat → Option (Lt × Lt)
  | 0 => none
  | n + 1 => match rowDue own a n with
    | some r => some r
    | none => if clashM (own.getD n default).m (own.getD a default).m then some (own.getD n default, own.getD a default) else none
def colDue (own : List Lt) : Nat → Option (Lt × Lt)
  | 0 => none
  | n + 1 => match colDue own n with
    | some r => some r
    | none => rowDue own n n
def due (own : List Lt) : Option (Lt × Lt) := colDue own own.length
theorem row_mono {own : List Lt} {a i : Nat} {r : Lt × Lt} (h : rowDue own a i = some r) : ∀ d, rowDue own a (i + d) = some r
  | 0 => h
  | d + 1 => by
    show rowDue own a (i + d + 1) = some r
    rw [rowDue, row_mono h d]
theorem col_mono {own : List Lt} {i : Nat} {r : Lt × Lt} (h : colDue own i = some r) : ∀ d, colDue own (i + d) = some r
  | 0 => h
  | d + 1 => by
    show colDue own (i + d + 1) = some r
    rw [colDue, col_mono h d]
theorem row_no {own : List Lt} {a n : Nat} (h : rowDue own a n = none) (c : clashM (own.getD n default).m (own.getD a default).m = false) : rowDue own a (n + 1) = none := by
  rw [rowDue, h]
  show (if _ then _ else _) = _
  rw [c]
  rfl
theorem due_at {own : List Lt} {a n : Nat} (ha : a < own.length) (hn : n < a) (hc : colDue own a = none) (h : rowDue own a n = none) (c : clashM (own.getD n default).m (own.getD a default).m = true) :
    due own = some (own.getD n default, own.getD a default) := by
  have h1 : rowDue own a (n + 1) = some (own.getD n default, own.getD a default) := by
    rw [rowDue, h]
    show (if _ then _ else _) = _
    rw [c]
    rfl
  have h2 : rowDue own a a = some (own.getD n default, own.getD a default) := by
    have := row_mono h1 (a - (n + 1))
    rwa [Nat.add_sub_cancel' hn] at this
  have h3 : colDue own (a + 1) = some (own.getD n default, own.getD a default) := by
    rw [colDue, hc]
    exact h2
  have := col_mono h3 (own.length - (a + 1))
  rw [Nat.add_sub_cancel' ha] at this
  exact this
theorem col_no {own : List Lt} {a : Nat} (hc : colDue own a = none) (h : rowDue own a a = none) : colDue own (a + 1) = none := by
  rw [colDue, hc]
  exact h
theorem row_ok {own : List Lt} {a : Nat} (ha : a < own.length) : ∀ n, n ≤ own.length → ∀ f s, rowDue own a n = some (f, s) → f ∈ own ∧ s ∈ own ∧ clashM f.m s.m = true
  | 0, _, f, s, h => nomatch h
  | n + 1, hn, f, s, h => by
    rw [rowDue] at h
    split at h
    · rename_i r e
      cases h
      exact row_ok ha n (Nat.le_of_lt hn) f s e
    · split at h
      · rename_i c
        cases h
        exact ⟨getD_mem2 hn, getD_mem2 ha, c⟩
      · cases h
theorem col_ok {own : List Lt} : ∀ n, n ≤ own.length → ∀ f s, colDue own n = some (f, s) → f ∈ own ∧ s ∈ own ∧ clashM f.m s.m = true
  | 0, _, f, s, h => nomatch h
  | n + 1, hn, f, s, h => by
    rw [colDue] at h
    split at h
    · rename_i r e
      cases h
      exact col_ok n (Nat.le_of_lt hn) f s e
    · exact row_ok hn n (Nat.le_of_lt hn) f s h
theorem due_ok {own : List Lt} {f s : Lt} (h : due own = some (f, s)) : f ∈ own ∧ s ∈ own ∧ clashM f.m s.m = true := col_ok _ (Nat.le_refl _) f s h
def DueAt (H : Hp) (v : V) : Option (Lt × Lt) → Prop
  | none => v = .non
  | some r => ∃ p a b, v = .ref p ∧ H p = some (.tup [.ref a, .ref b]) ∧ LtAt H a r.1 ∧ LtAt H b r.2
def OkL (xs : List Lt) : Prop := ∀ x ∈ xs, OkS x.m.b
def Lt.dat (x : Lt) : PyData := .tuple [.int x.w, .tuple x.m.dat]
theorem dp_lt {K : PySem.W.Frag} {H : Hp} {p : Addr} {x : Lt} (h : LtAt H p x) : Dp K H (.ref p) x.dat := by
  obtain ⟨q, h1, h2⟩ := h
  exact .tup (SqT.of h1) (.cons (.int _) (.cons (dp_sm h2) .nil))
theorem lay_sm (m : Sm) (o : OkS m.b) : PyData.canLay0 (.tuple m.dat) = true := by
  have h := shaped_sm m o
  exact (Bool.and_eq_true_iff.mp h).1
theorem depth_sm (m : Sm) : PyData.depth (.tuple m.dat) = 1 := by
  obtain ⟨mk, mh, mt, mb, ml⟩ := m
  cases mk <;> cases mb <;> cases ml <;> simp [Sm.dat, PyData.depth, PyData.depthAll]
theorem lay_lt {x : Lt} (o : OkS x.m.b) : PyData.canLay0 x.dat = true := by
  simp only [Lt.dat, PyData.canLay0, PyData.canLayAll0, Bool.true_and, Bool.and_true]
  exact lay_sm x.m o
theorem depth_lt (x : Lt) : PyData.depth x.dat = 2 := by
  have h := depth_sm x.m
  simp only [Lt.dat, PyData.depth, PyData.depthAll] at h ⊢
  omega
theorem shaped_lt {x : Lt} (o : OkS x.m.b) : SeqAt.shaped x.dat = true := by
  unfold SeqAt.shaped
  rw [lay_lt o, depth_lt]
  rfl
theorem eqv_lt {x : Lt} (o : OkS x.m.b) : PyData.eqv x.dat x.dat = true := SeqAt.eqv_refl _ (lay_lt o)
theorem LsAt.cons {H : Hp} {p : Addr} {ps : List Addr} {x : Lt} {xs : List Lt} (h : LsAt H (p :: ps) (x :: xs)) : LtAt H p x ∧ LsAt H ps xs :=
  ⟨h.2 0 (Nat.succ_pos _), Nat.succ.inj h.1, fun i hi => h.2 (i + 1) (Nat.succ_lt_succ hi)⟩
theorem dp_lts {K : PySem.W.Frag} {H : Hp} : ∀ {ps : List Addr} {xs : List Lt}, LsAt H ps xs → DpAll K H (ps.map V.ref) (xs.map Lt.dat)
  | [], [], _ => .nil
  | p :: ps, x :: xs, h => .cons (dp_lt h.cons.1) (dp_lts h.cons.2)
  | [], x :: xs, h => nomatch h.1
  | p :: ps, [], h => nomatch h.1
theorem lay_lts : ∀ {xs : List Lt}, OkL xs → PyData.canLayAll0 (xs.map Lt.dat) = true
  | [], _ => by simp [PyData.canLayAll0]
  | x :: xs, o => by
    simp only [List.map_cons, PyData.canLayAll0]
    rw [lay_lt (o x List.mem_cons_self), lay_lts fun y hy => o y (List.mem_cons_of_mem _ hy)]
    rfl
theorem depth_lts : ∀ xs : List Lt, PyData.depthAll (xs.map Lt.dat) ≤ 2
  | [] => by simp [PyData.depthAll]
  | x :: xs => by
    have := depth_lts xs
    have := depth_lt x
    simp only [List.map_cons, PyData.depthAll]
    omega
theorem shaped_lts {xs : List Lt} (o : OkL xs) : SeqAt.shaped (.list (xs.map Lt.dat)) = true := by
  have h := depth_lts xs
  unfold SeqAt.shaped
  have e : PyData.depth (.list (xs.map Lt.dat)) = PyData.depthAll (xs.map Lt.dat) + 1 := by simp only [PyData.depth]
  have l : PyData.canLay0 (.list (xs.map Lt.dat)) = true := by simp only [PyData.canLay0, lay_lts o]
  rw [l, e, decide_eq_true (show PyData.depthAll (xs.map Lt.dat) + 1 ≤ 64 by omega)]
  rfl
theorem eqv_lts {xs : List Lt} (o : OkL xs) : PyData.eqv (.list (xs.map Lt.dat)) (.list (xs.map Lt.dat)) = true := SeqAt.eqv_refl _ (by
  simp only [PyData.canLay0, lay_lts o])

/-! ### an own error over ValueError whose __init__(self, x) says super().__init__(a message) and self.field = x -/
section
open PySem.W (ksEnv ksFn ks_superIn kxs_mw)
/-- the context of such an __init__ -/
def cxSup (CX : CXT) (P : Program) (w : World) (K : PySem.W.Frag) (mg : Str → Option Value) (base : Heap) (N : List Str) (qual : Str) (scope : Scope) (f : Addr) (cd : Value) (cc : Addr) (A : Around) (outer : List Env) (s : Shared) (H : Hp) (E : XK) : Cx where
  prog := P
  w := w
  K := K
  mg := mg
  base := base
  A := A.deeper (ksEnv qual scope s.heap.objs.size f cd cc)
  N := N
  s_0 := s
  H_0 := H
  env := ksEnv qual scope s.heap.objs.size f cd cc
  outer := outer
  stack := ksEnv qual scope s.heap.objs.size f cd cc :: outer
  ex := []
  fn := fun _ => false
  calm := true
  pn := []
  xe := fun e s' => wpAny (model P w) (A.deeper (ksEnv qual scope s.heap.objs.size f cd cc)) (leaving (ksEnv qual scope s.heap.objs.size f cd cc) e) (fun _ s2 => CX outer H s E e s2) (fun e2 s2 => CX outer H s E e2 s2) s'
/-- what the written part says of the class at C and of its __init__ at f -/
structure SupCls (P : Program) (K : PySem.W.Frag) (C : Addr) (qual par fld : Str) (st : Stmt) (f : Addr) (fd : FuncData) : Prop where
  fn : ∃ (oc od : _) (kV doc pm : Value) (an : Option Addr) (cda : Addr) (ct : Value) (osl : Array (Option Value)) (cc : Addr) (cl : Value) (cld : Option Addr) (csl : Array (Option Value)) (ccl : Value) (cdd : Option Addr) (vs : Array Value) (ccs : Array (Option Value)) (file : Str) (tf : Tok),
    fd = ksFn "__init__" qual (defArgs st) (defBody st) (defScope st) .none kV doc pm an (.ref cda) ct cc ∧ K.lookup f = some ⟨oc, od, .func fd, osl⟩ ∧ PySem.W.codeIn K (.ref cda) qual = true ∧
    K.lookup cc = some ⟨cl, cld, .cell (some (.ref C)), csl⟩ ∧ K.lookup cda = some ⟨ccl, cdd, .fields vs, ccs⟩ ∧ vs[2]? = some (.str file tf) ∧ ((P.main.file : Str) == file) = true
  oex : OexC K C
  sup : ks_superIn K C C "__init__" = some (some (.builtin "ValueError.__init__"))
  opq : PySem.W.nsIn K cStatics "thirdparty.any" = some none
  subV : PySem.W.subIn K (.ref C) (.type "ValueError") = some true
  mroC : PySem.W.mroIn K C (.ref C) = some true
  nof : PySem.W.findIn K (.ref C) fld = some none
  topS : (P.main.scope.names.lookup ("super" : Str)).isSome = false
/-- the shape of the text -/
structure SupTxt (par fld : Str) (st : Stmt) (msg : Expr) (p0 p1 p2 p3 p4 p5 p6 p7 p8 : Pos) : Prop where
  body : defBody st = [.Expr (.Call (.Attribute (.Call (.Name "super" p0) [] [] p1) "__init__" p2) [msg] [] p3) p4, .Assign [.Attribute (.Name "self" p5) fld p6] (.Name par p7) p8]
  kind : (defScope st).kind = .function
  co : (defScope st).isCoroutine = false
  gen : (defScope st).isGenerator = false
  s1 : (defScope st).names.lookup ("self" : Str) = some .local
  s2 : (defScope st).names.lookup par = some .local
  s3 : (defScope st).names.lookup ("__class__" : Str) = some .free
  s4 : (defScope st).names.lookup ("super" : Str) = some .globalImplicit
  only : ∀ y ∈ (defScope st).names, y.2 ≠ .cell ∧ (y.2 = .free → y.1 = "__class__")
  ps : ∃ ar, ((defArgs st).posonlyargs ++ (defArgs st).args).head? = some ar ∧ ar.arg = "self"
theorem inv_sup {CX : CXT} {P : Program} {w : World} {K : PySem.W.Frag} {mg : Str → Option Value} {base : Heap} {par qual : Str} {scope : Scope} {f cc : Addr} {cd : Value} {A : Around} {outer : List Env} {s : Shared} {h1 : Heap} {H : Hp} {E : XK} {u0 u1 : Value} {v0 v1 : V} {tk : Nat} {D : Value}
    (kind : scope.kind = .function) (only : ∀ y ∈ scope.names, y.2 ≠ .cell ∧ (y.2 = .free → y.1 = ("__class__" : Str))) (l1 : scope.names.lookup ("self" : Str) = some .local) (l2 : scope.names.lookup par = some .local) (np : ¬ ("self" : Str) = par)
    (hd : A.handled = none) (e0 : Env0 P w K mg base A outer s H) (r0 : RelV v0 u0) (r1 : RelV v1 u1)
    (cell : s.heap.IsCell cc (some D)) (free : H cc = Option.none) (small : cc < s.heap.objs.size)
    (ns : h1.Ns s.heap.objs.size (fun x => [(par, u1), (("self" : Str), u0)].lookup x)) (kp : ∀ b o, s.heap.get? b = some o → h1.get? b = some o) :
    L2.Inv (cxSup CX P w K mg base ["self", par] qual scope f cd cc A outer s H E) [] (start ["self", par] [v0, v1]) H { s with heap := h1, toks := tk } := by
  have one : ∀ (x : Str) (c : Addr), (ksEnv qual scope s.heap.objs.size f cd cc).cells.lookup x = some c → x = "__class__" ∧ c = cc := fun x c e => by
    have e' : [(("__class__" : Str), cc)].lookup x = some c := e
    by_cases z : x = "__class__"
    · subst z
      exact ⟨rfl, (Option.some.inj ((show some cc = some c from by simpa [List.lookup] using e'))).symm⟩
    · have b : (x == ("__class__" : Str)) = false := by simpa using z
      simp [List.lookup, b] at e'
  have noA : ∀ b : Addr, b ∉ (cxSup CX P w K mg base ["self", par] qual scope f cd cc A outer s H E).ex := fun b z => absurd (show b ∈ ([] : List Addr) from z) (by simp)
  have ok : (cxSup CX P w K mg base ["self", par] qual scope f cd cc A outer s H E).Ok := {
    mod := e0.mod
    kind := kind
    glob := rfl
    blt := rfl
    above := Nat.le_refl _
    inj := fun x y c h1 h2 => (one x c h1).1.trans (one y c h2).1.symm
    has := fun x hx => by
      have hx' : scope.names.lookup x = some .cell ∨ scope.names.lookup x = some .free := hx
      rcases hx' with hx' | hx'
      · exact absurd rfl (only _ (PySem.mem_of_lookup hx')).1
      · have e : x = "__class__" := (only _ (PySem.mem_of_lookup hx')).2 rfl
        subst e
        exact ⟨cc, rfl⟩
    cab := fun x c h => Bool.noConfusion h
    hd := fun _ => hd
    frames := Around.frames_deeper e0.frames
    stk := .inr ⟨rfl, rfl⟩
    exf := fun b z => absurd z (noA b)
    bs := e0.bs
    bsz := e0.bsz
    noex := fun b _ _ => noA b
    exfs := fun b z => absurd z (noA b)
    funs := e0.funs
    frf := e0.frf }
  exact {
    ok := ok
    os := rfl
    bare := e0.bare
    base := Un.kept kp
    loc := ⟨_, ns, fun i x v h1 h2 h3 => by
      match i, h1, h2 with
      | 0, h1, h2 =>
        cases h1
        cases h2
        refine ⟨u0, r0, .inl ⟨l1, ?_⟩⟩
        show [(par, u1), (("self" : Str), u0)].lookup ("self" : Str) = some u0
        have b : (("self" : Str) == par) = false := by simpa using np
        simp [List.lookup, b]
      | 1, h1, h2 =>
        cases h1
        cases h2
        refine ⟨u1, r1, .inl ⟨l2, ?_⟩⟩
        show (match par == par with | true => some u1 | false => [(("self" : Str), u0)].lookup par) = some u1
        rw [beq_self_eq_true]
      | i + 2, h1, h2 =>
        have h3 : (["self", par] : List Str)[i + 2]? = some x := h1
        simp at h3⟩
    cell := fun x c e => by
      obtain ⟨_, rfl⟩ := one x c e
      obtain ⟨o, ho, hc⟩ := cell
      exact ⟨_, o, kp _ _ ho, hc⟩
    free := e0.hok.fresh (Nat.le_refl _)
    freeC := fun x c e => by
      obtain ⟨_, rfl⟩ := one x c e
      exact free
    pin := fun p hp => absurd (show p ∈ ([] : List (Addr × Obj)) from hp) (by simp)
    hok := e0.hok.kept kp
    len := rfl }
/-- what such an __init__ promises -/
def spSup (C : Addr) (fld : Str) (good : V → Prop) : Sp := fun vs H Q _ => ∃ (e : Addr) (v : V), vs = [.ref e, v] ∧ H e = some (exo e C Option.none) ∧ good v ∧
  ∀ dx, H dx = Option.none → dx ≠ e → Q .non (upd (upd H dx (exd dx [(fld, v)])) e (exo e C (some dx)))
theorem exo_again {X : Cx} {pins : List (Addr × Obj)} {σ : L2.St} {H : Hp} {a C t1 : Addr} {hp h' : Heap} {g : Array GenState} {d : Drawn} {t t' : Nat} {os : OsState} (I : L2.Inv X pins σ H ⟨hp, g, d, t, os⟩) (e : H a = some (exo a C Option.none))
    (kp : ∀ b o, b ≠ a → hp.get? b = some o → h'.get? b = some o) (hx : h'.get? a = some ({ cls := .ref C, dict := Option.none, data := .fields #[.ref t1, .none, .none, .none, .bool false, .none] } : Obj)) : L2.Inv X pins σ H ⟨h', g, d, t', os⟩ := by
  have same : upd H a (exo a C Option.none) = H := by
    funext b
    unfold upd
    split
    · rename_i z
      rw [z, e]
    · rfl
  have J := I.write (t' := t') (x := a) (e := a) (o := exo a C Option.none) (by rw [e]; exact True.intro) (.inl rfl) kp ⟨_, hx⟩ (exo_ok hx)
  rwa [same] at J
/-- the bound ValueError.__init__, called: the error's arguments are laid anew, nothing of it is told -/
theorem call_mw {X : Cx} {pins : List (Addr × Obj)} {σ : L2.St} {H : Hp} {s : Shared} {e C u : Addr} {rest : List Value} {Q : Value → Shared → Prop} {E : Value → Shared → Prop} (T : OexC X.K C) (I : L2.Inv X pins σ H s) (he : H e = some (exo e C Option.none)) (hu : s.heap.get? u = some (kxs_mw "ValueError.__init__" e))
    (few : rest.length ≤ sizeLine) (fin : ∀ s', L2.Inv X pins σ H s' → Q .none s') : wpAny (model X.prog X.w) X.A (call (.ref u) rest) Q E s := by
  obtain ⟨nm, qn, N, bs, bm, sn, sub, ab, col, dd, k0, k1, k2, k3, k5, hC, hbm⟩ := T.cls
  obtain ⟨t1, ho⟩ := exo_at I.hok he
  have hC' := I.kIn _ _ hC
  obtain ⟨hp, g, d, tk, os⟩ := s
  refine wpAny_call (codeAny_of_tree ?_)
  show wpAny _ X.A.in1 (callAny (.ref u) ⟨rest, []⟩) _ _ _
  unfold callAny
  refine wpAny_bind (wpAny_load hu ?_)
  have b : (Value.type "method-wrapper" == Value.type "method" || Value.type "method-wrapper" == Value.type "builtin_function_or_method" ||
      Value.type "method-wrapper" == Value.type "method-wrapper") = true := by decide
  simp only [b, if_true]
  refine PySem.W.KFB.if_so (by decide) (wpAny_bind ?_)
  refine PySem.W.check_bound_init F.excBase_ValueError.toExcCallFacts hC' ho rfl (wpAny_bind (wpAny_pure (wpAny_pure ⟨plainId_quiet F.excBase_ValueError.init.plain _, ?_⟩)))
  refine codeAny_builtin F.excBase_ValueError.initEntry ?_
  exact PySem.W.exc_init_tree (cls := .ref C) (t0 := t1) (dv := Option.none) (c2 := .none) (c3 := .none) (b4 := .bool false) ho few fun h' kp hx _ => fin _ (exo_again I he kp hx)
/-- THE RULE: such an __init__ keeps its promise -/
theorem ok_sup {CX : CXT} {P : Program} {w : World} {K : PySem.W.Frag} {mg : Str → Option Value} {base : Heap} {C f : Addr} {fd : FuncData} {qual par fld : Str} {st : Stmt} {msg : Expr} {p0 p1 p2 p3 p4 p5 p6 p7 p8 : Pos} {good : V → Prop}
    (S : SupCls P K C qual par fld st f fd) (T : SupTxt par fld st msg p0 p1 p2 p3 p4 p5 p6 p7 p8) (np : ¬ ("self" : Str) = par) (nd : (par == ("__debug__" : Str)) = false) (nc : (par == ("__classdict__" : Str)) = false) (noS : mg "super" = Option.none)
    (hmsg : ∀ (cd : Value) (cc : Addr) (A : Around) (outer : List Env) (s : Shared) (H : Hp) (E : XK) (e : Addr) (v : V), good v →
      ∃ ta, PA (cxSup CX P w K mg base ["self", par] qual (defScope st) f cd cc A outer s H E) [msg] ta ∧ ∀ H1 Q, (∀ x, Q [x] H1) → ta (start ["self", par] [.ref e, v]) H1 Q)
    (star : ∀ env, starEach [msg] env = [(false, eval msg env)]) (inter : ∀ L g cd cc, interactive (ksEnv qual (defScope st) L g cd cc) = false) (swap : ∀ L g cd cc, swapsWith (.Call (.Attribute (.Call (.Name "super" p0) [] [] p1) "__init__" p2) [msg] [] p3) Option.none p4.line (ksEnv qual (defScope st) L g cd cc) = pure false)
    (swap2 : ∀ L g cd cc, swapsWith (.Name par p7) (some (.Attribute (.Name "self" p5) fld p6)) p8.line (ksEnv qual (defScope st) L g cd cc) = pure false)
    (pl : Sem Bool) (he : ∀ (env : Env), eval (.Call (.Attribute (.Call (.Name "super" p0) [] [] p1) "__init__" p2) [msg] [] p3) env = (do
      let ov ← attributeBase (.Call (.Name "super" p0) [] [] p1) "__init__" env (eval (.Call (.Name "super" p0) [] [] p1) env)
      standAt p2.atName
      let (f, first) ← holding [ov] (getMethod ov "__init__" pl)
      callWith p3 f first (backTo p3 (starEach [msg] env)) [])) :
    FnOk P w K mg base CX 1 f fd ["self", par] (spSup C fld good) := by
  obtain ⟨oc, od, kV, doc, pm, an, cda, ct, osl, cc, cl, cld, csl, ccl, cdd, vs, ccs, file, tf, rfl, lk, hcd, hcell, hcode, hvs, hfile⟩ := S.fn
  refine ⟨fun vs H Q E h => ?_, fun A outer s H args us vs0 Q E hr e0 hb rel hsp => ?_⟩
  · obtain ⟨e, v, rfl, _⟩ := h
    rfl
  obtain ⟨e, v, rfl, hexo, hgood, fin⟩ := hsp
  have KX : K.In s.heap := e0.mod.kin.keeps fun b o z => (e0.bs b o z).1
  have lim : s.heap.NoLimit := e0.mod.nolimit.keeps fun b o z => (e0.bs b o z).1
  obtain ⟨u0, u1, rfl, r0, r1⟩ := vals2 rel
  have isCell : s.heap.IsCell cc (some (.ref C)) := ⟨_, KX _ _ hcell, rfl⟩
  have freeC : H cc = Option.none := (e0.bs _ _ (e0.mod.kin _ _ hcell)).2
  refine ks_codeAny_call_defAt (fd := ksFn "__init__" qual (defArgs st) (defBody st) (defScope st) .none kV doc pm an (.ref cda) ct cc) (body := defBody st) (binds := [(("self" : Str), u0), (par, u1)]) hr.depth (KX _ _ lk) rfl lim (PySem.W.codeRec_of KX hcd) rfl hb (fun x hx => (T.only x hx).1) ?_ (fun h1 ns kp => ?_) T.co T.gen T.kind
  · intro y hy
    rcases List.mem_cons.mp hy with rfl | hy
    · exact T.s1
    · rw [List.mem_singleton.mp hy]
      exact T.s2
  have I : L2.Inv (cxSup CX P w K mg base ["self", par] qual (defScope st) f (.ref cda) cc A outer s H E) [] (start ["self", par] [.ref e, v]) H { s with heap := h1, toks := s.toks + 2 } :=
    inv_sup T.kind T.only T.s1 T.s2 np hr.hd e0 r0 r1 isCell freeC (Heap.lt_size (KX _ _ hcell)) ns kp
  show wpAt (model P w) (A.deeper (ksEnv qual (defScope st) s.heap.objs.size f (.ref cda) cc)) (.func (defBody st) (ksEnv qual (defScope st) s.heap.objs.size f (.ref cda) cc)) (execs (defBody st) (ksEnv qual (defScope st) s.heap.objs.size f (.ref cda) cc)) _ _ _
  rw [T.body]
  obtain ⟨hp, g, d, tk, os⟩ := s
  have up : ∀ b o, base.get? b = some o → h1.get? b = some o := fun b o z => kp b o (e0.bs b o z).1
  have K1 : K.In h1 := e0.mod.kin.keeps up
  obtain ⟨mb, hmb, hbb⟩ := e0.mod.blt
  obtain ⟨ar, har, earg⟩ := T.ps
  cases (show u0 = Value.ref e from r0)
  obtain ⟨t1, hx⟩ := exo_at I.hok hexo
  obtain ⟨nm, qn, N, bs, bm, sn, sub, ab, col, dd, k0, k1, k2, k3, k5, hC, hbm⟩ := S.oex.cls
  have hcl : PySem.W.clsIn K C = some { name := nm, bases := bs, mro := .ref C :: bm, ns := N, qualname := qn, hasDict := true, slotNames := sn, subclasses := sub, abstract := ab, collection := col, hasDel := false } := by
    unfold PySem.W.clsIn
    rw [hC]
  refine ks_wpAt_execs_cons (ks_wpAt_Expr_any (ks_wpAt_MethodCall (pl := pl) ?_ (he _)) (inter _ _ _ _) (swap _ _ _ _))
  refine ks_wpAt_super_base (env := ksEnv qual (defScope st) hp.objs.size f (.ref cda) cc) T.s4 T.s3 (by decide) rfl (kp _ _ (KX _ _ lk)) rfl har rfl (K1 _ _ hcode) rfl hvs hfile S.topS ?_
  refine PySem.W.ks_loadName_global T.kind T.s4 (PySem.Calls.loadGlobal_builtin (env := ksEnv qual (defScope st) hp.objs.size f (.ref cda) cc) (e0.mod.glob.keeps up) noS (hmb.keeps up) ((hbb "super" (by decide)).trans (by decide +kernel)) ⟨rfl, ?_⟩)
  refine wpAny_loadName_free T.kind T.s3 rfl ⟨_, K1 _ _ hcell, rfl⟩ ?_
  rw [earg]
  refine wpAny_loadName_local T.kind T.s1 ns (v := .ref e) ?_ ?_
  · show [(par, u1), (("self" : Str), Value.ref e)].lookup ("self" : Str) = some (.ref e)
    have b : (("self" : Str) == par) = false := by simpa using np
    simp [List.lookup, b]
  refine ks_wpAny_isType_cls (K1 _ _ hC) rfl ⟨rfl, ?_⟩
  refine ks_wpAny_call_super (K1 _ _ hC) rfl hx rfl (fun c z => by cases z) (PySem.W.looks_mroIn K1 S.mroC) (fun h2 hso kp2 => ?_)
  have K2 : K.In h2 := K1.keeps kp2
  have hx2 := kp2 _ _ hx
  have inst : PySem.W.InstAt h2 e { cls := .ref C, dict := Option.none, data := .fields #[.ref t1, .none, .none, .none, .bool false, .none] } C Option.none := ⟨hx2, rfl, rfl, trivial⟩
  have hf := S.sup
  unfold ks_superIn at hf
  rw [hcl] at hf
  have neC : e ≠ C := fun z => by
    have q := (e0.bs _ _ (e0.mod.kin _ _ hC)).2
    rw [← z, hexo] at q
    cases q
  refine PySem.W.kxs_getMethod PySem.W.kxs_ValueError hso (PySem.W.looks_opaque K2 S.opq) (l₀ := .ref C :: bm) ((PySem.W.looks_clsIn K2 hcl).andThen .now) rfl K2 hf (inst.type.andThen (PySem.W.looks_subIn K2 S.subV)) neC (by decide) ?_
  have hmw : (h2.push (kxs_mw "ValueError.__init__" e)).get? h2.objs.size = some (kxs_mw "ValueError.__init__" e) := Heap.get?_push_size _ rfl
  have kp3 : ∀ b o, h1.get? b = some o → (h2.push (kxs_mw "ValueError.__init__" e)).get? b = some o := fun b o z => Heap.get?_push_of_some _ (kp2 b o z)
  have Ih := I.kept (h' := h2) (t' := tk + 2) kp2
  have I2 := I.kept (h' := h2.push (kxs_mw "ValueError.__init__" e)) (t' := tk + 2 + 1) kp3
  have I3 : L2.Inv (cxSup CX P w K mg base ["self", par] qual (defScope st) f (.ref cda) cc A outer ⟨hp, g, d, tk, os⟩ H E) [(h2.objs.size, kxs_mw "ValueError.__init__" e)] (start ["self", par] [.ref e, v]) H ⟨h2.push (kxs_mw "ValueError.__init__" e), g, d, tk + 2 + 1, os⟩ := { I2 with
    pin := fun p hp' => by
      cases List.mem_singleton.mp hp'
      refine ⟨hmw, Ih.hok.fresh (Nat.le_refl _), Nat.ne_of_gt Ih.lt, Ih.nofs (Nat.le_refl _), fun c z => by cases z⟩ }
  obtain ⟨ta, pa, rd⟩ := hmsg (.ref cda) cc A outer ⟨hp, g, d, tk, os⟩ H E e v hgood
  have st1 := star (ksEnv qual (defScope st) hp.objs.size f (.ref cda) cc)
  have ran : wpAny (model P w) (A.deeper (ksEnv qual (defScope st) hp.objs.size f (.ref cda) cc)) (spliced (backTo p3 (starEach [msg] (ksEnv qual (defScope st) hp.objs.size f (.ref cda) cc)))) _ _ _ :=
    pa.run p3 _ _ _ _ (fun vs H1 => H1 = H ∧ vs.length = 1) I3 (rd H _ fun x => ⟨rfl, rfl⟩)
  show wpAny _ _ (callWith p3 (.ref h2.objs.size) [] (backTo p3 (starEach [msg] (ksEnv qual (defScope st) hp.objs.size f (.ref cda) cc))) []) _ _ _
  rw [st1] at ran ⊢
  refine PySem.W.kxs_callWith (i := "ValueError.__init__") (x := e) (u := h2.objs.size) rfl (PySem.Calls.evalArgs_plain (thn ran fun us s3 got => ?_))
  obtain ⟨vs1, H1, I4, rel1, rfl, len1⟩ := got
  have hu := (I4.pin _ List.mem_cons_self).1
  refine ⟨hu, call_mw S.oex I4 hexo hu (by show us.length ≤ sizeLine; rw [← Vals.length rel1, len1, sizeLine_eq]; decide) fun s4 I5 => ?_⟩
  have last : PSs (cxSup CX P w K mg base ["self", par] qual (defScope st) f (.ref cda) cc A outer ⟨hp, g, d, tk, os⟩ H1 E) [.Assign [.Attribute (.Name "self" p5) fld p6] (.Name par p7) p8] _ :=
    pss_one (ps_ost (pv 0 rfl (.inl T.s1)) (pv 1 rfl (.inl T.s2) nd nc) (swap2 _ _ _ _))
  refine wpAt_of_wpAny (thn (last.run _ s4 _ H1 { nx := fun _ H2 => Q .non H2, rt := Q } I5 ⟨v, rfl, .ref e, rfl, e, C, rfl, S.oex, S.nof, .inl ⟨hexo, fin⟩⟩) fun fl s5 got => ?_)
  cases fl with
  | next =>
    obtain ⟨σ', H', J, q⟩ := got
    exact ⟨V.non, H', J.os, J.bare, J.base, J.hok, rfl, q⟩
  | ret u =>
    obtain ⟨y, σ', H', J, ry, q⟩ := got
    exact ⟨y, H', J.os, J.bare, J.base, J.hok, ry, q⟩
  | brk =>
    obtain ⟨_, _, _, q⟩ := got
    exact q.elim
  | cont =>
    obtain ⟨_, _, _, q⟩ := got
    exact q.elim
end

/-! ### raising such an error where nothing is handled; a new object whose __init__ may raise; isinstance of a caught error -/
theorem fun_okN {P : Program} {w : World} {K : PySem.W.Frag} {mg : Str → Option Value} {base : Heap} {x qual : Str} {st : Stmt} {f : Addr} {fd : FuncData} {N ps : List Str} {k : Nat} {sp : Sp} (F : Fun K x qual st f fd) (S : FnScope N ps (defScope st))
    (len : ∀ vs H Q E, sp vs H Q E → vs.length = ps.length)
    (body : ∀ (cdv : Value) (A : Around) (outer : List Env) (s : Shared) (H : Hp) (vs : List V) (Q : VK) (E : XK), Room k (A.deeper (PyProof.Rows.envOfC qual (defScope st) s.heap.objs.size f cdv)) → sp vs H Q E →
      ∃ t, PSs (cxOf (L2N.CX P w) P w K mg base N qual (defScope st) f cdv A outer s H E) (defBody st) t ∧ t { nx := fun _ H' => Q .non H', rt := Q } (start N vs) H) : FnOk P w K mg base (L2N.CX P w) (k + 1) f fd ps sp := by
  obtain ⟨oc, od, kV, doc, pm, an, cdv, ct, osl, rfl, lk, hcd⟩ := F.ex
  exact fn_of lk hcd S len fun A outer s H vs Q E hr h => body cdv A outer s H vs Q E hr h
/-- a def that lets nothing out lets nothing out -/
theorem weak_cx {P : Program} {w : World} {K : PySem.W.Frag} {mg : Str → Option Value} {base : Heap} {CX : CXT} {k : Nat} {f : Addr} {fd : FuncData} {ps : List Str} {sp : Sp} (F : FnOk P w K mg base CX0 k f fd ps sp) : FnOk P w K mg base CX k f fd ps sp :=
  ⟨F.len, fun A outer s H args us vs Q E hr e0 hb r h => codeAny_mono (F.run A outer s H args us vs Q E hr e0 hb r h) fun res s' q => by
    cases res with
    | error e => exact False.elim q
    | ok fl => cases fl <;> exact q⟩
def tSup (C : Addr) (fld : Str) (good : V → Prop) (ta : TA) : L2.St → Hp → XK → Prop := fun σ H Q => ta σ H fun vs H1 => ∃ v, vs = [v] ∧ good v ∧ ∀ d, H1 d = Option.none → Q (.ref C) (some d) (upd H1 d (.xd [(fld, v)]))
theorem sup_heap {H : Hp} {a d C : Addr} {fs : List (Str × V)} (ha : H a = Option.none) (ne : d ≠ a) : upd (del (upd (upd (upd H a (exo a C Option.none)) d (exd d fs)) a (exo a C (some d))) a) d (.xd fs) = upd H d (.xd fs) := by
  funext b
  by_cases hd : b = d
  · subst hd
    rw [upd_same, upd_same]
  · rw [upd_ne hd, upd_ne hd]
    by_cases hb : b = a
    · subst hb
      rw [del_same, ha]
    · rw [del_ne hb, upd_ne hb, upd_ne hd, upd_ne hb]
theorem pmk_sup {X : Cx} {x fld par : Str} {e : Expr} {ta : TA} {p pos : Pos} {C fI : Addr} {fd : FuncData} {good : V → Prop} (T : OexC X.K C) (iC : PySem.W.findIn X.K (.ref C) "__init__" = some (some (.ref fI))) (tI : PySem.W.typeIn X.K (.ref fI) = some (.type "function"))
    (F1 : FnOk X.prog X.w X.K X.mg X.base CX0 1 fI fd ["self", par] (spSup C fld good)) (hr : Room 2 X.A) (hb : Binds X.K fd ["self", par] []) (hg : Gl X x) (hm : X.mg x = some (.ref C)) (ha : PA X [e] ta)
    (hdb : (x == ("__debug__" : Str)) = false := by decide) (he : starEach (e :: []) X.env = (false, eval e X.env) :: starEach [] X.env := by rfl) (hpl : (backTo pos (starEach [] X.env)).any (·.1) = false := by rfl) :
    L2N.PMk X (.Call (.Name x p) [e] [] pos) (tSup C fld good ta) := by
  intro pins s σ H Q I hyp
  obtain ⟨nm, qn, N, bs, bm, sn, sub, ab, col, dd, k0, k1, k2, k3, k5, hC, hbm⟩ := T.cls
  refine wpAny_Call_Name_kw (ld_glob I hg hm ?_ hdb)
  refine PySem.W.callWith_K (h₀ := X.base) I.ok.mod.kin T.kC (thn (ha.run pos pins s σ H _ I hyp) fun us s1 got => ?_) he hpl
  obtain ⟨vs, H1, I1, rel, v, rfl, gv, q⟩ := got
  refine ⟨I1.kIn, ?_⟩
  show wpAny _ _ (call (.ref C) us) _ _ _
  obtain ⟨hp, g, dr, tk, os⟩ := s1
  have above : hp.objs.size ≤ hp.objs.size + 1 := Nat.le_succ _
  have free : H1 (hp.objs.size + 1) = Option.none := I1.hok.fresh above
  have grown : ∀ b o, hp.get? b = some o → ((hp.push (PySem.W.kdv_tup us)).push (PySem.HandSPX.excO C hp.objs.size)).get? b = some o := fun b o z => Heap.get?_push_of_some _ (Heap.get?_push_of_some _ z)
  have there : ((hp.push (PySem.W.kdv_tup us)).push (PySem.HandSPX.excO C hp.objs.size)).get? (hp.objs.size + 1) = some (PySem.HandSPX.excO C hp.objs.size) := by heap_get
  have I2 := I1.laid (t' := tk) (a := hp.objs.size + 1) (o := exo (hp.objs.size + 1) C Option.none) (h' := (hp.push (PySem.W.kdv_tup us)).push (PySem.HandSPX.excO C hp.objs.size)) grown above (exo_ok there)
  have rel2 : Vals [V.ref (hp.objs.size + 1), v] (Value.ref (hp.objs.size + 1) :: us) := .cons rfl rel
  have two : (Value.ref (hp.objs.size + 1) :: us).length = 2 := rel2.length.symm
  have bind := hb ⟨(hp.push (PySem.W.kdv_tup us)).push (PySem.HandSPX.excO C hp.objs.size), g, dr, tk, os⟩ (Value.ref (hp.objs.size + 1) :: us) I2.kIn (by rw [List.append_nil]; exact two)
  rw [List.append_nil] at bind
  have few : us.length ≤ sizeLine := by
    rw [← Vals.length rel, sizeLine_eq]
    show 1 ≤ 16777216
    decide
  refine wpAny_call (PySem.HandSPX.call_own F.excBase_ValueError (fun Y => PySem.HandSPX.refsVE_contains Y bm hbm) (I1.kIn _ _ hC) (PySem.W.looks_findIn I1.kIn iC) (fun self => PySem.W.bind_fn I1.kIn self tI) few ?_)
  refine codeAny_mono (F1.run _ X.stack _ _ ⟨Value.ref (hp.objs.size + 1) :: us, []⟩ _ _ (fun y H2 => y = .non ∧ ∃ d, H1 d = Option.none ∧ d ≠ hp.objs.size + 1 ∧ H2 = upd (upd (upd H1 (hp.objs.size + 1) (exo (hp.objs.size + 1) C Option.none)) d (exd d [(fld, v)])) (hp.objs.size + 1) (exo (hp.objs.size + 1) C (some d)))
    (fun _ _ _ => False) ((hr.make (k := 1) C us [])) (I2.env0.make C us []) bind rel2 ⟨_, v, rfl, upd_same, gv, fun d hd nd => ⟨rfl, d, (by rwa [upd_ne nd] at hd), nd, rfl⟩⟩) fun res s2 fin => ?_
  cases res with
  | error z => exact False.elim fin
  | ok fl =>
    cases fl with
    | ret u =>
      obtain ⟨y, H2, os2, bare2, un2, hok2, ry, rfl, d, hd, nd, rfl⟩ := fin
      obtain ⟨h2, g2, d2, t2, os'⟩ := s2
      have ea : upd (upd (upd H1 (hp.objs.size + 1) (exo (hp.objs.size + 1) C Option.none)) d (exd d [(fld, v)])) (hp.objs.size + 1) (exo (hp.objs.size + 1) C (some d)) (hp.objs.size + 1) = some (exo (hp.objs.size + 1) C (some d)) := upd_same
      have ed : upd (upd (upd H1 (hp.objs.size + 1) (exo (hp.objs.size + 1) C Option.none)) d (exd d [(fld, v)])) (hp.objs.size + 1) (exo (hp.objs.size + 1) C (some d)) d = some (exd d [(fld, v)]) := by rw [upd_ne nd, upd_same]
      obtain ⟨t0, G, J, kG, ge, hoe, na⟩ := mk_end0 (d2 := d2) (t2 := t2) I1 above grown un2 hok2 os2 bare2 ea ed hd
      rw [sup_heap free nd] at J na
      refine ⟨ry, hp.objs.size + 1, _, _, ⟨G, g2, d2, t2, os'⟩, _, .ref C, some d, rfl, J, kG, ge, hoe, ⟨rfl, rfl, fun fv z => ?_⟩, rfl, rfl, na, rfl, bare2, raises_own T.exC T.tyC, q d hd⟩
      cases z
      rfl
    | next => exact False.elim fin
    | brk => exact False.elim fin
    | cont => exact False.elim fin
/-- C(e, ..) within a try: what __init__ lets out is wished for at the slots -/
def tMakeS (C : Addr) (sp : Sp) (E : L2.St → XK) (t : TA) : TE := fun σ H Q => t σ H fun vs H1 => ∀ x dx, H1 x = Option.none → H1 dx = Option.none → dx ≠ x → sp (.ref x :: vs) (upd (upd H1 dx (.own x)) x (.ins C dx [])) (fun v H2 => v = .non ∧ Q (.ref x) H2) (E σ)
theorem pe_makeS {X : Cx} {CX : CXT} {k : Nat} {f C : Addr} {fd : FuncData} {ps : List Str} {sp : Sp} {E : L2.St → XK} {x : Str} {p pos : Pos} {e : Expr} {es : List Expr} {t : TA} (M : Mk X.K C f) (F : FnOk X.prog X.w X.K X.mg X.base CX k f fd ps sp) (hr : Room (k + 1) X.A) (hg : Gl X x) (hm : X.mg x = some (.ref C))
    (hb : Binds X.K fd ps []) (hx : ∀ (pins : List (Addr × Obj)) (σ : L2.St) (H : Hp) (s : Shared) (u : Value) (s' : Shared), L2.Inv X pins σ H s → CX X.stack H s (E σ) u s' → X.xe u s')
    (ha : PA X (e :: es) t) (hdb : (x == ("__debug__" : Str)) = false := by decide) (he : starEach (e :: es) X.env = (false, eval e X.env) :: starEach es X.env := by rfl) (hpl : (backTo pos (starEach es X.env)).any (·.1) = false := by rfl) :
    PE X (.Call (.Name x p) (e :: es) [] pos) (tMakeS C sp E t) := by
  constructor
  intro pins s σ H Q I hyp
  refine wpAny_Call_Name_kw (ld_glob I hg hm ?_ hdb)
  refine PySem.W.callWith_K (h₀ := X.base) I.ok.mod.kin M.kp (thn (ha.run pos pins s σ H _ I hyp) fun us s1 got => ?_) he hpl
  obtain ⟨vs, H1, I1, rel, q⟩ := got
  refine ⟨I1.kIn, ?_⟩
  have I2 := Inv.made (C := C) I1
  have prom := q (s1.heap.objs.size + 1) s1.heap.objs.size (I1.hok.fresh (Nat.le_succ _)) (I1.hok.fresh (Nat.le_refl _)) (Nat.ne_of_lt (Nat.lt_succ_self _))
  have rel2 : Vals (V.ref (s1.heap.objs.size + 1) :: vs) (Value.ref (s1.heap.objs.size + 1) :: us) := .cons rfl rel
  have len : (Value.ref (s1.heap.objs.size + 1) :: us ++ []).length = ps.length := by
    rw [List.append_nil, ← F.len _ _ _ _ prom]
    exact rel2.length.symm
  have bind := hb _ (Value.ref (s1.heap.objs.size + 1) :: us) I2.kIn len
  rw [List.append_nil] at bind
  refine wpAny_call (make_map (f := f) I1.kIn M.makes M.init (beq_iff_eq.mp M.fn) (codeAny_mono (F.run _ X.stack _ _ ⟨Value.ref (s1.heap.objs.size + 1) :: us, []⟩ _ _ _ (E σ) (hr.make C us []) (I2.env0.make C us []) bind rel2 prom) fun res s2 fin => ?_))
  cases res with
  | error z => exact hx pins σ _ _ z s2 I2 fin
  | ok fl =>
    cases fl with
    | ret u =>
      obtain ⟨v, H', I3, rv, rfl, q3⟩ := I2.after fin
      exact ⟨rv, V.ref (s1.heap.objs.size + 1), H', I3, rfl, q3⟩
    | next => exact False.elim fin
    | brk => exact False.elim fin
    | cont => exact False.elim fin
/-- isinstance(e, a class), e the caught error of the class at D with its dict -/
structure XcC (K : PySem.W.Frag) (D : Addr) : Prop where
  cl : (PySem.W.clsIn K D).isSome = true
  ga : PySem.W.findIn K (.ref D) "__getattribute__" = some (some (.builtin "BaseException.__getattribute__"))
  gt : PySem.W.findIn K (.ref D) "__getattr__" = some Option.none
  sub : PySem.W.subIn K (.ref D) (.type "BaseException") = some true
  has : PySem.W.hasDictIn K D = true
  cls : PySem.W.findIn K (.ref D) "__class__" = some (some (.builtin "object.__class__"))
  get : PySem.W.specialIn K (.builtin "object.__class__") "__get__" = some (some (.builtin "getset_descriptor.__get__"))
  tk : PySem.W.takesIn K (.builtin "object.__class__") = some true
  obj : PySem.W.mroIn K D (.type "object") = some true
theorem xc_at {X : Cx} {pins : List (Addr × Obj)} {σ : L2.St} {H : Hp} {s : Shared} {a D dd : Addr} {oe : Obj} {pn : List (Addr × Obj)} {fs : List (Str × V)} (I : L2.Inv (X.suite a ((a, oe) :: pn)) pins σ H s) (hz : Zc (.ref D) (some dd) oe) (hf : ∃ vs, oe.data = .fields vs) (hd : H dd = some (.xd fs)) :
    ∃ od, PySem.W.InstAt s.heap a oe D (some od) := by
  obtain ⟨got, _⟩ := I.pin (a, oe) (List.mem_append_left _ List.mem_cons_self)
  obtain ⟨vs, hv⟩ := hf
  have x : ObjOk X.prog X.w H s.heap dd (.xd fs) := I.hok dd _ hd
  obtain ⟨mA, ⟨od, _, _, ho, _⟩, _⟩ := x
  obtain ⟨oc, odd, oda, osl⟩ := oe
  obtain ⟨h1, h2⟩ := hz
  dsimp only at h1 h2 hv
  subst h1 h2 hv
  exact ⟨od, got, rfl, rfl, ho⟩
def rIsX (K : PySem.W.Frag) (a : Addr) (cls : Value) (d : Option Addr) : List V → Hp → VK → Prop := fun xs H Q => ∃ (D dd : Addr) (c : V) (cv : Value) (b : Bool) (fs : List (Str × V)), xs = [.ref a, c] ∧ cls = .ref D ∧ d = some dd ∧ XcC K D ∧ ClsV c cv ∧ H dd = some (.xd fs) ∧
  PySem.W.kitOne K (.ref D) cv = some b ∧ Q (.bl b) H
theorem call_isX {X : Cx} {a : Addr} {cls : Value} {d : Option Addr} {oe : Obj} {pn : List (Addr × Obj)} (hz : Zc cls d oe) (hf : ∃ vs, oe.data = .fields vs) : CallR (X.suite a ((a, oe) :: pn)) (.builtin "isinstance") (rIsX X.K a cls d) := by
  intro pins sh σ H xs us Q I rel hyp
  obtain ⟨D, dd, c, cv, b, fs, rfl, rfl, rfl, C, hcv, hd, e, q⟩ := hyp
  obtain ⟨u1, u2, rfl, r1, r2⟩ := vals2 rel
  have e2 := hcv.eq r2
  subst e2
  cases r1
  obtain ⟨od, J⟩ := xc_at I hz hf hd
  exact PySem.W.kia_one (PySem.W.kitx_exc C.cl C.ga C.gt C.sub C.cls C.get C.tk C.obj) I.kIn J e (fun z => nomatch z) fun tk => ⟨.bl b, H, I.kept (t' := tk) fun _ _ z => z, rfl, q⟩
def rIsXT (K : PySem.W.Frag) (a : Addr) (cls : Value) (d : Option Addr) : List V → Hp → VK → Prop := fun xs H Q => ∃ (D dd tp : Addr) (cs : List V) (cvs : List Value) (b : Bool) (fs : List (Str × V)), xs = [.ref a, .ref tp] ∧ cls = .ref D ∧ d = some dd ∧ XcC K D ∧
  H tp = some (.tup cs) ∧ Paired ClsV cs cvs ∧ H dd = some (.xd fs) ∧ PySem.W.kitAny K (.ref D) cvs = some b ∧ Q (.bl b) H
theorem call_isXT {X : Cx} {a : Addr} {cls : Value} {d : Option Addr} {oe : Obj} {pn : List (Addr × Obj)} (hz : Zc cls d oe) (hf : ∃ vs, oe.data = .fields vs) : CallR (X.suite a ((a, oe) :: pn)) (.builtin "isinstance") (rIsXT X.K a cls d) := by
  intro pins sh σ H xs us Q I rel hyp
  obtain ⟨D, dd, tp, cs, cvs, b, fs, rfl, rfl, rfl, C, ht, hcs, hd, e, q⟩ := hyp
  obtain ⟨u1, u2, rfl, r1, r2⟩ := vals2 rel
  cases r1
  cases (show u2 = Value.ref tp from r2)
  obtain ⟨od, J⟩ := xc_at I hz hf hd
  have x : ObjOk X.prog X.w H sh.heap tp (.tup cs) := I.hok tp _ ht
  obtain ⟨_, its, rv, ⟨oc, odd, oda, osl⟩, h1, h2, n, h3⟩ := x
  have e3 := ClsV.all hcs rv
  subst e3
  simp only at h2 h3
  subst h2 h3
  exact PySem.W.kia_tup (PySem.W.kitx_exc C.cl C.ga C.gt C.sub C.cls C.get C.tk C.obj) I.kIn J h1 e (fun z => nomatch z) fun tk => ⟨.bl b, H, I.kept (t' := tk) fun _ _ z => z, rfl, q⟩
theorem takes0N {X : Cx} : L2N.Takes X (fun _ _ _ _ => False) := fun _ _ x => by
  obtain ⟨_, _, _, _, _, _, _, _, _, _, _, _, _, _, _, _, z⟩ := x
  exact z.elim
theorem hot_of {X : Cx} {a : Addr} {cls : Value} {d : Option Addr} {oe : Obj} {pn : List (Addr × Obj)} (hz : L2N.Zn cls d oe) (hf : ∃ vs, oe.data = .fields vs) : L2H.HotC (X.suite a ((a, oe) :: pn)) := by
  obtain ⟨vs, hv⟩ := hf
  exact ⟨(a, oe), ⟨rfl, vs, hv, hz.2.2 vs hv⟩, List.mem_cons_self⟩
theorem fun_okH {P : Program} {w : World} {K : PySem.W.Frag} {mg : Str → Option Value} {base : Heap} {x qual : Str} {st : Stmt} {f : Addr} {fd : FuncData} {N ps : List Str} {k : Nat} {sp : Sp} (F : Fun K x qual st f fd) (S : FnScope N ps (defScope st))
    (len : ∀ vs H Q E, sp vs H Q E → vs.length = ps.length)
    (body : ∀ (cdv : Value) (A : Around) (outer : List Env) (s : Shared) (H : Hp) (vs : List V) (Q : VK) (E : XK) (p : Addr × Obj), L2H.RoomH k (A.deeper (PyProof.Rows.envOfC qual (defScope st) s.heap.objs.size f cdv)) → sp vs H Q E →
      ∃ t, PSs (L2H.cxH CX0 P w K mg base N qual (defScope st) f cdv A outer s H E p) (defBody st) t ∧ t { nx := fun _ H' => Q .non H', rt := Q } (start N vs) H) : L2H.FnH P w K mg base CX0 (k + 1) f fd ps sp := by
  obtain ⟨oc, od, kV, doc, pm, an, cdv, ct, osl, rfl, lk, hcd⟩ := F.ex
  exact L2H.fn_ofH lk hcd S len fun A outer s H vs Q E p _ hr h => body cdv A outer s H vs Q E p hr h

/-- e.f where the written part is told -/
theorem pe_fldK {X : Cx} {K : PySem.W.Frag} {e : Expr} {f : Str} {ta : TE} {pos : Pos} (hK : X.K = K) (he : PE X e ta) (hb : attributeBase e f X.env (eval e X.env) = eval e X.env) : PE X (.Attribute e f pos) (tFld K ta f) := by
  subst hK
  exact pe_fld he hb
/-- list(xs) where the written part is told -/
def rListOf (K : PySem.W.Frag) : List V → Hp → VK → Prop := fun zs H Q => ∃ (p : Addr) (ys : List V), zs = [V.ref p] ∧ (SqL K H p ys ∨ SqT K H p ys) ∧ (∀ l : Addr, H l = none → Q (.ref l) (upd H l (.lst ys)))
theorem cr_listK {X : Cx} {K : PySem.W.Frag} (hK : X.K = K) : CallR X (.type "list") (rListOf K) := by
  subst hK
  exact call_list_of
/-- len of a list or tuple where the written part is told -/
def rLenOf (K : PySem.W.Frag) : List V → Hp → VK → Prop := fun zs H Q => ∃ (p : Addr) (ys : List V), zs = [V.ref p] ∧ (SqL K H p ys ∨ SqT K H p ys) ∧ Q (.int (ys.length : Int)) H
theorem cr_lenK {X : Cx} {K : PySem.W.Frag} (hK : X.K = K) : CallR X (.builtin "len") (rLenOf K) := by
  subst hK
  exact call_len_seq

/-- o.m(e, ..) within a try: what the method lets out is wished for at the slots -/
def tMethT (C : Addr) (m : Str) (sp : Sp) (E : L2.St → XK) (ta : TE) (t : TA) : TE := fun σ H Q => ta σ H fun x H1 => ∃ (j dx : Addr) (fs : List (Str × V)), x = V.ref j ∧ H1 j = some (HO.ins C dx fs) ∧ fs.lookup m = Option.none ∧ (t σ H1 fun vs H2 => sp (x :: vs) H2 Q (E σ))
theorem pe_methT {X : Cx} {CX : CXT} {k : Nat} {f C : Addr} {fd : FuncData} {ps : List Str} {sp : Sp} {E : L2.St → XK} {m : Str} {apos pos : Pos} {o e : Expr} {es : List Expr} {ta : TE} {t : TA} {pl : Sem Bool} (he : PE X o ta) (c : L2.Cls X.K C) (hm : L2.Meth X.K C m f) (F : FnOk X.prog X.w X.K X.mg X.base CX k f fd ps sp)
    (hr : Room k X.A) (hb : Binds X.K fd ps []) (hx : ∀ σ, PassesAt CX X σ (E σ)) (ha : PA X (e :: es) t) (one : starEach (e :: es) X.env = (false, eval e X.env) :: starEach es X.env := by rfl) (nost : (backTo pos (starEach es X.env)).any (·.1) = false := by rfl)
    (text : eval (.Call (.Attribute o m apos) (e :: es) [] pos) X.env = (do let ov ← eval o X.env; standAt apos.atName; let (f, first) ← holding [ov] (getMethod ov m pl); callWith pos f first (backTo pos (starEach (e :: es) X.env)) (backToKw pos (keywordEach [] X.env))) := by rfl) :
    PE X (.Call (.Attribute o m apos) (e :: es) [] pos) (tMethT C m sp E ta t) := by
  constructor
  intro pins s σ H Q I hyp
  refine PySem.W.methodCall_KW (pl := pl) (thn (he.run pins s σ H _ I hyp) fun u s1 got => ?_) text
  obtain ⟨x, H1, I1, rx, j, dx, fs, ex, ej, nf, q⟩ := got
  subst ex
  have eu : u = Value.ref j := rx
  subst eu
  refine getmeth_ok I1 ej c hm nf (PySem.W.callWith_K (first := [Value.ref j]) (h₀ := X.base) I.ok.mod.kin hm.kp (thn (ha.run pos pins s1 σ H1 _ I1 q) fun us s2 got2 => ?_) one nost)
  obtain ⟨vs, H2, I2, rel, q2⟩ := got2
  exact ⟨I2.kIn, run_fnS (us := Value.ref j :: us) (vs := V.ref j :: vs) F hr hb (hx σ) I2 (.cons rfl rel) q2⟩
/-- str of a text or of an int -/
def rStrA : List V → Hp → VK → Prop := fun vs H Q => (∃ i : Int, vs = [V.int i] ∧ i.natAbs.log2 < 1920 ∧ Q (.str (toString i)) H) ∨ ∃ x : Str, vs = [V.str x] ∧ Q (.str x) H
theorem cr_strA {X : Cx} : CallR X (.type "str") rStrA := by
  intro pins sh σ H vs us Q I rel hyp
  rcases hyp with ⟨i, rfl, small, q⟩ | ⟨x, rfl, q⟩
  · exact call_str_int pins sh σ H _ us Q I rel ⟨i, rfl, small, q⟩
  · exact SkE.call_str_str pins sh σ H _ us Q I rel ⟨x, rfl, q⟩

/-! ### the same where an exception is handled -/
section
open PySem.W (ksEnv ksFn ks_superIn kxs_mw)
/-- the context of such an __init__, called while an exception is handled -/
def cxSupH (CX : CXT) (P : Program) (w : World) (K : PySem.W.Frag) (mg : Str → Option Value) (base : Heap) (N : List Str) (qual : Str) (scope : Scope) (f : Addr) (cd : Value) (cc : Addr) (A : Around) (outer : List Env) (s : Shared) (H : Hp) (E : XK) (p : Addr × Obj) : Cx where
  prog := P
  w := w
  K := K
  mg := mg
  base := base
  A := A.deeper (ksEnv qual scope s.heap.objs.size f cd cc)
  N := N
  s_0 := s
  H_0 := H
  env := ksEnv qual scope s.heap.objs.size f cd cc
  outer := outer
  stack := ksEnv qual scope s.heap.objs.size f cd cc :: outer
  ex := []
  fn := fun _ => false
  calm := false
  pn := [p]
  xe := fun e s' => wpAny (model P w) (A.deeper (ksEnv qual scope s.heap.objs.size f cd cc)) (leaving (ksEnv qual scope s.heap.objs.size f cd cc) e) (fun _ s2 => CX outer H s E e s2) (fun e2 s2 => CX outer H s E e2 s2) s'
theorem inv_supH {CX : CXT} {P : Program} {w : World} {K : PySem.W.Frag} {mg : Str → Option Value} {base : Heap} {par qual : Str} {scope : Scope} {f cc : Addr} {cd : Value} {A : Around} {outer : List Env} {s : Shared} {h1 : Heap} {H : Hp} {E : XK} {u0 u1 : Value} {v0 v1 : V} {tk : Nat} {D : Value}
    (kind : scope.kind = .function) (only : ∀ y ∈ scope.names, y.2 ≠ .cell ∧ (y.2 = .free → y.1 = ("__class__" : Str))) (l1 : scope.names.lookup ("self" : Str) = some .local) (l2 : scope.names.lookup par = some .local) (np : ¬ ("self" : Str) = par)
    {p : Addr × Obj} (hpin : L2H.PinOk outer H s p) (e0 : Env0 P w K mg base A outer s H) (r0 : RelV v0 u0) (r1 : RelV v1 u1)
    (cell : s.heap.IsCell cc (some D)) (free : H cc = Option.none) (small : cc < s.heap.objs.size)
    (ns : h1.Ns s.heap.objs.size (fun x => [(par, u1), (("self" : Str), u0)].lookup x)) (kp : ∀ b o, s.heap.get? b = some o → h1.get? b = some o) :
    L2.Inv (cxSupH CX P w K mg base ["self", par] qual scope f cd cc A outer s H E p) [] (start ["self", par] [v0, v1]) H { s with heap := h1, toks := tk } := by
  have one : ∀ (x : Str) (c : Addr), (ksEnv qual scope s.heap.objs.size f cd cc).cells.lookup x = some c → x = "__class__" ∧ c = cc := fun x c e => by
    have e' : [(("__class__" : Str), cc)].lookup x = some c := e
    by_cases z : x = "__class__"
    · subst z
      exact ⟨rfl, (Option.some.inj ((show some cc = some c from by simpa [List.lookup] using e'))).symm⟩
    · have b : (x == ("__class__" : Str)) = false := by simpa using z
      simp [List.lookup, b] at e'
  have noA : ∀ b : Addr, b ∉ (cxSupH CX P w K mg base ["self", par] qual scope f cd cc A outer s H E p).ex := fun b z => absurd (show b ∈ ([] : List Addr) from z) (by simp)
  have ok : (cxSupH CX P w K mg base ["self", par] qual scope f cd cc A outer s H E p).Ok := {
    mod := e0.mod
    kind := kind
    glob := rfl
    blt := rfl
    above := Nat.le_refl _
    inj := fun x y c h1 h2 => (one x c h1).1.trans (one y c h2).1.symm
    has := fun x hx => by
      have hx' : scope.names.lookup x = some .cell ∨ scope.names.lookup x = some .free := hx
      rcases hx' with hx' | hx'
      · exact absurd rfl (only _ (PySem.mem_of_lookup hx')).1
      · have e : x = "__class__" := (only _ (PySem.mem_of_lookup hx')).2 rfl
        subst e
        exact ⟨cc, rfl⟩
    cab := fun x c h => Bool.noConfusion h
    hd := fun z => Bool.noConfusion (show false = true from z)
    frames := Around.frames_deeper e0.frames
    stk := .inr ⟨rfl, rfl⟩
    exf := fun b z => absurd z (noA b)
    bs := e0.bs
    bsz := e0.bsz
    noex := fun b _ _ => noA b
    exfs := fun b z => absurd z (noA b)
    funs := e0.funs
    frf := e0.frf }
  exact {
    ok := ok
    os := rfl
    bare := e0.bare
    base := Un.kept kp
    loc := ⟨_, ns, fun i x v h1 h2 h3 => by
      match i, h1, h2 with
      | 0, h1, h2 =>
        cases h1
        cases h2
        refine ⟨u0, r0, .inl ⟨l1, ?_⟩⟩
        show [(par, u1), (("self" : Str), u0)].lookup ("self" : Str) = some u0
        have b : (("self" : Str) == par) = false := by simpa using np
        simp [List.lookup, b]
      | 1, h1, h2 =>
        cases h1
        cases h2
        refine ⟨u1, r1, .inl ⟨l2, ?_⟩⟩
        show (match par == par with | true => some u1 | false => [(("self" : Str), u0)].lookup par) = some u1
        rw [beq_self_eq_true]
      | i + 2, h1, h2 =>
        have h3 : (["self", par] : List Str)[i + 2]? = some x := h1
        simp at h3⟩
    cell := fun x c e => by
      obtain ⟨_, rfl⟩ := one x c e
      obtain ⟨o, ho, hc⟩ := cell
      exact ⟨_, o, kp _ _ ho, hc⟩
    free := e0.hok.fresh (Nat.le_refl _)
    freeC := fun x c e => by
      obtain ⟨_, rfl⟩ := one x c e
      exact free
    pin := fun q hq => by
      have eq : q = p := by simpa using (show q ∈ [p] ++ ([] : List (Addr × Obj)) from hq)
      rw [eq]
      exact ⟨kp _ _ hpin.get, hpin.free, Nat.ne_of_lt (Heap.lt_size hpin.get), hpin.nofs, hpin.nocell⟩
    hok := e0.hok.kept kp
    len := rfl }
/-- THE RULE, where an exception is handled: such an __init__ keeps its promise -/
theorem ok_supH {CX : CXT} {P : Program} {w : World} {K : PySem.W.Frag} {mg : Str → Option Value} {base : Heap} {C f : Addr} {fd : FuncData} {qual par fld : Str} {st : Stmt} {msg : Expr} {p0 p1 p2 p3 p4 p5 p6 p7 p8 : Pos} {good : V → Prop}
    (S : SupCls P K C qual par fld st f fd) (T : SupTxt par fld st msg p0 p1 p2 p3 p4 p5 p6 p7 p8) (np : ¬ ("self" : Str) = par) (nd : (par == ("__debug__" : Str)) = false) (nc : (par == ("__classdict__" : Str)) = false) (noS : mg "super" = Option.none)
    (hmsg : ∀ (cd : Value) (cc : Addr) (A : Around) (outer : List Env) (s : Shared) (H : Hp) (E : XK) (p : Addr × Obj) (e : Addr) (v : V), good v →
      ∃ ta, PA (cxSupH CX P w K mg base ["self", par] qual (defScope st) f cd cc A outer s H E p) [msg] ta ∧ ∀ H1 Q, (∀ x, Q [x] H1) → ta (start ["self", par] [.ref e, v]) H1 Q)
    (star : ∀ env, starEach [msg] env = [(false, eval msg env)]) (inter : ∀ L g cd cc, interactive (ksEnv qual (defScope st) L g cd cc) = false) (swap : ∀ L g cd cc, swapsWith (.Call (.Attribute (.Call (.Name "super" p0) [] [] p1) "__init__" p2) [msg] [] p3) Option.none p4.line (ksEnv qual (defScope st) L g cd cc) = pure false)
    (swap2 : ∀ L g cd cc, swapsWith (.Name par p7) (some (.Attribute (.Name "self" p5) fld p6)) p8.line (ksEnv qual (defScope st) L g cd cc) = pure false)
    (pl : Sem Bool) (he : ∀ (env : Env), eval (.Call (.Attribute (.Call (.Name "super" p0) [] [] p1) "__init__" p2) [msg] [] p3) env = (do
      let ov ← attributeBase (.Call (.Name "super" p0) [] [] p1) "__init__" env (eval (.Call (.Name "super" p0) [] [] p1) env)
      standAt p2.atName
      let (f, first) ← holding [ov] (getMethod ov "__init__" pl)
      callWith p3 f first (backTo p3 (starEach [msg] env)) [])) :
    L2H.FnH P w K mg base CX 1 f fd ["self", par] (spSup C fld good) := by
  obtain ⟨oc, od, kV, doc, pm, an, cda, ct, osl, cc, cl, cld, csl, ccl, cdd, vs, ccs, file, tf, rfl, lk, hcd, hcell, hcode, hvs, hfile⟩ := S.fn
  refine ⟨fun vs H Q E h => ?_, fun A outer s H args us vs0 Q E p hr hot hpin e0 hb rel hsp => ?_⟩
  · obtain ⟨e, v, rfl, _⟩ := h
    rfl
  obtain ⟨e, v, rfl, hexo, hgood, fin⟩ := hsp
  have KX : K.In s.heap := e0.mod.kin.keeps fun b o z => (e0.bs b o z).1
  have lim : s.heap.NoLimit := e0.mod.nolimit.keeps fun b o z => (e0.bs b o z).1
  obtain ⟨u0, u1, rfl, r0, r1⟩ := vals2 rel
  have isCell : s.heap.IsCell cc (some (.ref C)) := ⟨_, KX _ _ hcell, rfl⟩
  have freeC : H cc = Option.none := (e0.bs _ _ (e0.mod.kin _ _ hcell)).2
  refine ks_codeAny_call_defAt (fd := ksFn "__init__" qual (defArgs st) (defBody st) (defScope st) .none kV doc pm an (.ref cda) ct cc) (body := defBody st) (binds := [(("self" : Str), u0), (par, u1)]) hr.depth (KX _ _ lk) rfl lim (PySem.W.codeRec_of KX hcd) rfl hb (fun x hx => (T.only x hx).1) ?_ (fun h1 ns kp => ?_) T.co T.gen T.kind
  · intro y hy
    rcases List.mem_cons.mp hy with rfl | hy
    · exact T.s1
    · rw [List.mem_singleton.mp hy]
      exact T.s2
  have I : L2.Inv (cxSupH CX P w K mg base ["self", par] qual (defScope st) f (.ref cda) cc A outer s H E p) [] (start ["self", par] [.ref e, v]) H { s with heap := h1, toks := s.toks + 2 } :=
    inv_supH T.kind T.only T.s1 T.s2 np hpin e0 r0 r1 isCell freeC (Heap.lt_size (KX _ _ hcell)) ns kp
  show wpAt (model P w) (A.deeper (ksEnv qual (defScope st) s.heap.objs.size f (.ref cda) cc)) (.func (defBody st) (ksEnv qual (defScope st) s.heap.objs.size f (.ref cda) cc)) (execs (defBody st) (ksEnv qual (defScope st) s.heap.objs.size f (.ref cda) cc)) _ _ _
  rw [T.body]
  obtain ⟨hp, g, d, tk, os⟩ := s
  have up : ∀ b o, base.get? b = some o → h1.get? b = some o := fun b o z => kp b o (e0.bs b o z).1
  have K1 : K.In h1 := e0.mod.kin.keeps up
  obtain ⟨mb, hmb, hbb⟩ := e0.mod.blt
  obtain ⟨ar, har, earg⟩ := T.ps
  cases (show u0 = Value.ref e from r0)
  obtain ⟨t1, hx⟩ := exo_at I.hok hexo
  obtain ⟨nm, qn, N, bs, bm, sn, sub, ab, col, dd, k0, k1, k2, k3, k5, hC, hbm⟩ := S.oex.cls
  have hcl : PySem.W.clsIn K C = some { name := nm, bases := bs, mro := .ref C :: bm, ns := N, qualname := qn, hasDict := true, slotNames := sn, subclasses := sub, abstract := ab, collection := col, hasDel := false } := by
    unfold PySem.W.clsIn
    rw [hC]
  refine ks_wpAt_execs_cons (ks_wpAt_Expr_any (ks_wpAt_MethodCall (pl := pl) ?_ (he _)) (inter _ _ _ _) (swap _ _ _ _))
  refine ks_wpAt_super_base (env := ksEnv qual (defScope st) hp.objs.size f (.ref cda) cc) T.s4 T.s3 (by decide) rfl (kp _ _ (KX _ _ lk)) rfl har rfl (K1 _ _ hcode) rfl hvs hfile S.topS ?_
  refine PySem.W.ks_loadName_global T.kind T.s4 (PySem.Calls.loadGlobal_builtin (env := ksEnv qual (defScope st) hp.objs.size f (.ref cda) cc) (e0.mod.glob.keeps up) noS (hmb.keeps up) ((hbb "super" (by decide)).trans (by decide +kernel)) ⟨rfl, ?_⟩)
  refine wpAny_loadName_free T.kind T.s3 rfl ⟨_, K1 _ _ hcell, rfl⟩ ?_
  rw [earg]
  refine wpAny_loadName_local T.kind T.s1 ns (v := .ref e) ?_ ?_
  · show [(par, u1), (("self" : Str), Value.ref e)].lookup ("self" : Str) = some (.ref e)
    have b : (("self" : Str) == par) = false := by simpa using np
    simp [List.lookup, b]
  refine ks_wpAny_isType_cls (K1 _ _ hC) rfl ⟨rfl, ?_⟩
  refine ks_wpAny_call_super (K1 _ _ hC) rfl hx rfl (fun c z => by cases z) (PySem.W.looks_mroIn K1 S.mroC) (fun h2 hso kp2 => ?_)
  have K2 : K.In h2 := K1.keeps kp2
  have hx2 := kp2 _ _ hx
  have inst : PySem.W.InstAt h2 e { cls := .ref C, dict := Option.none, data := .fields #[.ref t1, .none, .none, .none, .bool false, .none] } C Option.none := ⟨hx2, rfl, rfl, trivial⟩
  have hf := S.sup
  unfold ks_superIn at hf
  rw [hcl] at hf
  have neC : e ≠ C := fun z => by
    have q := (e0.bs _ _ (e0.mod.kin _ _ hC)).2
    rw [← z, hexo] at q
    cases q
  refine PySem.W.kxs_getMethod PySem.W.kxs_ValueError hso (PySem.W.looks_opaque K2 S.opq) (l₀ := .ref C :: bm) ((PySem.W.looks_clsIn K2 hcl).andThen .now) rfl K2 hf (inst.type.andThen (PySem.W.looks_subIn K2 S.subV)) neC (by decide) ?_
  have hmw : (h2.push (kxs_mw "ValueError.__init__" e)).get? h2.objs.size = some (kxs_mw "ValueError.__init__" e) := Heap.get?_push_size _ rfl
  have kp3 : ∀ b o, h1.get? b = some o → (h2.push (kxs_mw "ValueError.__init__" e)).get? b = some o := fun b o z => Heap.get?_push_of_some _ (kp2 b o z)
  have Ih := I.kept (h' := h2) (t' := tk + 2) kp2
  have I2 := I.kept (h' := h2.push (kxs_mw "ValueError.__init__" e)) (t' := tk + 2 + 1) kp3
  have I3 : L2.Inv (cxSupH CX P w K mg base ["self", par] qual (defScope st) f (.ref cda) cc A outer ⟨hp, g, d, tk, os⟩ H E p) [(h2.objs.size, kxs_mw "ValueError.__init__" e)] (start ["self", par] [.ref e, v]) H ⟨h2.push (kxs_mw "ValueError.__init__" e), g, d, tk + 2 + 1, os⟩ := { I2 with
    pin := fun q hq => by
      rcases List.mem_append.mp (show q ∈ [p] ++ [(h2.objs.size, kxs_mw "ValueError.__init__" e)] from hq) with hq | hq
      · exact I2.pin q (List.mem_append_left _ hq)
      cases List.mem_singleton.mp hq
      refine ⟨hmw, Ih.hok.fresh (Nat.le_refl _), Nat.ne_of_gt Ih.lt, Ih.nofs (Nat.le_refl _), fun c z => by cases z⟩ }
  obtain ⟨ta, pa, rd⟩ := hmsg (.ref cda) cc A outer ⟨hp, g, d, tk, os⟩ H E p e v hgood
  have st1 := star (ksEnv qual (defScope st) hp.objs.size f (.ref cda) cc)
  have ran : wpAny (model P w) (A.deeper (ksEnv qual (defScope st) hp.objs.size f (.ref cda) cc)) (spliced (backTo p3 (starEach [msg] (ksEnv qual (defScope st) hp.objs.size f (.ref cda) cc)))) _ _ _ :=
    pa.run p3 _ _ _ _ (fun vs H1 => H1 = H ∧ vs.length = 1) I3 (rd H _ fun x => ⟨rfl, rfl⟩)
  show wpAny _ _ (callWith p3 (.ref h2.objs.size) [] (backTo p3 (starEach [msg] (ksEnv qual (defScope st) hp.objs.size f (.ref cda) cc))) []) _ _ _
  rw [st1] at ran ⊢
  refine PySem.W.kxs_callWith (i := "ValueError.__init__") (x := e) (u := h2.objs.size) rfl (PySem.Calls.evalArgs_plain (thn ran fun us s3 got => ?_))
  obtain ⟨vs1, H1, I4, rel1, rfl, len1⟩ := got
  have hu := (I4.pin _ (List.mem_append_right [p] List.mem_cons_self)).1
  refine ⟨hu, call_mw S.oex I4 hexo hu (by show us.length ≤ sizeLine; rw [← Vals.length rel1, len1, sizeLine_eq]; decide) fun s4 I5 => ?_⟩
  have last : PSs (cxSupH CX P w K mg base ["self", par] qual (defScope st) f (.ref cda) cc A outer ⟨hp, g, d, tk, os⟩ H1 E p) [.Assign [.Attribute (.Name "self" p5) fld p6] (.Name par p7) p8] _ :=
    pss_one (ps_ost (pv 0 rfl (.inl T.s1)) (pv 1 rfl (.inl T.s2) nd nc) (swap2 _ _ _ _))
  refine wpAt_of_wpAny (thn (last.run _ s4 _ H1 { nx := fun _ H2 => Q .non H2, rt := Q } I5 ⟨v, rfl, .ref e, rfl, e, C, rfl, S.oex, S.nof, .inl ⟨hexo, fin⟩⟩) fun fl s5 got => ?_)
  cases fl with
  | next =>
    obtain ⟨σ', H', J, q⟩ := got
    exact ⟨V.non, H', J.os, J.bare, J.base, J.hok, rfl, q⟩
  | ret u =>
    obtain ⟨y, σ', H', J, ry, q⟩ := got
    exact ⟨y, H', J.os, J.bare, J.base, J.hok, ry, q⟩
  | brk =>
    obtain ⟨_, _, _, q⟩ := got
    exact q.elim
  | cont =>
    obtain ⟨_, _, _, q⟩ := got
    exact q.elim
end
theorem pmk_weak {X : Cx} {e : Expr} {t : L2.St → Hp → XK → Prop} (h : L2N.PMk X e t) : PMk X e t := fun pins s σ H Q I q => thn (h pins s σ H Q I q) fun _ _ ⟨a, oe, vs, sI, H1, cls, d, e1, J, k, e2, e3, z, x⟩ => ⟨a, oe, vs, sI, H1, cls, d, e1, J, k, e2, e3, z.zc, x⟩
theorem sky_imp {B : Heap} {l : List Env} {a L : Addr} {Z Z' : Obj → Prop} {h : Heap} (z : ∀ o, Z o → Z' o) (x : Sky B l a Z L h) : Sky B l a Z' L h := by
  rcases x with ⟨h1, h2, h3, oe, vs, e1, e2, e3⟩ | x | ⟨h1, h2, h3, x⟩
  · exact .inl ⟨h1, h2, h3, oe, vs, e1, z _ e2, e3⟩
  · exact .inr (.inl (L2H.flyingZ_imp z x))
  · exact .inr (.inr ⟨h1, h2, h3, L2H.tracedZ_imp z x⟩)
theorem takesN_of {X : Cx} {W : WX} (tk : Takes X W) : L2N.Takes X W := fun u s' ⟨a, B, sI, pins, σ, H, cls, d, e, I, nb, up, sky, x⟩ => tk u s' ⟨a, B, sI, pins, σ, H, cls, d, e, I, nb, up, sky_imp (fun _ z => z.zc) sky, x⟩
/-- a statement whose reading is kept whole -/
def tWhole (t : TS) : TS := t
theorem ps_whole {X : Cx} {st : Stmt} {t : TS} (h : PS X st t) : PS X st (tWhole t) := h

/-! ### a def called while any exception is handled -/
structure FnW (P : Program) (w : World) (K : PySem.W.Frag) (mg : Str → Option Value) (base : Heap) (k : Nat) (f : Addr) (fd : FuncData) (ps : List Str) (sp : Sp) : Prop where
  len : ∀ vs H Q E, sp vs H Q E → vs.length = ps.length
  run : ∀ (A : Around) (out : List Env) (s : Shared) (H : Hp) (ar : Args) (us : List Value) (vs : List V) (Q : VK) (E : XK) (p : Addr × Obj), L2H.RoomH k A → L2H.PinOk out H s p → Env0 P w K mg base A out s H →
    BindsTo s fd ar (ps.zip us) → Vals vs us → sp vs H Q E → codeAny (model P w) A (.call (.ref f) ar) (CR CX0 out P w H s Q E) s
theorem fun_okW {P : Program} {w : World} {K : PySem.W.Frag} {mg : Str → Option Value} {base : Heap} {x qual : Str} {st : Stmt} {f : Addr} {fd : FuncData} {N ps : List Str} {k : Nat} {sp : Sp} (F : Fun K x qual st f fd) (S : FnScope N ps (defScope st))
    (len : ∀ vs H Q E, sp vs H Q E → vs.length = ps.length)
    (body : ∀ (cdv : Value) (A : Around) (out : List Env) (s : Shared) (H : Hp) (vs : List V) (Q : VK) (E : XK) (p : Addr × Obj), L2H.RoomH k (A.deeper (PyProof.Rows.envOfC qual (defScope st) s.heap.objs.size f cdv)) → sp vs H Q E →
      ∃ t, PSs (L2H.cxH CX0 P w K mg base N qual (defScope st) f cdv A out s H E p) (defBody st) t ∧ t { nx := fun _ H' => Q .non H', rt := Q } (start N vs) H) : FnW P w K mg base (k + 1) f fd ps sp := by
  obtain ⟨oc, od, kV, doc, pm, an, cdv, ct, osl, rfl, lk, hcd⟩ := F.ex
  constructor
  · exact len
  intro A out s H ar us vs Q E p room pin env bind vals want
  have up : ∀ b o, base.get? b = some o → s.heap.get? b = some o := fun b o z => (env.bs b o z).1
  have KX : K.In s.heap := env.mod.kin.keeps up
  have places : ∀ y ∈ ps.zip us, (defScope st).names.lookup y.1 = some .local ∨ ((defScope st).names.lookup y.1 = some .cell ∧ ((cellsFrom (s.heap.objs.size + 1) (defScope st).names []).lookup y.1).isSome = true) := by
    rintro ⟨n, v⟩ hy
    exact (S.par n (List.of_mem_zip hy).1).imp id fun q => ⟨q, PySem.W.cellsFrom_some _ _ _ (.inl q)⟩
  refine codeAny_call_function room.depth (KX _ _ lk) rfl S.co S.gen rfl (PySem.W.codeRec_of KX hcd) (bind _ _ _ _ ?_)
  refine wpAny_newFunctionEnv_cells S.kind places fun e he s1 x => ?_
  cases he
  refine ⟨(env.mod.nolimit.keeps up).keeps x.toInCall.keep, codeAny_func ?_⟩
  obtain ⟨t, ht, hq⟩ := body cdv A out s H vs Q E p (room.deeper _) want
  refine wpAny_mono (ht.run [] s1 _ H _ (L2H.inv_startH S pin env (len _ _ _ _ want) vals x) hq) (fun fl s' got => ?_) fun _ _ z => z
  cases fl with
  | next =>
    obtain ⟨_, H2, J, q⟩ := got
    exact ⟨V.non, H2, J.os, J.bare, J.base, J.hok, rfl, q⟩
  | ret u =>
    obtain ⟨v, _, H2, J, rv, q⟩ := got
    exact ⟨v, H2, J.os, J.bare, J.base, J.hok, rv, q⟩
  | brk => exact got.elim fun _ z => z.elim fun _ z => z.2.elim
  | cont => exact got.elim fun _ z => z.elim fun _ z => z.2.elim
theorem pe_callW {X : Cx} {k : Nat} {f : Addr} {fd : FuncData} {ps : List Str} {sp : Sp} {x : Str} {q pos : Pos} {e : Expr} {es : List Expr} {t : TA} {p : Addr × Obj} (F : FnW X.prog X.w X.K X.mg X.base k f fd ps sp) (room : L2H.RoomH k X.A) (hp : p ∈ X.pn) (hg : Gl X x) (hm : X.mg x = some (.ref f)) (hk : PySem.W.keepIn X.K (.ref f) = true)
    (hb : Binds X.K fd ps []) (ha : PA X (e :: es) t) (hdb : (x == ("__debug__" : Str)) = false := by decide) (he : starEach (e :: es) X.env = (false, eval e X.env) :: starEach es X.env := by rfl) (hpl : (backTo pos (starEach es X.env)).any (·.1) = false := by rfl) :
    PE X (.Call (.Name x q) (e :: es) [] pos) (tCallS sp (fun _ => E0) t) := by
  constructor
  intro pins s σ H Q I want
  refine wpAny_Call_Name_kw (ld_glob I hg hm ?_ hdb)
  refine PySem.W.callWith_K (h₀ := X.base) I.ok.mod.kin hk (thn (ha.run pos pins s σ H _ I want) fun us s1 got => ?_) he hpl
  obtain ⟨vs, H1, I1, vals, ask⟩ := got
  refine ⟨I1.kIn, ?_⟩
  have same : us.length = ps.length := vals.length.symm.trans (F.len _ _ _ _ ask)
  have bind := hb s1 us I1.kIn ((congrArg List.length (List.append_nil us)).trans same)
  rw [List.append_nil] at bind
  have at1 := I1.pin p (List.mem_append_left _ hp)
  have pin : L2H.PinOk X.stack H1 s1 p := by
    refine ⟨at1.1, at1.2.1, fun hmm => ?_, at1.2.2.2.2⟩
    rcases List.mem_cons.mp (I1.stkSub p.1 hmm) with z | z
    · exact at1.2.2.1 z
    · exact at1.2.2.2.1 z
  refine wpAny_call (codeAny_mono (F.run X.A X.stack s1 H1 ⟨us, []⟩ us vs Q E0 p room pin I1.env0 bind vals ask) fun r s2 fin => ?_)
  cases r with
  | error z => exact (fin : False).elim
  | ok fl =>
    cases fl with
    | ret u => exact I1.after fin
    | next => exact (fin : False).elim
    | brk => exact (fin : False).elim
    | cont => exact (fin : False).elim

structure TxtE (P : Program) (K : PySem.W.Frag) (mg : Str → Option Value) (a : Ads) : Prop where
  g_BadLine : mg "BadLine" = some (.ref a.C_BadLine)
  sup_BadLine : ∃ fd, SupCls P K a.C_BadLine "BadLine.__init__" "at" "at" s_BadLine_init a.d_BadLine_init fd ∧ Binds K fd ["self", "at"] []
  iC_BadLine : PySem.W.findIn K (.ref a.C_BadLine) "__init__" = some (some (.ref a.d_BadLine_init))
  tI_BadLine : PySem.W.typeIn K (.ref a.d_BadLine_init) = some (.type "function")
  oex_BadLine : OexC K a.C_BadLine
  xc_BadLine : XcC K a.C_BadLine
  g_KINDS : mg "KINDS" = some (.ref a.P_KINDS)
  s_KINDS : ∀ H, SqT K H a.P_KINDS [V.str "proposal", V.str "prevote", V.str "precommit"]
  g_BadJournal : mg "BadJournal" = some (.ref a.C_BadJournal)
  g_TribunalError : mg "TribunalError" = some (.ref a.C_TribunalError)
  exm_TribunalError_BadLine : PySem.W.exmOne K (.ref a.C_BadLine) (.ref a.C_TribunalError) = some true
  kt_BadLine_BadLine : PySem.W.kitOne K (.ref a.C_BadLine) (.ref a.C_BadLine) = some true
  kt_BadLine_BadJournal : PySem.W.kitOne K (.ref a.C_BadLine) (.ref a.C_BadJournal) = some false

/-! ### journals -/
theorem hu65 {k : Nat} {A : Around} (r : Room k A) : A.units + 65 < cLine := by
  have := r.un
  omega
instance : Inhabited Sm := ⟨⟨.prop, 0, 0, none, none⟩⟩
def SsAt (H : Hp) (ps : List Addr) (ms : List Sm) : Prop := ps.length = ms.length ∧ ∀ i, i < ms.length → SmAt H (ps.getD i 0) (ms.getD i default)
theorem SsAt.nil {H : Hp} : SsAt H [] [] := ⟨rfl, fun i h => absurd h (Nat.not_lt_zero i)⟩
theorem SsAt.same {H H' : Hp} {ps : List Addr} {ms : List Sm} (h : SsAt H ps ms) (s : Same H H') : SsAt H' ps ms := ⟨h.1, fun i hi => s _ _ (h.2 i hi)⟩
theorem ne_ls {H : Hp} {p l : Addr} {m : Sm} {ys : List V} (h : SmAt H p m) (hl : H l = some (.lst ys)) : p ≠ l := fun e => by
  have h : H p = some (.tup m.vals) := h
  rw [e, hl] at h
  cases h
/-- all but the object at l stays -/
def But (l : Addr) (H H' : Hp) : Prop := ∀ b o, b ≠ l → H b = some o → H' b = some o
theorem But.sm {l : Addr} {H H' : Hp} {p : Addr} {m : Sm} {ys : List V} (k : But l H H') (hl : H l = some (.lst ys)) (h : SmAt H p m) : SmAt H' p m := k _ _ (ne_ls h hl) h
theorem But.ss {l : Addr} {H H' : Hp} {ps : List Addr} {ms : List Sm} {ys : List V} (k : But l H H') (hl : H l = some (.lst ys)) (h : SsAt H ps ms) : SsAt H' ps ms := ⟨h.1, fun i hi => k.sm hl (h.2 i hi)⟩
theorem SsAt.snoc {H : Hp} {ps : List Addr} {ms : List Sm} {p : Addr} {m : Sm} (h : SsAt H ps ms) (e : SmAt H p m) : SsAt H (ps ++ [p]) (ms ++ [m]) := by
  refine ⟨by rw [List.length_append, List.length_append, h.1]; rfl, fun i hi => ?_⟩
  rw [List.length_append, List.length_singleton] at hi
  rcases Nat.lt_or_ge i ms.length with z | z
  · rw [getD_left (by rw [h.1]; exact z), getD_left z]
    exact h.2 i z
  · have ei : i = ms.length := by omega
    subst ei
    rw [getD_last]
    have : (ps ++ [p]).getD ms.length 0 = p := by rw [← h.1, getD_last]
    rw [this]
    exact e
theorem SsAt.cons {H : Hp} {p : Addr} {ps : List Addr} {m : Sm} {ms : List Sm} (h : SsAt H (p :: ps) (m :: ms)) : SmAt H p m ∧ SsAt H ps ms :=
  ⟨h.2 0 (Nat.succ_pos _), Nat.succ.inj h.1, fun i hi => h.2 (i + 1) (Nat.succ_lt_succ hi)⟩
def smD (m : Sm) : PyData := .tuple m.dat
theorem dp_sms {K : PySem.W.Frag} {H : Hp} : ∀ {ps : List Addr} {ms : List Sm}, SsAt H ps ms → DpAll K H (ps.map V.ref) (ms.map smD)
  | [], [], _ => .nil
  | p :: ps, m :: ms, h => .cons (dp_sm h.cons.1) (dp_sms h.cons.2)
  | [], m :: ms, h => nomatch h.1
  | p :: ps, [], h => nomatch h.1
def OkM (ms : List Sm) : Prop := ∀ m ∈ ms, OkS m.b
theorem lay_sms : ∀ {ms : List Sm}, OkM ms → PyData.canLayAll0 (ms.map smD) = true
  | [], _ => by simp [PyData.canLayAll0]
  | m :: ms, o => by
    simp only [List.map_cons, PyData.canLayAll0]
    rw [show PyData.canLay0 (smD m) = true from lay_sm m (o m List.mem_cons_self), lay_sms fun y hy => o y (List.mem_cons_of_mem _ hy)]
    rfl
theorem depth_sms : ∀ ms : List Sm, PyData.depthAll (ms.map smD) ≤ 1
  | [] => by simp [PyData.depthAll]
  | m :: ms => by
    have := depth_sms ms
    have h : PyData.depth (smD m) = 1 := depth_sm m
    simp only [List.map_cons, PyData.depthAll, h]
    omega
theorem shaped_sms {ms : List Sm} (o : OkM ms) : SeqAt.shaped (.list (ms.map smD)) = true := by
  have h := depth_sms ms
  unfold SeqAt.shaped
  have e : PyData.depth (.list (ms.map smD)) = PyData.depthAll (ms.map smD) + 1 := by simp only [PyData.depth]
  have l : PyData.canLay0 (.list (ms.map smD)) = true := by simp only [PyData.canLay0, lay_sms o]
  rw [l, e, decide_eq_true (show PyData.depthAll (ms.map smD) + 1 ≤ 64 by omega)]
  rfl
theorem eqv_sms {ms : List Sm} (o : OkM ms) : PyData.eqv (.list (ms.map smD)) (.list (ms.map smD)) = true := SeqAt.eqv_refl _ (by
  simp only [PyData.canLay0, lay_sms o])
/-- m in ms -/
def memS (ms : List Sm) (m : Sm) : Bool := (ms.map smD).any fun z => PyData.eqv z (smD m)
theorem ne_wsg : ¬ (("who" : Str) = "signed") := by decide +kernel
def jfs (who : Int) (L : Addr) : List (Str × V) := putF "signed" (.ref L) (putF "who" (.int who) [])
theorem jfs_w (who : Int) (L : Addr) : (jfs who L).lookup ("who" : Str) = some (.int who) := by
  unfold jfs
  rw [lookup_putF, if_neg ne_wsg, lookup_putF, if_pos rfl]
theorem jfs_s (who : Int) (L : Addr) : (jfs who L).lookup ("signed" : Str) = some (.ref L) := by
  unfold jfs
  rw [lookup_putF, if_pos rfl]
theorem jfs_no (who : Int) (L : Addr) {m : Str} (h1 : ¬ m = "who") (h2 : ¬ m = "signed") : (jfs who L).lookup m = none := by
  unfold jfs
  rw [lookup_putF, if_neg h2, lookup_putF, if_neg h1]
  rfl
def JAt (C : Addr) (H : Hp) (j : Addr) (who : Int) (L : Addr) : Prop := ∃ dx, H j = some (.ins C dx (jfs who L))
/-- the first of the first n that clashes with m -/
def fcl (ms : List Sm) (m : Sm) : Nat → Option Nat
  | 0 => none
  | n + 1 => match fcl ms m n with
    | some k => some k
    | none => if clashM (ms.getD n default) m then some n else none
theorem fcl_none {ms : List Sm} {m : Sm} : ∀ {n : Nat}, fcl ms m n = none → ∀ k, k < n → clashM (ms.getD k default) m = false
  | 0, _, k, hk => absurd hk (Nat.not_lt_zero _)
  | n + 1, h, k, hk => by
    rw [fcl] at h
    split at h
    · cases h
    · rename_i e
      split at h
      · cases h
      · rename_i c
        rcases Nat.lt_or_ge k n with z | z
        · exact fcl_none e k z
        · have : k = n := by omega
          rw [this]
          simpa using c
theorem fcl_keep {ms : List Sm} {m : Sm} {n k : Nat} (h : fcl ms m n = some k) : fcl ms m (n + 1) = some k := by
  rw [fcl, h]
theorem fcl_new {ms : List Sm} {m : Sm} {n : Nat} (h : fcl ms m n = none) (c : clashM (ms.getD n default) m = true) : fcl ms m (n + 1) = some n := by
  rw [fcl, h]
  exact if_pos c
theorem fcl_no {ms : List Sm} {m : Sm} {n : Nat} (h : fcl ms m n = none) (c : clashM (ms.getD n default) m = false) : fcl ms m (n + 1) = none := by
  rw [fcl, h]
  exact if_neg (by rw [c]; exact Bool.false_ne_true)
theorem fcl_mono {ms : List Sm} {m : Sm} {n k : Nat} (h : fcl ms m n = some k) : ∀ d, fcl ms m (n + d) = some k
  | 0 => h
  | d + 1 => fcl_keep (fcl_mono h d)
theorem fcl_lt {ms : List Sm} {m : Sm} : ∀ {n k : Nat}, fcl ms m n = some k → k < n
  | 0, k, h => nomatch h
  | n + 1, k, h => by
    rw [fcl] at h
    split at h
    · rename_i e
      cases h
      have := fcl_lt e
      omega
    · split at h
      · cases h
        exact Nat.lt_succ_self _
      · cases h
/-- what is signed behind m -/
def after (ps : List Addr) (ms : List Sm) (p : Addr) (m : Sm) : List Addr := if memS ms m then ps else ps ++ [p]
def afterM (ms : List Sm) (m : Sm) : List Sm := if memS ms m then ms else ms ++ [m]
theorem shaped_pair {who : Int} {m : Sm} (o : OkS m.b) : SeqAt.shaped (.tuple [.int who, .tuple m.dat]) = true := shaped_lt (x := ⟨who, m⟩) o
theorem eqv_pair {who : Int} {m : Sm} (o : OkS m.b) : PyData.eqv (.tuple [.int who, .tuple m.dat]) (.tuple [.int who, .tuple m.dat]) = true := eqv_lt (x := ⟨who, m⟩) o
def spJI (K : PySem.W.Frag) (C : Addr) : Sp := fun vs H Q _ => ∃ (p dx : Addr) (who : Int), vs = [.ref p, .int who] ∧ H p = some (.ins C dx []) ∧ ∀ (L : Addr) (H' : Hp), H L = none → H' p = some (.ins C dx (jfs who L)) → H' L = some (.lst []) → (∀ b o, b ≠ p → H b = some o → H' b = some o) → Q .non H'
def spSign (K : PySem.W.Frag) (C CR : Addr) : Sp := fun vs H Q E => ∃ (j p L : Addr) (who : Int) (ps : List Addr) (ms : List Sm) (m : Sm), vs = [.ref j, .ref p] ∧ JAt C H j who L ∧ H L = some (.lst (ps.map V.ref)) ∧ SsAt H ps ms ∧ SmAt H p m ∧ ms.length ≤ 900 ∧ OkM ms ∧ OkS m.b ∧
  (∀ k, fcl ms m ms.length = some k → ∀ d H', Same H H' → H' d = some (.xd [(("vote" : Str), .ref (ps.getD k 0))]) → E (.ref CR) (some d) H') ∧
  (fcl ms m ms.length = none → ∀ t H', But L H H' → H' L = some (.lst ((after ps ms p m).map V.ref)) → H' t = some (.tup [.int who, .ref p]) → Q (.ref t) H')
def spLast (K : PySem.W.Frag) (C : Addr) : Sp := fun vs H Q _ => ∃ (j L : Addr) (who h : Int) (ps : List Addr) (ms : List Sm), vs = [.ref j, .int h] ∧ JAt C H j who L ∧ H L = some (.lst (ps.map V.ref)) ∧ SsAt H ps ms ∧ ms.length ≤ 900 ∧ (∀ m ∈ ms, 0 ≤ m.t) ∧
  ∀ (z : Int) H', Same H H' → (z = 0 ∨ z ∈ (ms.filter fun m => decide (m.h = h)).map Sm.t) → 0 ≤ z → (∀ m ∈ ms, m.h = h → m.t ≤ z) → Q (.int z) H'

/-! ### words and lines -/
def wordV : V → Str
  | .non => "-"
  | .int i => toString i
  | .str x => x
  | _ => ""
def lineS (who : Int) (m : Sm) : Str := Txt.join " " ((toString who : Str) :: m.vals.map wordV)
/-- small numbers and names -/
def SmallV (v : V) : Prop := v = .non ∨ (∃ i : Int, v = .int i ∧ 0 ≤ i ∧ i < 1000000000) ∨ ∃ x : Str, v = .str x ∧ x.length ≤ 60 ∧ PyData.strOk x = true
def SmallM (m : Sm) : Prop := ∀ v ∈ m.vals, SmallV v
theorem strOk_of {x : Str} (h : ∀ c ∈ TL.tl x, c < 1114112) : PyData.strOk x = true := by
  unfold PyData.strOk
  rw [← Array.all_toList]
  exact List.all_eq_true.mpr fun c hc => decide_eq_true (h c hc)
theorem tos_nat {i : Int} (h0 : 0 ≤ i) : (toString i : Str) = Str.ofString (toString ((i.toNat : Nat) : Int)) := by
  rw [Int.toNat_of_nonneg h0]
theorem num_ok {i : Int} (h0 : 0 ≤ i) (h1 : i < 1000000000) : (toString i : Str).length ≤ 60 ∧ PyData.strOk (toString i : Str) = true := by
  have e : TL.tl (toString i : Str) = TL.numL i.toNat := by
    rw [tos_nat h0, TL.tl_num]
  refine ⟨?_, strOk_of fun c hc => ?_⟩
  · rw [TL.len_tl, e]
    exact Nat.le_trans (TL.numL_len (k := 9) (by decide) (by omega)) (by decide)
  · rw [e] at hc
    have := TL.numL_digits i.toNat c hc
    omega
theorem log_small {i : Int} (h0 : 0 ≤ i) (h1 : i < 1000000000) : i.natAbs.log2 < 1920 := by
  rcases Nat.eq_zero_or_pos i.natAbs with z | z
  · rw [z]
    decide
  · have : i.natAbs.log2 < 30 := (Nat.log2_lt (Nat.ne_of_gt z)).mpr (by omega)
    omega
theorem word_ok {v : V} (h : SmallV v) : (wordV v).length ≤ 60 ∧ PyData.strOk (wordV v) = true := by
  rcases h with rfl | ⟨i, rfl, h0, h1⟩ | ⟨x, rfl, h⟩
  · exact ⟨by decide +kernel, by decide +kernel⟩
  · exact num_ok h0 h1
  · exact h
theorem vals_len (m : Sm) : m.vals.length ≤ 5 := by
  obtain ⟨mk, mh, mt, mb, ml⟩ := m
  cases mk <;> simp [Sm.vals]
theorem strOk_app {a b : Str} (h1 : PyData.strOk a = true) (h2 : PyData.strOk b = true) : PyData.strOk (a ++ b) = true := by
  unfold PyData.strOk at *
  show (a.cps ++ b.cps).all _ = true
  rw [Array.all_append, h1, h2]
  rfl
theorem strOk_join {y : Str} (hy : PyData.strOk y = true) : ∀ {parts : List Str}, (∀ x ∈ parts, PyData.strOk x = true) → PyData.strOk (Str.join y parts) = true
  | [], _ => (by decide +kernel : PyData.strOk Str.empty = true)
  | [x], h => h x List.mem_cons_self
  | x :: z :: r, h => strOk_app (strOk_app (h x List.mem_cons_self) hy) (strOk_join hy fun w hw => h w (List.mem_cons_of_mem _ hw))
theorem line_ok {who : Int} {m : Sm} (w0 : 0 ≤ who) (w1 : who < 1000000000) (h : SmallM m) : PyData.strOk (lineS who m) = true := by
  unfold lineS
  rw [TL.join_eq]
  refine strOk_join (by decide +kernel) fun x hx => ?_
  rcases List.mem_cons.mp hx with rfl | hx
  · exact (num_ok w0 w1).2
  · obtain ⟨v, hv, rfl⟩ := List.mem_map.mp hx
    exact (word_ok (h v hv)).2
theorem sum_small : ∀ {ys : List Str}, (∀ y ∈ ys, y.length ≤ 60) → (ys.map (·.length)).sum ≤ 60 * ys.length
  | [], _ => by simp
  | y :: ys, h => by
    have h1 := h y List.mem_cons_self
    have h2 := sum_small fun z hz => h z (List.mem_cons_of_mem _ hz)
    simp only [List.map_cons, List.sum_cons, List.length_cons]
    omega
theorem join_fit {who : Int} {m : Sm} (w0 : 0 ≤ who) (w1 : who < 1000000000) (h : SmallM m) : ((((toString who : Str) :: m.vals.map wordV)).map (·.length)).sum + (((toString who : Str) :: m.vals.map wordV)).length * (" " : Str).length ≤ 16777216 := by
  have l := vals_len m
  have s := sum_small (ys := (toString who : Str) :: m.vals.map wordV) fun y hy => by
    rcases List.mem_cons.mp hy with rfl | hy
    · exact (num_ok w0 w1).1
    · obtain ⟨v, hv, rfl⟩ := List.mem_map.mp hy
      exact (word_ok (h v hv)).1
  have e : (" " : Str).length = 1 := by decide +kernel
  simp only [List.length_cons, List.length_map] at s ⊢
  rw [e]
  omega
theorem dp_strs {K : PySem.W.Frag} {H : Hp} : ∀ xs : List Str, DpAll K H (xs.map V.str) (xs.map PyData.str)
  | [] => .nil
  | x :: xs => .cons (.str x) (dp_strs xs)
theorem lay_strs : ∀ {xs : List Str}, (∀ x ∈ xs, PyData.strOk x = true) → PyData.canLayAll0 (xs.map PyData.str) = true
  | [], _ => by simp [PyData.canLayAll0]
  | x :: xs, o => by
    simp only [List.map_cons, PyData.canLayAll0, PyData.canLay0, o x List.mem_cons_self, lay_strs fun y hy => o y (List.mem_cons_of_mem _ hy)]
    rfl
theorem depth_strs : ∀ xs : List Str, PyData.depthAll (xs.map PyData.str) = 0
  | [] => by simp [PyData.depthAll]
  | x :: xs => by
    have := depth_strs xs
    simp only [List.map_cons, PyData.depthAll, PyData.depth, this]
    rfl
theorem shaped_strs {xs : List Str} (o : ∀ x ∈ xs, PyData.strOk x = true) : SeqAt.shaped (.list (xs.map PyData.str)) = true := by
  unfold SeqAt.shaped
  have e : PyData.depth (.list (xs.map PyData.str)) = PyData.depthAll (xs.map PyData.str) + 1 := by simp only [PyData.depth]
  have l : PyData.canLay0 (.list (xs.map PyData.str)) = true := by simp only [PyData.canLay0, lay_strs o]
  rw [l, e, depth_strs]
  rfl
theorem eqv_strs {xs : List Str} (o : ∀ x ∈ xs, PyData.strOk x = true) : PyData.eqv (.list (xs.map PyData.str)) (.list (xs.map PyData.str)) = true := SeqAt.eqv_refl _ (by
  simp only [PyData.canLay0, lay_strs o])
def spWord (K : PySem.W.Frag) : Sp := fun vs H Q _ => ∃ v : V, vs = [v] ∧ SmallV v ∧ Q (.str (wordV v)) H
def spLine (K : PySem.W.Frag) : Sp := fun vs H Q _ => ∃ (t : Addr) (x : Lt), vs = [.ref t] ∧ LtAt H t x ∧ 0 ≤ x.w ∧ x.w < 1000000000 ∧ SmallM x.m ∧ ∀ H', Same H H' → Q (.str (lineS x.w x.m)) H'
def spLines (K : PySem.W.Frag) (C : Addr) : Sp := fun vs H Q _ => ∃ (j L : Addr) (who : Int) (ps : List Addr) (ms : List Sm), vs = [.ref j] ∧ JAt C H j who L ∧ H L = some (.lst (ps.map V.ref)) ∧ SsAt H ps ms ∧ ms.length ≤ 900 ∧ 0 ≤ who ∧ who < 1000000000 ∧ (∀ m ∈ ms, SmallM m) ∧
  ∀ R H', Same H H' → H' R = some (.lst ((ms.map (lineS who)).map V.str)) → Q (.ref R) H'

/-! ### words read back -/
def isD (c : Nat) : Bool := decide (48 ≤ c) && decide (c ≤ 57)
theorem isD_iff {c : Nat} : isD c = true ↔ 48 ≤ c ∧ c ≤ 57 := by
  unfold isD
  rw [Bool.and_eq_true, decide_eq_true_eq, decide_eq_true_eq]
def numB (w : Str) : Bool := (TL.tl w).all isD && (decide (TL.tl w ≠ []) && (decide ((TL.tl w).length ≤ 9) && (decide (w = "0") || decide ((TL.tl w).head? ≠ some 48))))
def numV (w : Str) : Int := ((NumText.digitsVal (TL.tl w) : Nat) : Int)
theorem ascii_digit : ∀ c : _root_.Fin 128, Unicode.isDigit c.val = isD c.val := by decide +kernel
theorem all_digit : ∀ {l : List Nat}, (l.all fun c => decide (c < 128)) = true → l.all Unicode.isDigit = l.all isD
  | [], _ => rfl
  | c :: l, h => by
    rw [List.all_cons, Bool.and_eq_true] at h
    have hc := of_decide_eq_true h.1
    rw [List.all_cons, List.all_cons, ascii_digit ⟨c, hc⟩, all_digit h.2]
theorem digit_ascii : ∀ {l : List Nat}, l.all isD = true → (l.all fun c => decide (c < 128)) = true
  | [], _ => rfl
  | c :: l, h => by
    rw [List.all_cons, Bool.and_eq_true] at h
    have hc := isD_iff.mp h.1
    rw [List.all_cons, digit_ascii h.2, decide_eq_true (show c < 128 by omega)]
    rfl
theorem ascii_all (w : Str) : Txt.isascii w = ((TL.tl w).all fun c => decide (c < 128)) := by
  unfold Txt.isascii TL.tl
  rw [← Array.all_toList]
theorem digit_all (w : Str) : Txt.isdigit w = (decide (TL.tl w ≠ []) && (TL.tl w).all Unicode.isDigit) := by
  unfold Txt.isdigit
  have e : decide (w.length > 0) = decide (TL.tl w ≠ []) := by
    rw [TL.len_tl]
    refine decide_eq_decide.mpr ?_
    exact List.length_pos_iff
  rw [← Array.all_toList]
  show (decide (w.length > 0) && _) = _
  rw [e]
theorem num_parts (w : Str) : (Txt.isascii w && Txt.isdigit w) = ((TL.tl w).all isD && decide (TL.tl w ≠ [])) := by
  rw [ascii_all, digit_all]
  cases h : (TL.tl w).all fun c => decide (c < 128) with
  | false =>
    cases h2 : (TL.tl w).all isD with
    | false => rfl
    | true =>
      rw [digit_ascii h2] at h
      cases h
  | true =>
    rw [all_digit h, Bool.true_and, Bool.and_comm]
theorem numV_nonneg (w : Str) : 0 ≤ numV w := Int.natCast_nonneg _
theorem num_all {w : Str} (h : numB w = true) : (∀ c ∈ TL.tl w, 48 ≤ c ∧ c ≤ 57) ∧ TL.tl w ≠ [] ∧ (TL.tl w).length ≤ 9 := by
  unfold numB at h
  simp only [Bool.and_eq_true, decide_eq_true_eq, List.all_eq_true] at h
  exact ⟨fun c hc => isD_iff.mp (h.1 c hc), h.2.1, h.2.2.1⟩
theorem num_int {w : Str} (h : numB w = true) : PySem.intText? w = some (numV w) ∧ w.length ≤ 9 := by
  obtain ⟨h1, h2, h3⟩ := num_all h
  have h4 : w.length ≤ 9 := by rw [TL.len_tl]; exact h3
  exact ⟨PySem.intText_digits (fun c hc => h1 c hc) h2 (by omega), h4⟩
theorem num_last {w : Str} (h1 : Txt.isascii w = true) (h2 : Txt.isdigit w = true) (h3 : w.length ≤ 9) : numB w = (decide (w = "0") || decide ((TL.tl w).head? ≠ some 48)) := by
  have e := num_parts w
  rw [h1, h2] at e
  have e2 := Bool.and_eq_true_iff.mp e.symm
  rw [TL.len_tl] at h3
  unfold numB
  rw [e2.1, e2.2, decide_eq_true h3]
  rfl
theorem num_not1 {w : Str} (h : Txt.isascii w = false ∨ Txt.isdigit w = false) : numB w = false := by
  have e := num_parts w
  cases z : numB w with
  | false => rfl
  | true =>
    unfold numB at z
    simp only [Bool.and_eq_true] at z
    rw [z.1, z.2.1] at e
    rcases h with h | h <;> rw [h] at e <;> simp at e
theorem num_not2 {w : Str} (h : 9 < w.length) : numB w = false := by
  cases z : numB w with
  | false => rfl
  | true =>
    have := (num_all z).2.2
    rw [← TL.len_tl] at this
    omega
def wordAt (ws : List Str) (k : Nat) : Except Int Str := if k < ws.length then .ok (ws.getD k "") else .error (ws.length : Int)
theorem word_mem {ws : List Str} {k : Nat} {x : Str} (h : wordAt ws k = .ok x) : x ∈ ws := by
  unfold wordAt at h
  split at h
  · cases h
    rename_i h
    rw [List.getD_eq_getElem?_getD, List.getElem?_eq_getElem h]
    exact List.getElem_mem h
  · cases h
def numAt (ws : List Str) (k : Nat) : Except Int Int := match wordAt ws k with
  | .error e => .error e
  | .ok w => if numB w = true then .ok (numV w) else .error (k : Int)
def kdOf (w : Str) : Option Kd := if w = "proposal" then some .prop else if w = "prevote" then some .pre else if w = "precommit" then some .com else none
def kindAt (ws : List Str) (k : Nat) : Except Int Kd := match wordAt ws k with
  | .error e => .error e
  | .ok w => match kdOf w with
    | some d => .ok d
    | none => .error (k : Int)
def isL (c : Nat) : Bool := decide (c ∈ TL.tl "abcdefghijklmnopqrstuvwxyz")
def isA (c : Nat) : Bool := decide (c ∈ TL.tl "abcdefghijklmnopqrstuvwxyz0123456789")
def blkB (w : Str) : Bool := match TL.tl w with
  | [] => false
  | c :: l => decide (l.length + 1 ≤ 60) && (isL c && (c :: l).all isA)
def blockAt (ws : List Str) (k : Nat) (d : Kd) : Except Int (Option Str) := match wordAt ws k with
  | .error e => .error e
  | .ok w => if w = "-" ∧ d ≠ .prop then .ok none else if blkB w = true then .ok (some w) else .error (k : Int)
def leanAt (ws : List Str) (k : Nat) (t : Int) : Except Int (Option Int) := match wordAt ws k with
  | .error e => .error e
  | .ok w => if w = "-" then .ok none else if numB w = true then (if numV w < t then .ok (some (numV w)) else .error (k : Int)) else .error (k : Int)
def endAt (ws : List Str) (k : Nat) : Except Int Unit := if k < ws.length then .error (k : Int) else .ok ()
def bindE {α β : Type} : Except Int α → (α → Except Int β) → Except Int β
  | .error e, _ => .error e
  | .ok x, f => f x
def readEnd (ws : List Str) (w : Int) (k : Kd) (h t : Int) (b : Option Str) : Except Int Lt :=
  if k = .pre then bindE (leanAt ws 5 t) fun l => bindE (endAt ws 6) fun _ => .ok ⟨w, ⟨.pre, h, t, b, l⟩⟩
  else bindE (endAt ws 5) fun _ => .ok ⟨w, ⟨k, h, t, b, none⟩⟩
def readW (ws : List Str) : Except Int Lt :=
  bindE (numAt ws 0) fun w => bindE (kindAt ws 1) fun k => bindE (numAt ws 2) fun h => bindE (numAt ws 3) fun t => bindE (blockAt ws 4 k) fun b => readEnd ws w k h t b
def readL (line : Str) : Except Int Lt := readW (Txt.split line " ")
theorem inV_kinds (w : Str) : inV (.str w) [V.str "proposal", V.str "prevote", V.str "precommit"] = (kdOf w).isSome := by
  unfold kdOf inV
  have e : ∀ x y : Str, eqV (.str x) (.str y) = decide (y = x) := fun x y => by
    show (x == y) = _
    by_cases h : y = x
    · rw [h, decide_eq_true rfl, beq_self_eq_true]
    · rw [decide_eq_false h]
      exact beq_eq_false_iff_ne.mpr fun z => h z.symm
  simp only [List.any_cons, List.any_nil, e, Bool.or_false]
  by_cases h1 : w = "proposal"
  · rw [h1]
    decide +kernel
  · by_cases h2 : w = "prevote"
    · rw [h2]
      decide +kernel
    · by_cases h3 : w = "precommit"
      · rw [h3]
        decide +kernel
      · simp [h1, h2, h3]
theorem s_prop (a : Kd) : a.s = ("proposal" : Str) ↔ a = .prop := by cases a <;> decide +kernel
theorem s_pre (a : Kd) : a.s = ("prevote" : Str) ↔ a = .pre := by cases a <;> decide +kernel
theorem s_com (a : Kd) : a.s = ("precommit" : Str) ↔ a = .com := by cases a <;> decide +kernel
theorem kd_s (k : Kd) : kdOf k.s = some k := by
  cases k <;> decide +kernel
theorem kd_of {w : Str} {k : Kd} (h : kdOf w = some k) : w = k.s := by
  unfold kdOf at h
  split at h
  · cases h
    assumption
  · split at h
    · cases h
      assumption
    · split at h
      · cases h
        assumption
      · cases h
/-- what is raised: the error of the class at C that keeps e as at -/
def ExR (C : Addr) (H : Hp) (E : XK) (e : Int) : Prop := ∀ d H', Same H H' → H' d = some (.xd [(("at" : Str), .int e)]) → E (.ref C) (some d) H'
def spAt (K : PySem.W.Frag) (C : Addr) (R : List Str → Nat → Except Int V) : Sp := fun vs H Q E => ∃ (W : Addr) (ws : List Str) (k : Nat), vs = [.ref W, .int k] ∧ H W = some (.lst (ws.map V.str)) ∧ ws.length ≤ 16777216 ∧ (∀ w ∈ ws, w.length ≤ 16777216) ∧ k ≤ 6 ∧
  (∀ e, R ws k = .error e → ExR C H E e) ∧ (∀ n, R ws k = .ok n → ∀ H', Same H H' → Q n H')
def mapE {α β : Type} (f : α → β) : Except Int α → Except Int β
  | .error e => .error e
  | .ok x => .ok (f x)
def spWordAt (K : PySem.W.Frag) (C : Addr) : Sp := spAt K C fun ws k => mapE V.str (wordAt ws k)
def spNumAt (K : PySem.W.Frag) (C : Addr) : Sp := spAt K C fun ws k => mapE V.int (numAt ws k)
def spKindAt (K : PySem.W.Frag) (C : Addr) : Sp := spAt K C fun ws k => mapE (fun d => V.str d.s) (kindAt ws k)
def spEndAt (K : PySem.W.Frag) (C : Addr) : Sp := spAt K C fun ws k => mapE (fun _ => V.non) (endAt ws k)
def spBlockAt (K : PySem.W.Frag) (C : Addr) : Sp := fun vs H Q E => ∃ (W : Addr) (ws : List Str) (k : Nat) (d : Kd), vs = [.ref W, .int k, .str d.s] ∧ H W = some (.lst (ws.map V.str)) ∧ ws.length ≤ 16777216 ∧ (∀ w ∈ ws, w.length ≤ 16777216) ∧ k ≤ 6 ∧
  (∀ e, blockAt ws k d = .error e → ExR C H E e) ∧ (∀ n, blockAt ws k d = .ok n → ∀ H', Same H H' → Q (oS n) H')
def spLeanAt (K : PySem.W.Frag) (C : Addr) : Sp := fun vs H Q E => ∃ (W : Addr) (ws : List Str) (k : Nat) (t : Int), vs = [.ref W, .int k, .int t] ∧ H W = some (.lst (ws.map V.str)) ∧ ws.length ≤ 16777216 ∧ (∀ w ∈ ws, w.length ≤ 16777216) ∧ k ≤ 6 ∧
  (∀ e, leanAt ws k t = .error e → ExR C H E e) ∧ (∀ n, leanAt ws k t = .ok n → ∀ H', Same H H' → Q (oI n) H')
def spIsNum (K : PySem.W.Frag) : Sp := fun vs H Q _ => ∃ w : Str, vs = [.str w] ∧ w.length ≤ 16777216 ∧ ∀ H', Same H H' → Q (.bl (numB w)) H'
def spIsBlk (K : PySem.W.Frag) : Sp := fun vs H Q _ => ∃ w : Str, vs = [.str w] ∧ w.length ≤ 16777216 ∧ ∀ H', Same H H' → Q (.bl (blkB w)) H'
def spProp (K : PySem.W.Frag) : Sp := fun vs H Q _ => ∃ (h t : Int) (b : Option Str), vs = [.int h, .int t, oS b] ∧ ∀ p H', Same H H' → SmAt H' p ⟨.prop, h, t, b, none⟩ → Q (.ref p) H'
def spPrec (K : PySem.W.Frag) : Sp := fun vs H Q _ => ∃ (h t : Int) (b : Option Str), vs = [.int h, .int t, oS b] ∧ ∀ p H', Same H H' → SmAt H' p ⟨.com, h, t, b, none⟩ → Q (.ref p) H'
def spPrev (K : PySem.W.Frag) : Sp := fun vs H Q _ => ∃ (h t : Int) (b : Option Str) (l : Option Int), vs = [.int h, .int t, oS b, oI l] ∧ ∀ p H', Same H H' → SmAt H' p ⟨.pre, h, t, b, l⟩ → Q (.ref p) H'
def spRead (K : PySem.W.Frag) (C : Addr) : Sp := fun vs H Q E => ∃ line : Str, vs = [.str line] ∧ line.length + 2 ≤ 16777216 ∧
  (∀ e, readL line = .error e → ExR C H E e) ∧ (∀ x, readL line = .ok x → ∀ p H', Same H H' → LtAt H' p x → Q (.ref p) H')
theorem at_err {α β : Type} {C : Addr} {H H1 : Hp} {E : XK} {r : Except Int α} {f : α → Except Int β} (s1 : Same H H1) (h : ∀ e, bindE r f = .error e → ExR C H E e) : ∀ e, r = .error e → ExR C H1 E e := fun e he => by
  rw [he] at h
  exact fun d H' s' hd => h e rfl d H' (s1.trans s') hd
theorem mapE_err {α β : Type} {g : α → β} {r : Except Int α} {e : Int} (h : mapE g r = .error e) : r = .error e := by
  cases r with
  | error e' => cases h; rfl
  | ok x => cases h
theorem mapE_ok {α β : Type} {g : α → β} {r : Except Int α} {y : β} (h : mapE g r = .ok y) : ∃ x, r = .ok x ∧ y = g x := by
  cases r with
  | error e' => cases h
  | ok x => cases h; exact ⟨x, rfl, rfl⟩

/-! ### what is written is read back -/
theorem tl_str {i : Int} (h0 : 0 ≤ i) : TL.tl (toString i : Str) = TL.numL i.toNat := by
  rw [tos_nat h0, TL.tl_num]
theorem numL_head : ∀ (n : Nat), 0 < n → (TL.numL n).head? ≠ some 48
  | n, h => by
    rcases Nat.lt_or_ge n 10 with z | z
    · rw [TL.numL_lt z]
      simp
      omega
    · rw [TL.numL_step z]
      have ih := numL_head (n / 10) (by omega)
      have ne := TL.numL_ne (n / 10)
      cases e : TL.numL (n / 10) with
      | nil => exact absurd e ne
      | cons c l =>
        rw [e] at ih
        exact ih
theorem num_str {i : Int} (h0 : 0 ≤ i) (h1 : i < 1000000000) : numB (toString i : Str) = true ∧ numV (toString i : Str) = i := by
  have e := tl_str h0
  refine ⟨?_, ?_⟩
  · unfold numB
    rw [e]
    have a1 : (TL.numL i.toNat).all isD = true := List.all_eq_true.mpr fun c hc => isD_iff.mpr (TL.numL_digits i.toNat c hc)
    have a3 : (TL.numL i.toNat).length ≤ 9 := TL.numL_len (by decide) (by omega)
    rw [a1, decide_eq_true (TL.numL_ne i.toNat), decide_eq_true a3, Bool.true_and, Bool.true_and, Bool.true_and, Bool.or_eq_true]
    rcases Nat.eq_zero_or_pos i.toNat with z | z
    · refine .inl (decide_eq_true ?_)
      have : i = 0 := by omega
      rw [this]
      decide +kernel
    · exact .inr (decide_eq_true (numL_head _ z))
  · unfold numV
    rw [e, TL.numL_val]
    omega
theorem num_free {i : Int} (h0 : 0 ≤ i) {c : Nat} (hc : c < 48 ∨ 57 < c) : c ∉ TL.tl (toString i : Str) := by
  rw [tl_str h0]
  exact TL.numL_free hc
theorem blk_free {x : Str} (h : blkB x = true) {c : Nat} (hc : isA c = false) : c ∉ TL.tl x := fun hm => by
  unfold blkB at h
  split at h
  · cases h
  · rename_i d l e
    simp only [Bool.and_eq_true, List.all_eq_true] at h
    rw [e] at hm
    have := h.2.2 c hm
    rw [hc] at this
    cases this
/-- a statement that a line may write -/
structure GoodM (m : Sm) : Prop where
  h0 : 0 ≤ m.h
  h1 : m.h < 1000000000
  t0 : 0 ≤ m.t
  t1 : m.t < 1000000000
  b : ∀ x, m.b = some x → blkB x = true
  bp : m.k = .prop → m.b ≠ none
  l : ∀ x, m.l = some x → 0 ≤ x ∧ x < m.t
  lk : m.k ≠ .pre → m.l = none
theorem blk_ok {x : Str} (h : blkB x = true) : x.length ≤ 60 ∧ PyData.strOk x = true := by
  unfold blkB at h
  split at h
  · cases h
  · rename_i d l e
    simp only [Bool.and_eq_true, List.all_eq_true, decide_eq_true_eq] at h
    refine ⟨by rw [TL.len_tl, e]; exact h.1, strOk_of fun c hc => ?_⟩
    rw [e] at hc
    have := of_decide_eq_true (h.2.2 c hc)
    have : ∀ c ∈ TL.tl "abcdefghijklmnopqrstuvwxyz0123456789", c < 1114112 := by decide +kernel
    exact this c (of_decide_eq_true (h.2.2 c hc))
theorem GoodM.small {m : Sm} (g : GoodM m) : SmallM m := by
  have hk : SmallV (.str m.k.s) := .inr (.inr ⟨_, rfl, by cases m.k <;> decide +kernel, ks_ok _⟩)
  have hh : SmallV (.int m.h) := .inr (.inl ⟨_, rfl, g.h0, g.h1⟩)
  have ht : SmallV (.int m.t) := .inr (.inl ⟨_, rfl, g.t0, g.t1⟩)
  have hb : SmallV (oS m.b) := by
    cases e : m.b with
    | none => exact .inl rfl
    | some x => exact .inr (.inr ⟨x, rfl, blk_ok (g.b x e)⟩)
  have hl : SmallV (oI m.l) := by
    cases e : m.l with
    | none => exact .inl rfl
    | some x =>
      have := g.l x e
      have := g.t1
      exact .inr (.inl ⟨x, rfl, by omega, by omega⟩)
  intro v hv
  obtain ⟨mk, mh, mt, mb, ml⟩ := m
  cases mk <;> simp only [Sm.vals, List.mem_cons, List.not_mem_nil, or_false] at hv <;> (rcases hv with rfl | rfl | rfl | rfl | rfl <;> assumption) <;> skip
theorem GoodM.ok {m : Sm} (g : GoodM m) : OkS m.b := fun x e => (blk_ok (g.b x e)).2
theorem dash_blk : blkB "-" = false := by decide +kernel
theorem dash_num : numB "-" = false := by decide +kernel
theorem ks_free (k : Kd) : 32 ∉ TL.tl k.s := by cases k <;> decide +kernel
theorem word_free {m : Sm} (g : GoodM m) : ∀ v ∈ m.vals, 32 ∉ TL.tl (wordV v) := by
  have hd : 32 ∉ TL.tl (wordV V.non) := by decide +kernel
  have hk : 32 ∉ TL.tl (wordV (.str m.k.s)) := ks_free m.k
  have hh : 32 ∉ TL.tl (wordV (.int m.h)) := num_free g.h0 (.inl (by decide))
  have ht : 32 ∉ TL.tl (wordV (.int m.t)) := num_free g.t0 (.inl (by decide))
  have hb : 32 ∉ TL.tl (wordV (oS m.b)) := by
    cases e : m.b with
    | none => exact hd
    | some x => exact blk_free (g.b x e) (by decide +kernel)
  have hl : 32 ∉ TL.tl (wordV (oI m.l)) := by
    cases e : m.l with
    | none => exact hd
    | some x => exact num_free (g.l x e).1 (.inl (by decide))
  intro v hv
  obtain ⟨mk, mh, mt, mb, ml⟩ := m
  cases mk <;> simp only [Sm.vals, List.mem_cons, List.not_mem_nil, or_false] at hv <;> (rcases hv with rfl | rfl | rfl | rfl | rfl <;> assumption) <;> skip
theorem line_words {who : Int} (w0 : 0 ≤ who) {m : Sm} (g : GoodM m) : Txt.split (lineS who m) " " = (toString who : Str) :: m.vals.map wordV := by
  unfold lineS
  refine TL.split_join (y := " ") (s := 32) (S := []) (by decide +kernel) (by decide +kernel) (List.cons_ne_nil _ _) fun p hp => ?_
  rcases List.mem_cons.mp hp with rfl | hp
  · exact num_free w0 (.inl (by decide))
  · obtain ⟨v, hv, rfl⟩ := List.mem_map.mp hp
    exact word_free g v hv
theorem wordAt_cons {x : Str} {ws : List Str} {k : Nat} : wordAt (x :: ws) (k + 1) = mapE id (match wordAt ws k with | .ok y => .ok y | .error e => .error (e + 1)) := by
  unfold wordAt
  by_cases h : k < ws.length
  · rw [if_pos h, if_pos (by simpa using h)]
    rfl
  · rw [if_neg h, if_neg (by simpa using h)]
    simp [mapE]
theorem wordAt_ok {ws : List Str} {k : Nat} {x : Str} (h : ws[k]? = some x) : wordAt ws k = .ok x := by
  have hk := (List.getElem?_eq_some_iff.mp h).1
  unfold wordAt
  rw [if_pos hk, List.getD_eq_getElem?_getD, h]
  rfl
theorem read_line {who : Int} (w0 : 0 ≤ who) (w1 : who < 1000000000) {m : Sm} (g : GoodM m) : readL (lineS who m) = .ok ⟨who, m⟩ := by
  unfold readL
  rw [line_words w0 g]
  have nw := num_str w0 w1
  have nh := num_str g.h0 g.h1
  have nt := num_str g.t0 g.t1
  obtain ⟨mk, mh, mt, mb, ml⟩ := m
  have lk := g.lk
  have bp := g.bp
  have gb := g.b
  have gl := g.l
  have t1 := g.t1
  dsimp only at nh nt lk bp gb gl t1
  have e0 : ∀ rest, numAt ((toString who : Str) :: rest) 0 = .ok who := fun rest => by
    unfold numAt
    rw [wordAt_ok (x := toString who) rfl]
    simp only [nw.1, nw.2, if_true]
  have e2 : ∀ a b rest, numAt (a :: b :: (toString mh : Str) :: rest) 2 = .ok mh := fun a b rest => by
    unfold numAt
    rw [wordAt_ok (x := toString mh) rfl]
    simp only [nh.1, nh.2, if_true]
  have e3 : ∀ a b c rest, numAt (a :: b :: c :: (toString mt : Str) :: rest) 3 = .ok mt := fun a b c rest => by
    unfold numAt
    rw [wordAt_ok (x := toString mt) rfl]
    simp only [nt.1, nt.2, if_true]
  have e1 : ∀ a (k : Kd) rest, kindAt (a :: k.s :: rest) 1 = .ok k := fun a k rest => by
    unfold kindAt
    rw [wordAt_ok (x := k.s) rfl]
    simp only [kd_s]
  have e4 : ∀ a b c d rest, blockAt (a :: b :: c :: d :: wordV (oS mb) :: rest) 4 mk = .ok mb := fun a b c d rest => by
    unfold blockAt
    rw [wordAt_ok (x := wordV (oS mb)) rfl]
    cases mb with
    | none => exact if_pos ⟨rfl, fun z => bp z rfl⟩
    | some x =>
      have hx := gb x rfl
      have nd : ¬ (x = "-" ∧ mk ≠ .prop) := fun z => by
        rw [z.1, dash_blk] at hx
        cases hx
      show (if x = "-" ∧ mk ≠ .prop then _ else if blkB x = true then _ else _) = _
      rw [if_neg nd, if_pos hx]
      rfl
  have e5 : ∀ a b c d e, leanAt [a, b, c, d, e, wordV (oI ml)] 5 mt = .ok ml := fun a b c d e => by
    unfold leanAt
    rw [wordAt_ok (x := wordV (oI ml)) rfl]
    cases ml with
    | none => exact if_pos rfl
    | some x =>
      have hx := gl x rfl
      have nx := num_str hx.1 (by omega)
      have nd : ¬ ((toString x : Str) = "-") := fun z => by
        rw [z, dash_num] at nx
        cases nx.1
      show (if (toString x : Str) = "-" then _ else if numB (toString x) = true then (if numV (toString x) < mt then _ else _) else _) = _
      rw [if_neg nd, if_pos nx.1, nx.2, if_pos hx.2]
      exact congrArg (fun z => Except.ok (some z)) nx.2
  cases mk with
  | pre =>
    have ew : (toString who : Str) :: (Sm.vals ⟨.pre, mh, mt, mb, ml⟩).map wordV = [(toString who : Str), Kd.pre.s, (toString mh : Str), (toString mt : Str), wordV (oS mb), wordV (oI ml)] := rfl
    rw [ew]
    unfold readW readEnd
    rw [e0, e1, e2, e3]
    simp only [bindE, e4]
    rw [if_pos trivial, e5]
    rfl
  | prop =>
    have ew : (toString who : Str) :: (Sm.vals ⟨.prop, mh, mt, mb, ml⟩).map wordV = [(toString who : Str), Kd.prop.s, (toString mh : Str), (toString mt : Str), wordV (oS mb)] := rfl
    rw [ew]
    unfold readW readEnd
    rw [e0, e1, e2, e3]
    simp only [bindE, e4]
    rw [if_neg (by decide), lk (by decide)]
    rfl
  | com =>
    have ew : (toString who : Str) :: (Sm.vals ⟨.com, mh, mt, mb, ml⟩).map wordV = [(toString who : Str), Kd.com.s, (toString mh : Str), (toString mt : Str), wordV (oS mb)] := rfl
    rw [ew]
    unfold readW readEnd
    rw [e0, e1, e2, e3]
    simp only [bindE, e4]
    rw [if_neg (by decide), lk (by decide)]
    rfl
/-! ### a journal restored -/
/-- the journal of the lines, or the index of the first invalid one -/
def resM (who : Int) : List Str → Nat → List Sm → Except Int (List Sm)
  | [], _, ms => .ok ms
  | l :: ls, n, ms => match readL l with
    | .error _ => if ls = [] then .ok ms else .error (n : Int)
    | .ok x => if x.w ≠ who ∨ memS ms x.m = true ∨ fcl ms x.m ms.length ≠ none then .error (n : Int) else resM who ls (n + 1) (ms ++ [x.m])
/-- no two of them clash, none is repeated -/
def Clean (ms : List Sm) : Prop := ∀ j, j < ms.length → memS (ms.take j) (ms.getD j default) = false ∧ fcl (ms.take j) (ms.getD j default) j = none
theorem resM_lines {who : Int} (w0 : 0 ≤ who) (w1 : who < 1000000000) (tail : List Str) : ∀ (ms : List Sm) (n : Nat) (acc : List Sm), (∀ m ∈ ms, GoodM m) → (∀ j, j < ms.length → memS (acc ++ ms.take j) (ms.getD j default) = false ∧ fcl (acc ++ ms.take j) (ms.getD j default) (acc.length + j) = none) →
    resM who (ms.map (lineS who) ++ tail) n acc = resM who tail (n + ms.length) (acc ++ ms)
  | [], n, acc, _, _ => by simp
  | m :: ms, n, acc, g, c => by
    have h0 := c 0 (Nat.succ_pos _)
    have e := read_line w0 w1 (g m List.mem_cons_self)
    have h1 : memS acc m = false := by simpa using h0.1
    have h2 : fcl acc m acc.length = none := by simpa using h0.2
    show resM who (lineS who m :: (ms.map (lineS who) ++ tail)) n acc = _
    rw [resM, e]
    show (if (⟨who, m⟩ : Lt).w ≠ who ∨ memS acc m = true ∨ fcl acc m acc.length ≠ none then _ else _) = _
    rw [if_neg (by simp [h1, h2]), resM_lines w0 w1 tail ms (n + 1) (acc ++ [m]) (fun y hy => g y (List.mem_cons_of_mem _ hy)) fun j hj => ?_]
    · simp [Nat.add_assoc, Nat.add_comm 1]
    · have := c (j + 1) (Nat.succ_lt_succ hj)
      simpa [Nat.add_assoc, Nat.add_comm 1] using this

theorem bindE_ok {α β : Type} {r : Except Int α} {f : α → Except Int β} {y : β} (h : bindE r f = .ok y) : ∃ x, r = .ok x ∧ f x = .ok y := by
  cases r with
  | error e => cases h
  | ok x => exact ⟨x, rfl, h⟩
theorem blockAt_ok {ws : List Str} {k : Nat} {d : Kd} {b : Option Str} (h : blockAt ws k d = .ok b) : (∀ x, b = some x → blkB x = true) ∧ (d = .prop → b ≠ none) := by
  unfold blockAt at h
  split at h
  · cases h
  · split at h
    · rename_i c
      cases h
      exact ⟨fun x z => (nomatch z), fun z => absurd z c.2⟩
    · split at h
      · rename_i c
        cases h
        exact ⟨fun x z => by cases z; exact c, fun _ z => nomatch z⟩
      · cases h
theorem digitsVal_lt : ∀ (l : List Nat) (a : Nat), (∀ c ∈ l, 48 ≤ c ∧ c ≤ 57) → l.foldl (fun acc c => acc * 10 + (c - 48)) a < (a + 1) * 10 ^ l.length
  | [], a, _ => by simp
  | c :: l, a, h => by
    have h1 := h c List.mem_cons_self
    have h2 := digitsVal_lt l (a * 10 + (c - 48)) fun d hd => h d (List.mem_cons_of_mem _ hd)
    rw [List.foldl_cons, List.length_cons, Nat.pow_succ]
    refine Nat.lt_of_lt_of_le h2 ?_
    rw [Nat.mul_comm (10 ^ l.length) 10, ← Nat.mul_assoc]
    exact Nat.mul_le_mul_right _ (by omega)
theorem numV_lt {w : Str} (h : numB w = true) : numV w < 1000000000 := by
  obtain ⟨h1, h2, h3⟩ := num_all h
  have := digitsVal_lt (TL.tl w) 0 h1
  have e : (10 : Nat) ^ (TL.tl w).length ≤ 10 ^ 9 := Nat.pow_le_pow_right (by decide) h3
  have v : numV w = (((TL.tl w).foldl (fun acc c => acc * 10 + (c - 48)) 0 : Nat) : Int) := rfl
  rw [v]
  omega
theorem numAt_ok {ws : List Str} {k : Nat} {n : Int} (h : numAt ws k = .ok n) : 0 ≤ n ∧ n < 1000000000 := by
  unfold numAt at h
  split at h
  · cases h
  · split at h
    · rename_i c
      cases h
      exact ⟨numV_nonneg _, numV_lt c⟩
    · cases h
theorem leanAt_ok {ws : List Str} {k : Nat} {t : Int} {l : Option Int} (h : leanAt ws k t = .ok l) : ∀ x, l = some x → 0 ≤ x ∧ x < t := by
  unfold leanAt at h
  split at h
  · cases h
  · split at h
    · cases h
      exact fun x z => nomatch z
    · split at h
      · split at h
        · rename_i c
          cases h
          exact fun x z => by cases z; exact ⟨numV_nonneg _, c⟩
        · cases h
      · cases h
theorem read_good {line : Str} {x : Lt} (h : readL line = .ok x) : GoodM x.m ∧ 0 ≤ x.w ∧ x.w < 1000000000 := by
  unfold readL readW at h
  obtain ⟨w, h1, h⟩ := bindE_ok h
  obtain ⟨k, h2, h⟩ := bindE_ok h
  obtain ⟨ht, h3, h⟩ := bindE_ok h
  obtain ⟨t, h4, h⟩ := bindE_ok h
  obtain ⟨b, h5, h⟩ := bindE_ok h
  have a3 := numAt_ok h3
  have a4 := numAt_ok h4
  have a5 := blockAt_ok h5
  unfold readEnd at h
  split at h
  · rename_i ek
    obtain ⟨l, h6, h⟩ := bindE_ok h
    obtain ⟨_, h7, h⟩ := bindE_ok h
    cases h
    exact ⟨⟨a3.1, a3.2, a4.1, a4.2, a5.1, fun z => (nomatch z), leanAt_ok h6, fun z => absurd rfl z⟩, numAt_ok h1⟩
  · rename_i ek
    obtain ⟨_, h7, h⟩ := bindE_ok h
    cases h
    exact ⟨⟨a3.1, a3.2, a4.1, a4.2, a5.1, a5.2, fun x z => (nomatch z), fun _ => rfl⟩, numAt_ok h1⟩
def spRestore (K : PySem.W.Frag) (CJ CE : Addr) : Sp := fun vs H Q E => ∃ (W : Addr) (who : Int) (ls : List Str), vs = [.int who, .ref W] ∧ H W = some (.lst (ls.map V.str)) ∧ ls.length ≤ 900 ∧ (∀ l ∈ ls, l.length + 2 ≤ 16777216) ∧
  (∀ e, resM who ls 0 [] = .error e → ExR CE H E e) ∧
  (∀ ms, resM who ls 0 [] = .ok ms → (∀ m ∈ ms, GoodM m) → ∀ (j L : Addr) (ps : List Addr) H', Same H H' → H j = none → H L = none → JAt CJ H' j who L → H' L = some (.lst (ps.map V.ref)) → SsAt H' ps ms → Q (.ref j) H')

/-! ### the law's own reader -/
def fitsM (ws : List Str) (at_ : Nat) : Bool :=
  if at_ = 0 ∨ at_ = 2 ∨ at_ = 3 then numB (ws.getD at_ "")
  else if at_ = 1 then (kdOf (ws.getD at_ "")).isSome
  else if at_ = 4 then (blkB (ws.getD at_ "") || (decide (ws.getD at_ "" = "-") && decide (ws.getD 1 "" ≠ "proposal")))
  else if at_ = 5 ∧ ws.getD 1 "" = "prevote" then (decide (ws.getD at_ "" = "-") || (numB (ws.getD at_ "") && decide (numV (ws.getD at_ "") < numV (ws.getD 3 ""))))
  else false
def fbM (ws : List Str) : Nat → Option Nat
  | 0 => none
  | n + 1 => match fbM ws n with
    | some k => some k
    | none => if fitsM ws n = true then none else some n
def countM (ws : List Str) : Nat := if ws.getD 1 "" = "prevote" ∧ 1 < ws.length then 6 else 5
def wrongM (ws : List Str) : Option Nat := match fbM ws ws.length with
  | some k => some k
  | none => if ws.length < countM ws then some ws.length else none
theorem fb_none {ws : List Str} : ∀ {n : Nat}, (∀ i, i < n → fitsM ws i = true) → fbM ws n = none
  | 0, _ => rfl
  | n + 1, h => by
    rw [fbM, fb_none fun i hi => h i (Nat.lt_succ_of_lt hi)]
    exact if_pos (h n (Nat.lt_succ_self n))
theorem fb_some {ws : List Str} {k : Nat} (h : ∀ i, i < k → fitsM ws i = true) (c : fitsM ws k = false) : ∀ d, fbM ws (k + 1 + d) = some k
  | 0 => by
    show fbM ws (k + 1) = _
    rw [fbM, fb_none h]
    exact if_neg (by rw [c]; exact Bool.false_ne_true)
  | d + 1 => by
    show fbM ws (k + 1 + d + 1) = _
    rw [fbM, fb_some h c d]
theorem wrong_at {ws : List Str} {k : Nat} (hk : k < ws.length) (h : ∀ i, i < k → fitsM ws i = true) (c : fitsM ws k = false) : wrongM ws = some k := by
  have := fb_some h c (ws.length - (k + 1))
  rw [Nat.add_sub_cancel' (by omega)] at this
  unfold wrongM
  rw [this]
theorem wrong_short {ws : List Str} (h : ∀ i, i < ws.length → fitsM ws i = true) (c : ws.length < countM ws) : wrongM ws = some ws.length := by
  unfold wrongM
  rw [fb_none h]
  exact if_pos c
theorem wrong_no {ws : List Str} (h : ∀ i, i < ws.length → fitsM ws i = true) (c : ¬ ws.length < countM ws) : wrongM ws = none := by
  unfold wrongM
  rw [fb_none h]
  exact if_neg c
/-- what the reader finds is what the law's own finds -/
def SameR (ws : List Str) (r : Except Int Lt) : Prop := match r with
  | .error e => ∃ k : Nat, e = k ∧ wrongM ws = some k
  | .ok _ => wrongM ws = none
theorem wordAt_get {ws : List Str} {k : Nat} (h : k < ws.length) : wordAt ws k = .ok (ws.getD k "") := if_pos h
theorem wordAt_no {ws : List Str} (h : ¬ k < ws.length) : wordAt ws k = .error (ws.length : Int) := if_neg h
theorem fits_step {ws : List Str} {k : Nat} (h : ∀ i, i < k → fitsM ws i = true) (c : fitsM ws k = true) : ∀ i, i < k + 1 → fitsM ws i = true := fun i hi => by
  rcases Nat.lt_or_ge i k with z | z
  · exact h i z
  · have : i = k := by omega
    rw [this]
    exact c
theorem count_ge (ws : List Str) : 5 ≤ countM ws := by
  unfold countM
  split <;> omega
theorem short_of {ws : List Str} {k : Nat} (hk : k < 5) (n : ¬ k < ws.length) (h : ∀ i, i < k → fitsM ws i = true) : wrongM ws = some ws.length :=
  wrong_short (fun i hi => h i (by omega)) (by have := count_ge ws; omega)
theorem num_step {ws : List Str} {k : Nat} (hk : k = 0 ∨ k = 2 ∨ k = 3) (h : ∀ i, i < k → fitsM ws i = true) : (∃ (e : Int) (z : Nat), numAt ws k = .error e ∧ e = z ∧ wrongM ws = some z) ∨ (∃ n, numAt ws k = .ok n ∧ fitsM ws k = true ∧ k < ws.length ∧ numB (ws.getD k "") = true ∧ n = numV (ws.getD k "")) := by
  have ef : fitsM ws k = numB (ws.getD k "") := by
    unfold fitsM
    rw [if_pos hk]
  unfold numAt
  by_cases hl : k < ws.length
  · rw [wordAt_get hl]
    cases q : numB (ws.getD k "") with
    | true => exact .inr ⟨_, if_pos q, ef.trans q, hl, rfl, rfl⟩
    | false => exact .inl ⟨_, k, if_neg (by rw [q]; exact Bool.false_ne_true), rfl, wrong_at hl h (ef.trans q)⟩
  · rw [wordAt_no hl]
    exact .inl ⟨_, _, rfl, rfl, short_of (by omega) hl h⟩
theorem same_read (ws : List Str) : SameR ws (readW ws) := by
  unfold readW
  rcases num_step (ws := ws) (k := 0) (.inl rfl) (fun i hi => absurd hi (Nat.not_lt_zero i)) with ⟨e, z, h1, h2, h3⟩ | ⟨w, h1, f0, l0, n0, v0⟩
  · rw [h1]
    exact ⟨z, h2, h3⟩
  rw [h1]
  have a0 := fits_step (fun i hi => absurd hi (Nat.not_lt_zero i)) f0
  show SameR ws (bindE (kindAt ws 1) _)
  have ef1 : fitsM ws 1 = (kdOf (ws.getD 1 "")).isSome := by unfold fitsM; rw [if_neg (by decide), if_pos rfl]
  by_cases l1 : 1 < ws.length
  case neg =>
    have : kindAt ws 1 = .error (ws.length : Int) := by unfold kindAt; rw [wordAt_no l1]
    rw [this]
    exact ⟨_, rfl, short_of (by decide) l1 a0⟩
  cases q1 : kdOf (ws.getD 1 "") with
  | none =>
    have : kindAt ws 1 = .error ((1 : Nat) : Int) := by unfold kindAt; rw [wordAt_get l1]; simp only [q1]
    rw [this]
    exact ⟨1, rfl, wrong_at l1 a0 (by rw [ef1, q1]; rfl)⟩
  | some kd =>
  have hk1 : kindAt ws 1 = .ok kd := by unfold kindAt; rw [wordAt_get l1]; simp only [q1]
  rw [hk1]
  have w1 := kd_of q1
  have a1 := fits_step a0 (by rw [ef1, q1]; rfl)
  show SameR ws (bindE (numAt ws 2) _)
  rcases num_step (ws := ws) (k := 2) (.inr (.inl rfl)) a1 with ⟨e, z, h1, h2, h3⟩ | ⟨ht, h2, f2, l2, n2, v2⟩
  · rw [h1]
    exact ⟨z, h2, h3⟩
  rw [h2]
  have a2 := fits_step a1 f2
  show SameR ws (bindE (numAt ws 3) _)
  rcases num_step (ws := ws) (k := 3) (.inr (.inr rfl)) a2 with ⟨e, z, h1, h2, h3⟩ | ⟨t, h3, f3, l3, n3, v3⟩
  · rw [h1]
    exact ⟨z, h2, h3⟩
  rw [h3]
  have a3 := fits_step a2 f3
  show SameR ws (bindE (blockAt ws 4 kd) _)
  have ef4 : fitsM ws 4 = (blkB (ws.getD 4 "") || (decide (ws.getD 4 "" = "-") && decide (ws.getD 1 "" ≠ "proposal"))) := by unfold fitsM; rw [if_neg (by decide), if_neg (by decide), if_pos rfl]
  by_cases l4 : 4 < ws.length
  case neg =>
    have : blockAt ws 4 kd = .error (ws.length : Int) := by unfold blockAt; rw [wordAt_no l4]
    rw [this]
    exact ⟨_, rfl, short_of (by decide) l4 a3⟩
  have eb : blockAt ws 4 kd = if ws.getD 4 "" = "-" ∧ kd ≠ .prop then .ok none else if blkB (ws.getD 4 "") = true then .ok (some (ws.getD 4 "")) else .error ((4 : Nat) : Int) := by unfold blockAt; rw [wordAt_get l4]
  have ep : (ws.getD 1 "" ≠ "proposal") ↔ kd ≠ .prop := by rw [w1]; exact not_congr (s_prop kd)
  have blk : (∃ b, blockAt ws 4 kd = .ok b ∧ fitsM ws 4 = true) ∨ (blockAt ws 4 kd = .error ((4 : Nat) : Int) ∧ fitsM ws 4 = false) := by
    rw [eb, ef4]
    by_cases c1 : ws.getD 4 "" = "-" ∧ kd ≠ .prop
    · rw [if_pos c1]
      refine .inl ⟨_, rfl, ?_⟩
      rw [decide_eq_true c1.1, decide_eq_true (ep.mpr c1.2)]
      simp
    · rw [if_neg c1]
      have c2 : (decide (ws.getD 4 "" = "-") && decide (ws.getD 1 "" ≠ "proposal")) = false := by
        cases q : (decide (ws.getD 4 "" = "-") && decide (ws.getD 1 "" ≠ "proposal")) with
        | false => rfl
        | true =>
          rw [Bool.and_eq_true, decide_eq_true_eq, decide_eq_true_eq] at q
          exact absurd ⟨q.1, ep.mp q.2⟩ c1
      rw [c2]
      cases q : blkB (ws.getD 4 "") with
      | true => exact .inl ⟨_, if_pos rfl, rfl⟩
      | false => exact .inr ⟨if_neg Bool.false_ne_true, rfl⟩
  rcases blk with ⟨b, h4, f4⟩ | ⟨h4, f4⟩
  case inr =>
    rw [h4]
    exact ⟨4, rfl, wrong_at l4 a3 f4⟩
  rw [h4]
  have a4 := fits_step a3 f4
  show SameR ws (readEnd ws w kd ht t b)
  unfold readEnd
  by_cases ek : kd = .pre
  · rw [if_pos ek]
    have wp : ws.getD 1 "" = "prevote" := by rw [w1, ek]; rfl
    have ec : countM ws = 6 := if_pos ⟨wp, l1⟩
    have ef5 : fitsM ws 5 = (decide (ws.getD 5 "" = "-") || (numB (ws.getD 5 "") && decide (numV (ws.getD 5 "") < numV (ws.getD 3 "")))) := by unfold fitsM; rw [if_neg (by decide), if_neg (by decide), if_neg (by decide), if_pos ⟨rfl, wp⟩]
    by_cases l5 : 5 < ws.length
    case neg =>
      have : leanAt ws 5 t = .error (ws.length : Int) := by unfold leanAt; rw [wordAt_no l5]
      rw [this]
      exact ⟨_, rfl, wrong_short (fun i hi => a4 i (by omega)) (by omega)⟩
    have el : leanAt ws 5 t = if ws.getD 5 "" = "-" then .ok none else if numB (ws.getD 5 "") = true then (if numV (ws.getD 5 "") < t then .ok (some (numV (ws.getD 5 ""))) else .error ((5 : Nat) : Int)) else .error ((5 : Nat) : Int) := by unfold leanAt; rw [wordAt_get l5]
    have ln : (∃ l, leanAt ws 5 t = .ok l ∧ fitsM ws 5 = true) ∨ (leanAt ws 5 t = .error ((5 : Nat) : Int) ∧ fitsM ws 5 = false) := by
      rw [el, ef5, ← v3]
      by_cases c1 : ws.getD 5 "" = "-"
      · rw [if_pos c1, decide_eq_true c1]
        exact .inl ⟨_, rfl, rfl⟩
      · rw [if_neg c1, decide_eq_false c1]
        cases q : numB (ws.getD 5 "") with
        | false => exact .inr ⟨if_neg Bool.false_ne_true, rfl⟩
        | true =>
          rw [if_pos rfl]
          by_cases c2 : numV (ws.getD 5 "") < t
          · rw [if_pos c2, decide_eq_true c2]
            exact .inl ⟨_, rfl, rfl⟩
          · rw [if_neg c2, decide_eq_false c2]
            exact .inr ⟨rfl, rfl⟩
    rcases ln with ⟨ln, h5, f5⟩ | ⟨h5, f5⟩
    case inr =>
      rw [h5]
      exact ⟨5, rfl, wrong_at l5 a4 f5⟩
    rw [h5]
    have a5 := fits_step a4 f5
    show SameR ws (bindE (endAt ws 6) _)
    by_cases l6 : 6 < ws.length
    · have : endAt ws 6 = .error ((6 : Nat) : Int) := if_pos l6
      rw [this]
      refine ⟨6, rfl, wrong_at l6 a5 ?_⟩
      unfold fitsM
      rw [if_neg (by decide), if_neg (by decide), if_neg (by decide), if_neg (fun z => absurd z.1 (by decide))]
    · have : endAt ws 6 = .ok () := if_neg l6
      rw [this]
      exact wrong_no (fun i hi => a5 i (by omega)) (by omega)
  · rw [if_neg ek]
    have wp : ¬ ws.getD 1 "" = "prevote" := fun z => ek ((s_pre kd).mp (w1.symm.trans z))
    have ec : countM ws = 5 := if_neg fun z => wp z.1
    by_cases l5 : 5 < ws.length
    · have : endAt ws 5 = .error ((5 : Nat) : Int) := if_pos l5
      rw [this]
      refine ⟨5, rfl, wrong_at l5 a4 ?_⟩
      unfold fitsM
      rw [if_neg (by decide), if_neg (by decide), if_neg (by decide), if_neg (fun z => wp z.2)]
    · have : endAt ws 5 = .ok () := if_neg l5
      rw [this]
      exact wrong_no (fun i hi => a4 i (by omega)) (by omega)

theorem join_len (y : Str) : ∀ parts : List Str, (Str.join y parts).length ≤ (parts.map (·.length)).sum + parts.length * y.length
  | [] => by show (Str.empty).length ≤ _; exact Nat.zero_le _
  | [x] => by
    show x.length ≤ _
    simp
  | x :: z :: r => by
    have h := join_len y (z :: r)
    have e : (Str.join y (x :: z :: r)).length = x.length + y.length + (Str.join y (z :: r)).length := by
      show ((x ++ y) ++ Str.join y (z :: r)).length = _
      rw [TL.len_tl, TL.tl_append, List.length_append, TL.tl_append, List.length_append, ← TL.len_tl, ← TL.len_tl, ← TL.len_tl]
    rw [e]
    simp only [List.map_cons, List.sum_cons, List.length_cons, Nat.add_mul, Nat.one_mul] at h ⊢
    omega
theorem line_len {who : Int} {m : Sm} (w0 : 0 ≤ who) (w1 : who < 1000000000) (h : SmallM m) : (lineS who m).length ≤ 1000 := by
  have l := vals_len m
  have s := sum_small (ys := (toString who : Str) :: m.vals.map wordV) fun y hy => by
    rcases List.mem_cons.mp hy with rfl | hy
    · exact (num_ok w0 w1).1
    · obtain ⟨v, hv, rfl⟩ := List.mem_map.mp hy
      exact (word_ok (h v hv)).1
  have e : (" " : Str).length = 1 := by decide +kernel
  unfold lineS
  rw [TL.join_eq]
  refine Nat.le_trans (join_len _ _) ?_
  simp only [List.length_cons, List.length_map] at s ⊢
  rw [e]
  omega
theorem op_mulS {X : Cx} : OpR X (binaryOp .Mult) (fun x y H Q => ∃ (z : Str) (n : Int), x = .str z ∧ y = .int n ∧ MulOk z n ∧ Q (.str (Txt.mul z n)) H) := by
  intro pins s σ H x y v u Q I rx ry h
  obtain ⟨z, n, rfl, rfl, ok, q⟩ := h
  obtain ⟨t, rfl⟩ := rx
  obtain ⟨t', rfl⟩ := ry
  exact SB.mul ok fun t2 k => ⟨.str _, H, I.kept (t' := k) fun _ _ z => z, ⟨_, rfl⟩, q⟩
def spCell (K : PySem.W.Frag) : Sp := fun vs H Q _ => ∃ (a : Addr) (ns : List Int) (k : Int), vs = [.ref a, .int k] ∧ SqL K H a (ns.map V.int) ∧ ns.length ≤ 63 ∧ 0 ≤ k ∧ Q (.int (ns.getD k.toNat 0)) H
def spIsInt (K : PySem.W.Frag) : Sp := fun vs H Q _ => ∃ i : Int, vs = [.int i] ∧ Q (.bl true) H
def spRow (K : PySem.W.Frag) : Sp := fun vs H Q _ => ∃ (cell count size : Int), vs = [.int cell, .int count, .int size] ∧ 0 ≤ count ∧ count ≤ 1000 ∧ 0 < size ∧ size < 1000 ∧
  ∀ p (row : List Int) H', Same H H' → H' p = some (.lst (row.map V.int)) → row.length = count.toNat → (∀ x ∈ row, 0 ≤ x ∧ x < size) → H p = none → Q (.ref p) H'
def spNum (K : PySem.W.Frag) : Sp := fun vs H Q _ => ∃ c : Int, vs = [.int c] ∧ ∀ z : Int, 0 ≤ z → z < 1000000000 → Q (.int z) H
def spName (K : PySem.W.Frag) : Sp := fun vs H Q _ => ∃ c : Int, vs = [.int c] ∧ ∀ (x : Str) H', Same H H' → blkB x = true → Q (.str x) H'
def spLetter (K : PySem.W.Frag) : Sp := fun vs H Q _ => ∃ c m : Int, vs = [.int c, .int m] ∧ ∀ p x H', Same H H' → LtAt H' p x → GoodM x.m → 0 ≤ x.w → x.w < 1000000000 → Q (.ref p) H'
def spFits (K : PySem.W.Frag) : Sp := fun vs H Q _ => ∃ (W : Addr) (ws : List Str) (k : Nat), vs = [.ref W, .int (k : Int)] ∧ H W = some (.lst (ws.map V.str)) ∧ k < ws.length ∧ (∀ w ∈ ws, w.length ≤ 16777216) ∧ (∀ i, i < k → fitsM ws i = true) ∧ ∀ H', Same H H' → Q (.bl (fitsM ws k)) H'
def natV : Option Nat → V
  | none => .non
  | some k => .int (k : Int)
def spWrong (K : PySem.W.Frag) : Sp := fun vs H Q _ => ∃ (W : Addr) (ws : List Str), vs = [.ref W] ∧ H W = some (.lst (ws.map V.str)) ∧ ws.length ≤ 16777216 ∧ (∀ w ∈ ws, w.length ≤ 16777216) ∧ (∀ w ∈ ws, PyData.strOk w = true) ∧ ∀ H', Same H H' → Q (natV (wrongM ws)) H'
def spValue (K : PySem.W.Frag) : Sp := fun vs H Q _ => ∃ (W : Addr) (ws : List Str) (x : Lt), vs = [.ref W] ∧ H W = some (.lst (ws.map V.str)) ∧ readW ws = .ok x ∧ (∀ w ∈ ws, w.length ≤ 16777216) ∧ ∀ p H', Same H H' → LtAt H' p x → Q (.ref p) H'
def spReads (K : PySem.W.Frag) : Sp := fun vs H Q _ => ∃ line : Str, vs = [.str line] ∧ line.length + 2 ≤ 16777216 ∧ PyData.strOk line = true ∧ ∀ H', Same H H' → Q (.bl true) H'
def spChanged (K : PySem.W.Frag) : Sp := fun vs H Q _ => ∃ (line : Str) (way : Int), vs = [.str line, .int way] ∧ 0 ≤ way ∧ line.length ≤ 1000 ∧ PyData.strOk line = true ∧ ∀ (y : Str) H', Same H H' → y.length ≤ 10000000 → PyData.strOk y = true → Q (.str y) H'
def spLaw (K : PySem.W.Frag) : Sp := fun vs H Q _ => ∃ (a : Addr) (ns : List Int), vs = [.ref a] ∧ SqL K H a (ns.map V.int) ∧ ns.length ≤ 63 ∧ ∀ H', Q (.bl true) H'
theorem digit_mem (c : Nat) : decide (c ∈ TL.tl "0123456789") = isD c := by
  have e : TL.tl "0123456789" = [48, 49, 50, 51, 52, 53, 54, 55, 56, 57] := by decide +kernel
  rw [e, Bool.eq_iff_iff, isD_iff]
  simp only [decide_eq_true_eq, List.mem_cons, List.not_mem_nil, or_false]
  omega
theorem sign_first : ∀ n : _root_.Fin 26, isL ((TL.tl "abcdefghijklmnopqrstuvwxyz0123456789").getD n.val 0) = true := by decide +kernel
theorem sign_any : ∀ n : _root_.Fin 36, isA ((TL.tl "abcdefghijklmnopqrstuvwxyz0123456789").getD n.val 0) = true := by decide +kernel
theorem sign_len : (TL.tl "abcdefghijklmnopqrstuvwxyz0123456789").length = 36 := by decide +kernel
theorem sign_at {i : Int} (h0 : 0 ≤ i) (h1 : i < 36) : atI (Str.cps "abcdefghijklmnopqrstuvwxyz0123456789").toList i = some ((TL.tl "abcdefghijklmnopqrstuvwxyz0123456789").getD i.toNat 0) := by
  have e : i = (i.toNat : Int) := by omega
  rw [e]
  refine atI_nat ?_
  rw [Int.toNat_natCast]
  show (TL.tl "abcdefghijklmnopqrstuvwxyz0123456789")[i.toNat]? = _
  rw [List.getD_eq_getElem?_getD, List.getElem?_eq_getElem (by rw [sign_len]; omega)]
  rfl
theorem cut12 : ∀ xs : List V, cutV xs (some 1) (some 2) = (xs.drop 1).take 1
  | [] => rfl
  | [_] => rfl
  | a :: b :: r => by
    have e1 : HT.sIx (a :: b :: r).length 0 (some 1) = 1 := by
      show (if (1 : Int) < 0 then ((1 : Int) + ((a :: b :: r).length : Int)).toNat else min (1 : Int).toNat (a :: b :: r).length) = 1
      rw [if_neg (by decide)]
      simp
    have e2 : HT.sIx (a :: b :: r).length (a :: b :: r).length (some 2) = 2 := by
      show (if (2 : Int) < 0 then ((2 : Int) + ((a :: b :: r).length : Int)).toNat else min (2 : Int).toNat (a :: b :: r).length) = 2
      rw [if_neg (by decide)]
      simp
    unfold cutV
    rw [e1, e2]
theorem eqv_one (x y : Str) : PyData.eqv (.list [.str x]) (.list [.str y]) = decide (x = y) := by
  simp [PyData.eqv, PyData.eqvAll]
  rfl
theorem eqv_no (y : Str) : PyData.eqv (.list []) (.list [.str y]) = false := by
  simp [PyData.eqv, PyData.eqvAll]
theorem drop1 {ws : List Str} : (ws.drop 1).take 1 = if 1 < ws.length then [ws.getD 1 ""] else [] := by
  match ws with
  | [] => rfl
  | [_] => rfl
  | a :: b :: r => simp
/-- what the words of a line that is read are -/
structure RWd (ws : List Str) (x : Lt) : Prop where
  n0 : numB (ws.getD 0 "") = true
  v0 : x.w = numV (ws.getD 0 "")
  k1 : ws.getD 1 "" = x.m.k.s
  n2 : numB (ws.getD 2 "") = true
  v2 : x.m.h = numV (ws.getD 2 "")
  n3 : numB (ws.getD 3 "") = true
  v3 : x.m.t = numV (ws.getD 3 "")
  b4 : (ws.getD 4 "" = "-" ∧ x.m.b = none) ∨ (¬ ws.getD 4 "" = "-" ∧ x.m.b = some (ws.getD 4 ""))
  pre : x.m.k = .pre → ws.length = 6 ∧ ((ws.getD 5 "" = "-" ∧ x.m.l = none) ∨ (¬ ws.getD 5 "" = "-" ∧ numB (ws.getD 5 "") = true ∧ x.m.l = some (numV (ws.getD 5 ""))))
  oth : x.m.k ≠ .pre → ws.length = 5
theorem wordAt_yes {ws : List Str} {k : Nat} {y : Str} (h : wordAt ws k = .ok y) : k < ws.length ∧ y = ws.getD k "" := by
  unfold wordAt at h
  split at h
  · cases h
    exact ⟨by assumption, rfl⟩
  · cases h
theorem numAt_yes {ws : List Str} {k : Nat} {n : Int} (h : numAt ws k = .ok n) : k < ws.length ∧ numB (ws.getD k "") = true ∧ n = numV (ws.getD k "") := by
  unfold numAt at h
  split at h
  · cases h
  · rename_i y e
    obtain ⟨a1, a2⟩ := wordAt_yes e
    split at h
    · rename_i c
      cases h
      rw [← a2]
      exact ⟨a1, c, rfl⟩
    · cases h
theorem read_words {ws : List Str} {x : Lt} (h : readW ws = .ok x) : RWd ws x := by
  unfold readW at h
  obtain ⟨w, h1, h⟩ := bindE_ok h
  obtain ⟨k, h2, h⟩ := bindE_ok h
  obtain ⟨ht, h3, h⟩ := bindE_ok h
  obtain ⟨t, h4, h⟩ := bindE_ok h
  obtain ⟨b, h5, h⟩ := bindE_ok h
  have a1 := numAt_yes h1
  have a3 := numAt_yes h3
  have a4 := numAt_yes h4
  have a2 : ws.getD 1 "" = k.s := by
    unfold kindAt at h2
    split at h2
    · cases h2
    · rename_i y e
      obtain ⟨_, e2⟩ := wordAt_yes e
      split at h2
      · rename_i d e3
        cases h2
        rw [← e2]
        exact kd_of e3
      · cases h2
  have a5 : 4 < ws.length ∧ ((ws.getD 4 "" = "-" ∧ b = none) ∨ (¬ ws.getD 4 "" = "-" ∧ b = some (ws.getD 4 ""))) := by
    unfold blockAt at h5
    split at h5
    · cases h5
    · rename_i y e
      obtain ⟨l4, e2⟩ := wordAt_yes e
      rw [← e2]
      refine ⟨l4, ?_⟩
      split at h5
      · rename_i c
        cases h5
        exact .inl ⟨c.1, rfl⟩
      · split at h5
        · rename_i c
          cases h5
          refine .inr ⟨fun z => ?_, rfl⟩
          rw [z, dash_blk] at c
          cases c
        · cases h5
  unfold readEnd at h
  split at h
  · rename_i ek
    obtain ⟨l, h6, h⟩ := bindE_ok h
    obtain ⟨_, h7, h⟩ := bindE_ok h
    have l7 : ¬ 6 < ws.length := by
      unfold endAt at h7
      split at h7
      · cases h7
      · assumption
    have a6 : 5 < ws.length ∧ ((ws.getD 5 "" = "-" ∧ l = none) ∨ (¬ ws.getD 5 "" = "-" ∧ numB (ws.getD 5 "") = true ∧ l = some (numV (ws.getD 5 "")))) := by
      unfold leanAt at h6
      split at h6
      · cases h6
      · rename_i y e
        obtain ⟨l5, e2⟩ := wordAt_yes e
        rw [← e2]
        refine ⟨l5, ?_⟩
        split at h6
        · rename_i c
          cases h6
          exact .inl ⟨c, rfl⟩
        · rename_i nd
          split at h6
          · rename_i c
            split at h6
            · cases h6
              exact .inr ⟨nd, c, rfl⟩
            · cases h6
          · cases h6
    cases h
    subst ek
    exact ⟨a1.2.1, a1.2.2, a2, a3.2.1, a3.2.2, a4.2.1, a4.2.2, a5.2, fun _ => ⟨by omega, a6.2⟩, fun z => absurd rfl z⟩
  · rename_i ek
    obtain ⟨_, h7, h⟩ := bindE_ok h
    have l7 : ¬ 5 < ws.length := by
      unfold endAt at h7
      split at h7
      · cases h7
      · assumption
    cases h
    exact ⟨a1.2.1, a1.2.2, a2, a3.2.1, a3.2.2, a4.2.1, a4.2.2, a5.2, fun z => absurd z ek, fun _ => by omega⟩
theorem num_dash {w : Str} (h : numB w = true) : ¬ w = "-" := fun z => by
  rw [z, dash_num] at h
  cases h
theorem ks_dash (k : Kd) : ¬ k.s = ("-" : Str) := by cases k <;> decide +kernel
theorem val_at {ws : List Str} {x : Lt} (R : RWd ws x) {i : Nat} (hi : i < x.m.vals.length) :
    (ws.getD (i + 1) "" = "-" → x.m.vals[i]? = some .non) ∧ (¬ ws.getD (i + 1) "" = "-" → (i = 0 ∨ i = 3) → x.m.vals[i]? = some (.str (ws.getD (i + 1) ""))) ∧
    (¬ ws.getD (i + 1) "" = "-" → ¬ (i = 0 ∨ i = 3) → numB (ws.getD (i + 1) "") = true ∧ x.m.vals[i]? = some (.int (numV (ws.getD (i + 1) "")))) := by
  have l5 := vals_len x.m
  have g0 : x.m.vals[0]? = some (.str x.m.k.s) := by
    obtain ⟨xw, ⟨mk, mh, mt, mb, ml⟩⟩ := x
    cases mk <;> rfl
  have g1 : x.m.vals[1]? = some (.int x.m.h) := by
    obtain ⟨xw, ⟨mk, mh, mt, mb, ml⟩⟩ := x
    cases mk <;> rfl
  have g2 : x.m.vals[2]? = some (.int x.m.t) := by
    obtain ⟨xw, ⟨mk, mh, mt, mb, ml⟩⟩ := x
    cases mk <;> rfl
  have g3 : x.m.vals[3]? = some (oS x.m.b) := by
    obtain ⟨xw, ⟨mk, mh, mt, mb, ml⟩⟩ := x
    cases mk <;> rfl
  have g4 : 4 < x.m.vals.length → x.m.k = .pre ∧ x.m.vals[4]? = some (oI x.m.l) := by
    obtain ⟨xw, ⟨mk, mh, mt, mb, ml⟩⟩ := x
    cases mk
    · intro z
      exact absurd z (by show ¬ 4 < 4; decide)
    · intro _
      exact ⟨rfl, rfl⟩
    · intro z
      exact absurd z (by show ¬ 4 < 4; decide)
  rcases (show i = 0 ∨ i = 1 ∨ i = 2 ∨ i = 3 ∨ i = 4 by omega) with rfl | rfl | rfl | rfl | rfl
  · have e := R.k1
    exact ⟨fun z => absurd (e.symm.trans z) (ks_dash _), fun _ _ => by rw [g0, ← e], fun _ z => absurd (.inl rfl) z⟩
  · exact ⟨fun z => absurd z (num_dash R.n2), fun _ z => absurd z (by decide), fun _ _ => ⟨R.n2, by rw [g1, R.v2]⟩⟩
  · exact ⟨fun z => absurd z (num_dash R.n3), fun _ z => absurd z (by decide), fun _ _ => ⟨R.n3, by rw [g2, R.v3]⟩⟩
  · refine ⟨fun z => ?_, fun z _ => ?_, fun _ z => absurd (.inr rfl) z⟩
    · rcases R.b4 with ⟨_, e⟩ | ⟨y, _⟩
      · rw [g3, e]
        rfl
      · exact absurd z y
    · rcases R.b4 with ⟨y, _⟩ | ⟨_, e⟩
      · exact absurd y z
      · rw [g3, e]
        rfl
  · obtain ⟨ek, eg⟩ := g4 hi
    refine ⟨fun z => ?_, fun _ z => absurd z (by decide), fun z _ => ?_⟩
    · rcases (R.pre ek).2 with ⟨_, e⟩ | ⟨y, _⟩
      · rw [eg, e]
        rfl
      · exact absurd z y
    · rcases (R.pre ek).2 with ⟨y, _⟩ | ⟨_, n, e⟩
      · exact absurd y z
      · exact ⟨n, by rw [eg, e]; rfl⟩
theorem in_joinL {S : List Nat} {c : Nat} {p : List Nat} : ∀ {parts : List (List Nat)}, p ∈ parts → c ∈ p → c ∈ TL.joinL S parts
  | [x], h, hc => by
    rw [List.mem_singleton.mp h] at hc
    exact hc
  | x :: z :: r, h, hc => by
    show c ∈ x ++ (S ++ TL.joinL S (z :: r))
    rcases List.mem_cons.mp h with rfl | h
    · exact List.mem_append_left _ hc
    · exact List.mem_append_right _ (List.mem_append_right _ (in_joinL h hc))
theorem strOk_all {x : Str} (h : PyData.strOk x = true) : ∀ c ∈ TL.tl x, c < 1114112 := fun c hc => by
  unfold PyData.strOk at h
  rw [← Array.all_toList] at h
  exact of_decide_eq_true (List.all_eq_true.mp h c hc)
theorem split_ok {line y : Str} (h : PyData.strOk line = true) : ∀ w ∈ Txt.split line y, PyData.strOk w = true := fun w hw => by
  refine strOk_of fun c hc => ?_
  have e := congrArg TL.tl (PySem.StrLaws.join_split line y)
  rw [TL.tl_join] at e
  refine strOk_all h c ?_
  rw [← e]
  exact in_joinL (List.mem_map.mpr ⟨w, hw, rfl⟩) hc
def strangeA : List Str := ["", "-", "01", "1234567890", "A", "a-b", Txt.mul "a" 61, "proposal", "-1", "prevote", "5", "0", "x"]
def strangeB : List Str := ["1_0", "+5", "0x1"]
def strangeL : List Str := strangeA ++ strangeB
theorem strange_ok : (strangeL.all fun z => decide (z.length ≤ 100) && PyData.strOk z) = true := by decide +kernel
theorem strange_len : strangeL.length = 16 := rfl
theorem strange_at {i : Int} (h0 : 0 ≤ i) (h1 : i < 16) : ∃ z : Str, atI (strangeL.map V.str) i = some (.str z) ∧ z.length ≤ 100 ∧ PyData.strOk z = true := by
  have hi : i.toNat < strangeL.length := by rw [strange_len]; omega
  have m := List.all_eq_true.mp strange_ok _ (getD_mem2 (d := ("" : Str)) hi)
  rw [Bool.and_eq_true, decide_eq_true_eq] at m
  refine ⟨strangeL.getD i.toNat "", ?_, m.1, m.2⟩
  have e : i = (i.toNat : Int) := by omega
  rw [e]
  refine atI_nat ?_
  rw [Int.toNat_natCast, List.getElem?_map, List.getD_eq_getElem?_getD, List.getElem?_eq_getElem hi]
  rfl
theorem mul_ok : MulOk "a" 61 := by
  refine ⟨by decide, fun _ _ => ?_, fun _ _ => ?_⟩ <;> decide +kernel
theorem sum_big {ys : List Str} (h : ∀ y ∈ ys, y.length ≤ 1000) : (ys.map (·.length)).sum ≤ 1000 * ys.length := by
  induction ys with
  | nil => simp
  | cons y ys ih =>
    have a1 := h y List.mem_cons_self
    have a2 := ih fun z hz => h z (List.mem_cons_of_mem _ hz)
    simp only [List.map_cons, List.sum_cons, List.length_cons]
    omega
/-- words that are short and few, joined -/
theorem joined {ys : List Str} (h : ∀ y ∈ ys, y.length ≤ 1000 ∧ PyData.strOk y = true) (n : ys.length ≤ 2000) :
    (ys.map (·.length)).sum + ys.length * (" " : Str).length ≤ 16777216 ∧ (Txt.join " " ys).length ≤ 10000000 ∧ PyData.strOk (Txt.join " " ys) = true := by
  have e : (" " : Str).length = 1 := by decide +kernel
  have s := sum_big fun y hy => (h y hy).1
  refine ⟨by rw [e]; omega, ?_, ?_⟩
  · rw [TL.join_eq]
    refine Nat.le_trans (join_len _ _) ?_
    rw [e]
    omega
  · rw [TL.join_eq]
    exact strOk_join (by decide +kernel) fun y hy => (h y hy).2
theorem strs_cat {xs ys : List Str} : xs.map V.str ++ ys.map V.str = (xs ++ ys).map V.str := (List.map_append ..).symm
theorem cutV_take' {xs : List Str} {i : Nat} : cutV (xs.map V.str) none (some (i : Int)) = (xs.take i).map V.str := by
  have e1 : HT.sIx (xs.map V.str).length (xs.map V.str).length (some (i : Int)) = min i (xs.map V.str).length := by
    show (if (i : Int) < 0 then ((i : Int) + ((xs.map V.str).length : Int)).toNat else min (i : Int).toNat (xs.map V.str).length) = _
    rw [if_neg (by omega), Int.toNat_natCast]
  unfold cutV
  rw [e1]
  show ((xs.map V.str).drop 0).take (min i (xs.map V.str).length - 0) = _
  rw [List.drop_zero, Nat.sub_zero, ← List.map_take]
  rcases Nat.le_total i xs.length with q | q
  · rw [List.length_map, Nat.min_eq_left q]
  · rw [List.length_map, Nat.min_eq_right q, List.take_of_length_le (Nat.le_refl _), List.take_of_length_le q]
theorem cutV_drop' {xs : List Str} {i : Nat} : cutV (xs.map V.str) (some (i : Int)) none = (xs.drop i).map V.str := by
  have e1 : HT.sIx (xs.map V.str).length 0 (some (i : Int)) = min i (xs.map V.str).length := by
    show (if (i : Int) < 0 then ((i : Int) + ((xs.map V.str).length : Int)).toNat else min (i : Int).toNat (xs.map V.str).length) = _
    rw [if_neg (by omega), Int.toNat_natCast]
  unfold cutV
  rw [e1]
  show ((xs.map V.str).drop (min i (xs.map V.str).length)).take ((xs.map V.str).length - min i (xs.map V.str).length) = _
  rw [← List.map_drop, ← List.map_take, List.length_map]
  rcases Nat.le_total i xs.length with q | q
  · rw [Nat.min_eq_left q, List.take_of_length_le (by rw [List.length_drop]; exact Nat.le_refl _)]
  · rw [Nat.min_eq_right q, List.drop_of_length_le (Nat.le_refl _), List.drop_of_length_le q, List.take_nil]

section
local macro_rules | `(tactic| walk_at "r1") => `(tactic| first
  | refine ⟨_, rfl, ?_⟩
  | refine ⟨_, _, rfl, rfl, (by show (0 : Int) < _; first | decide | omega), ?_⟩
  | refine ⟨_, _, rfl, rfl, (show CDiv _ _ from ⟨by decide, by decide⟩), ?_⟩
  | refine ⟨_, _, rfl, rfl, (show CMul _ _ from .inl ⟨by decide, by decide⟩), ?_⟩
  | refine ⟨_, _, rfl, rfl, (show CMul _ _ from .inr ⟨by decide, by decide⟩), ?_⟩
  | refine ⟨_, _, rfl, rfl, (show CPow _ _ from ⟨by decide, by decide, by decide⟩), ?_⟩
  | refine ⟨_, _, rfl, rfl, ?_⟩
  | refine ⟨_, _, _, _, rfl, rfl, SqT.of (by assumption), by first | exact at0 _ | exact at1 _ | exact at2 _ | exact at3 _ | exact at4 _ (by assumption), ?_⟩
  | refine ⟨scal_oS _ _, ?_⟩
  | refine .inl ⟨_, rfl, ?_⟩
  | refine ⟨rfl, ?_⟩)
local macro_rules | `(tactic| walk_at "rs") => `(tactic| repeat walk_at "r1")

variable {P : Program} {w : World} {K : PySem.W.Frag} {mg : Str → Option Value} {base : Heap} {a : Ads}
theorem getD_mem {zs : List Int} {i : Nat} (h : i < zs.length) : zs.getD i 0 ∈ zs := by
  rw [List.getD_eq_getElem?_getD, List.getElem?_eq_getElem h]
  exact List.getElem_mem h
theorem at_ints {zs : List Int} {i : Nat} (h : i < zs.length) : (zs.map V.int)[i]? = some (.int (zs.getD i 0)) := by
  rw [List.getElem?_map, List.getD_eq_getElem?_getD, List.getElem?_eq_getElem h]
  rfl

theorem ok_word (T : Txt K mg a) : ∃ fd, FnOk P w K mg base CX0 1 a.d_word fd ["part"] (spWord K) ∧ Binds K fd ["part"] [] := by
  obtain ⟨fd, F, b⟩ := T.d_word.F
  refine ⟨fd, F.ok sc_word (fun vs H Q E h => ?_) (fun cdv A outer s H vs Q E hr h => ?_), b⟩
  · obtain ⟨_, rfl, _⟩ := h
    rfl
  · obtain ⟨v, rfl, hv, k⟩ := h
    refine ⟨_, (pss_cons (ps_if (pt_cmpR op_isN (pv 0) pe_non (nomark _))
      (pss_one (ps_ret (pe_glob (v := (.str "-")) rfl T.c_NONE.choose_spec ⟨_, rfl⟩)))
      pss_nil)
      (pss_one (ps_ret (pe_callTy cr_strA (by rfl) T.n_str (by decide +kernel) (pa_cons (pv 0) pa_nil))))), ?_⟩
    rcases hv with rfl | ⟨i, rfl, h0, h1⟩ | ⟨x, rfl, hx⟩
    · walk_at "rs"
      exact k
    · walk_at "rs"
      exact ⟨log_small (by omega) (by omega), k⟩
    · walk_at "rs"
      exact .inr ⟨x, rfl, k⟩
theorem ok_letter_line (T : Txt K mg a) : ∃ fd, FnOk P w K mg base CX0 2 a.d_letter_line fd ["letter"] (spLine K) ∧ Binds K fd ["letter"] [] := by
  obtain ⟨fd, F, b⟩ := T.d_letter_line.F
  obtain ⟨fd_word, G_word, b_word⟩ := ok_word (P := P) (w := w) (base := base) T
  refine ⟨fd, F.ok sc_letter_line (fun vs H Q E h => ?_) (fun cdv A outer s H vs Q E hr h => ?_), b⟩
  · obtain ⟨_, _, rfl, _⟩ := h
    rfl
  · obtain ⟨t, x, rfl, hx, w0, w1, hs, k⟩ := h
    obtain ⟨q, hp, hq⟩ := id hx
    have hq' : H q = some (.tup x.m.vals) := hq
    have l5 := vals_len x.m
    refine ⟨_, (pss_cons (ps_asg (pv 0) (pg_tup rfl (pgs_cons (pg_name (i := 1) sc_letter_line.nd rfl (Or.inl rfl)) (pgs_cons (pg_name (i := 2) sc_letter_line.nd rfl (Or.inl rfl)) pgs_nil))))
      (pss_one (ps_ret (pe_join pe_str (pe_op op_cat (pe_lst (pa_cons (pe_callTy cr_strA (by rfl) T.n_str (by decide +kernel) (pa_cons (pv 1) pa_nil)) pa_nil)) (pe_lc (own := [("part", 3)]) (g := (gName 3)) (tt := tYes) rfl sc_letter_line.nd (pi_tup (pv 2)) (blkOk_by (own := [("part", 3)]) (N := sc_letter_line_N) (sc := defScope s_letter_line) (by decide +kernel)) (fun _ _ _ _ _ => (pg_name (i := 3) sc_letter_line.nd rfl (Or.inl rfl))) (fun _ _ _ _ _ => pts_nil) (fun _ _ _ _ _ => (pe_call G_word (hr.mono (by decide)) rfl T.d_word.g T.d_word.kp b_word .nil pass0 (pa_cons (pv 3) pa_nil))))))))), ?_⟩
    walk_at "rs"
    refine ⟨_, _, rfl, SqT.of hp, rfl, _, _, rfl, _, _, rfl, rfl, ?_⟩
    walk_at "rs"
    refine ⟨⟨_, rfl⟩, ?_⟩
    walk_at "rs"
    refine ⟨log_small (by omega) (by omega), ?_⟩
    refine ⟨(by show 1 ≤ sizeLine; decide), fun l1 hl1 => ?_⟩
    have s1 := same_new (o := .lst [V.str (toString x.w)]) hl1
    have h1 := (upd_same : (upd H l1 (.lst [V.str (toString x.w)])) l1 = _)
    generalize upd H l1 (.lst [V.str (toString x.w)]) = H1 at s1 h1 ⊢
    walk_at "rs"
    refine ⟨⟨_, SqT.of (s1 _ _ hq')⟩, fun D hD => ?_⟩
    refine lc_tup (K := K) (a := q) (xs := x.m.vals) (fun i H2 => Same H1 H2 ∧ H2 D = some (.lst (((x.m.vals.take i).map wordV).map V.str))) ⟨same_new hD, by rw [upd_same]; simp⟩ (fun i H2 _ ⟨s2, _⟩ => SqT.of (s2 _ _ (s1 _ _ hq'))) ?_ ?_
    · rintro i y H2 hy ⟨s2, hd⟩
      have hi : i < x.m.vals.length := (List.getElem?_eq_some_iff.mp hy).1
      have et : x.m.vals.take (i + 1) = x.m.vals.take i ++ [y] := by rw [List.take_add_one, hy]; rfl
      have hsy := hs y (List.mem_of_getElem? hy)
      refine ⟨rfl, ?_⟩
      walk_at "rs"
      refine ⟨hsy, ?_⟩
      refine ⟨_, hd, by rw [List.length_map, List.length_map, List.length_take]; exact small1000 (by omega), same_upd s2 hD, ?_⟩
      rw [upd_same, et]
      simp
    · rintro H2 ⟨s2, hd⟩
      rw [List.take_length] at hd
      have fit := join_fit (who := x.w) w0 w1 hs
      refine ⟨l1, D, _, _, rfl, rfl, s2 _ _ h1, hd, by rw [List.length_map, List.length_map, sizeLine_eq]; simp; omega, fun l3 hl3 => ?_⟩
      have s3 := same_new (o := .lst ([V.str (toString x.w)] ++ (x.m.vals.map wordV).map V.str)) hl3
      refine ⟨_, l3, (toString x.w : Str) :: x.m.vals.map wordV, rfl, rfl, .inl (SqL.of upd_same), fit, ?_⟩
      exact k _ ((s1.trans s2).trans s3)

theorem at_strs {ws : List Str} {k : Nat} (h : k < ws.length) : atI (ws.map V.str) (k : Int) = some (.str (ws.getD k "")) := atI_nat (by
  rw [List.getElem?_map, List.getD_eq_getElem?_getD, List.getElem?_eq_getElem h]
  rfl)
theorem msgL (i : Int) (h0 : 0 ≤ i) (h1 : i < 1000000000) : (((Str.empty ++ ("no right word at index " : Str)) ++ (toString i : Str)) : Str).length ≤ 1000 := by
  have a := (num_ok h0 h1).1
  have e : (((Str.empty ++ ("no right word at index " : Str)) ++ (toString i : Str)) : Str).length = (Str.empty ++ ("no right word at index " : Str)).length + (toString i : Str).length := by
    rw [TL.len_tl, TL.tl_append, List.length_append, ← TL.len_tl, ← TL.len_tl]
  rw [e]
  have c : (Str.empty ++ ("no right word at index " : Str)).length = 23 := by decide +kernel
  omega
theorem ok_BadLine_init (TE : TxtE P K mg a) (T : Txt K mg a) : ∃ fd, FnOk P w K mg base CX0 1 a.d_BadLine_init fd ["self", "at"] (spSup a.C_BadLine "at" fun v => ∃ i : Int, v = .int i ∧ 0 ≤ i ∧ i < 1000000000) ∧ Binds K fd ["self", "at"] [] := by
  obtain ⟨fd, S, b⟩ := TE.sup_BadLine
  have T0 : SupTxt "at" "at" s_BadLine_init _ _ _ _ _ _ _ _ _ _ := ⟨rfl, rfl, rfl, rfl, rfl, rfl, rfl, rfl, by decide +kernel, ⟨_, rfl, rfl⟩⟩
  refine ⟨fd, ok_sup S T0 (by decide +kernel) (by decide) (by decide) T.n_super ?_ (fun _ => rfl) (fun _ _ _ _ => rfl) (fun _ _ _ _ => rfl) (fun _ _ _ _ => rfl) _ (fun _ => rfl), b⟩
  rintro cd cc A outer s H E e v ⟨i, rfl, i0, i1⟩
  refine ⟨_, pa_cons (pe_joined (.cons pe_str (.cons (pe_fmt (pv 1)) .nil))) pa_nil, fun H1 Q q => ?_⟩
  have len := msgL i i0 i1
  refine ⟨_, rfl, by rw [sizeLine_eq]; decide +kernel, _, rfl, .inr ⟨i, rfl, log_small i0 i1, _, rfl, ?_, q _⟩⟩
  rw [sizeLine_eq]
  exact Nat.le_trans len (by decide)
theorem ok_proposal (T : Txt K mg a) : ∃ fd, FnOk P w K mg base CX0 1 a.d_proposal fd ["height", "turn", "block"] (spProp K) ∧ Binds K fd ["height", "turn", "block"] [] := by
  obtain ⟨fd, F, b⟩ := T.d_proposal.F
  refine ⟨fd, F.ok sc_proposal (fun vs H Q E h => ?_) (fun cdv A outer s H vs Q E hr h => ?_), b⟩
  · obtain ⟨_, _, _, rfl, _⟩ := h
    rfl
  · obtain ⟨h, t, b, rfl, k⟩ := h
    refine ⟨_, (pss_one (ps_ret (pe_tup (pa_cons pe_str (pa_cons (pv 0) (pa_cons (pv 1) (pa_cons (pv 2) pa_nil))))))), ?_⟩
    walk_at "rs"
    exact ⟨(by show 4 ≤ sizeLine; decide), fun p hp => k p _ (same_new hp) upd_same⟩
theorem ok_precommit (T : Txt K mg a) : ∃ fd, FnOk P w K mg base CX0 1 a.d_precommit fd ["height", "turn", "block"] (spPrec K) ∧ Binds K fd ["height", "turn", "block"] [] := by
  obtain ⟨fd, F, b⟩ := T.d_precommit.F
  refine ⟨fd, F.ok sc_precommit (fun vs H Q E h => ?_) (fun cdv A outer s H vs Q E hr h => ?_), b⟩
  · obtain ⟨_, _, _, rfl, _⟩ := h
    rfl
  · obtain ⟨h, t, b, rfl, k⟩ := h
    refine ⟨_, (pss_one (ps_ret (pe_tup (pa_cons pe_str (pa_cons (pv 0) (pa_cons (pv 1) (pa_cons (pv 2) pa_nil))))))), ?_⟩
    walk_at "rs"
    exact ⟨(by show 4 ≤ sizeLine; decide), fun p hp => k p _ (same_new hp) upd_same⟩
theorem ok_prevote (T : Txt K mg a) : ∃ fd, FnOk P w K mg base CX0 1 a.d_prevote fd ["height", "turn", "block", "lean"] (spPrev K) ∧ Binds K fd ["height", "turn", "block", "lean"] [] := by
  obtain ⟨fd, F, b⟩ := T.d_prevote.F
  refine ⟨fd, F.ok sc_prevote (fun vs H Q E h => ?_) (fun cdv A outer s H vs Q E hr h => ?_), b⟩
  · obtain ⟨_, _, _, _, rfl, _⟩ := h
    rfl
  · obtain ⟨h, t, b, l, rfl, k⟩ := h
    refine ⟨_, (pss_one (ps_ret (pe_tup (pa_cons pe_str (pa_cons (pv 0) (pa_cons (pv 1) (pa_cons (pv 2) (pa_cons (pv 3) pa_nil)))))))), ?_⟩
    walk_at "rs"
    exact ⟨(by show 5 ≤ sizeLine; decide), fun p hp => k p _ (same_new hp) upd_same⟩
theorem ok_is_number (T : Txt K mg a) : ∃ fd, FnOk P w K mg base CX0 1 a.d_is_number fd ["word"] (spIsNum K) ∧ Binds K fd ["word"] [] := by
  obtain ⟨fd, F, b⟩ := T.d_is_number.F
  refine ⟨fd, F.ok sc_is_number (fun vs H Q E h => ?_) (fun cdv A outer s H vs Q E hr h => ?_), b⟩
  · obtain ⟨_, rfl, _⟩ := h
    rfl
  · obtain ⟨x, rfl, lx, k⟩ := h
    have k0 := k _ (Same.refl H)
    refine ⟨_, (pss_cons (ps_if (PW.pt (pw_or (pt_not (pt_val (pe_bm0 PySem.F.plainAttrs_str PySem.F.slot_str_isascii PySem.F.type_str_isascii mt_isascii (pv 0)))) (pw_or (pt_not (pt_val (pe_bm0 PySem.F.plainAttrs_str PySem.F.slot_str_isdigit PySem.F.type_str_isdigit mt_isdigit (pv 0)))) (pw_or1 (pt_cmpR op_gt (pe_callB call_len_str (by rfl) T.n_len PySem.boot_len (pa_cons (pv 0) pa_nil)) (pe_glob (v := (.int 9)) rfl T.c_MOST_DIGITS.choose_spec ⟨_, rfl⟩) (nomark _))))))
      (pss_one (ps_ret pe_bl))
      pss_nil)
      (pss_one (ps_ret (pe_or (pe_cmpR op_eq (pv 0) pe_str (nomark _)) (pe_one (pe_cmpR op_ne (pe_ix ix_str (pv 0) pe_int (fun _ _ => rfl)) pe_str (nomark _))))))), ?_⟩
    walk_at "rs"
    refine ⟨trivial, ?_⟩
    walk_at "rs"
    refine ite2 (fun c1 => ?_) (fun c1 => ?_)
    · rw [num_not1 (.inl (by simpa using c1))] at k0
      walk_at "rs"
      exact k0
    walk_at "rs"
    refine ⟨trivial, ?_⟩
    walk_at "rs"
    refine ite2 (fun c2 => ?_) (fun c2 => ?_)
    · rw [num_not1 (.inr (by simpa using c2))] at k0
      walk_at "rs"
      exact k0
    walk_at "rs"
    refine ⟨lx, ?_⟩
    walk_at "rs"
    refine ite2 (fun c3 => ?_) (fun c3 => ?_)
    · rw [num_not2 (by simp at c3; omega)] at k0
      walk_at "rs"
      exact k0
    have a1 : Txt.isascii x = true := by simpa using c1
    have a2 : Txt.isdigit x = true := by simpa using c2
    rw [num_last a1 a2 (by simp at c3; omega)] at k0
    obtain ⟨c, l, ec⟩ : ∃ c l, TL.tl x = c :: l := by
      have := num_parts x
      rw [a1, a2] at this
      have := of_decide_eq_true (Bool.and_eq_true_iff.mp this.symm).2
      cases e : TL.tl x with
      | nil => exact absurd e this
      | cons c l => exact ⟨c, l, rfl⟩
    walk_at "rs"
    refine ite2 (fun c4 => ?_) (fun c4 => ?_)
    · have e0 : x = "0" := by simpa using c4
      rw [decide_eq_true e0] at k0
      exact k0
    · have e0 : ¬ x = "0" := by simpa using c4
      rw [decide_eq_false e0, ec] at k0
      walk_at "rs"
      refine ⟨_, _, c, rfl, rfl, lx, atI_nat (j := 0) (by rw [show x.cps.toList = c :: l from ec]; rfl), ?_⟩
      walk_at "rs"
      have e3 : (!decide (V.str ⟨#[c]⟩ = V.str "0")) = (false || decide ((c :: l).head? ≠ some 48)) := by
        have : (("0" : Str)) = ⟨#[48]⟩ := by decide +kernel
        rw [this]
        simp
      rw [e3]
      exact k0
theorem ok_is_block (T : Txt K mg a) : ∃ fd, FnOk P w K mg base CX0 1 a.d_is_block fd ["word"] (spIsBlk K) ∧ Binds K fd ["word"] [] := by
  obtain ⟨fd, F, b⟩ := T.d_is_block.F
  refine ⟨fd, F.ok sc_is_block (fun vs H Q E h => ?_) (fun cdv A outer s H vs Q E hr h => ?_), b⟩
  · obtain ⟨_, rfl, _⟩ := h
    rfl
  · obtain ⟨x, rfl, lx, k⟩ := h
    have k2 := k
    have k0 := k _ (Same.refl H)
    refine ⟨_, (pss_cons (ps_if (PW.pt (pw_or (pt_cmpR op_lt (pe_callB call_len_str (by rfl) T.n_len PySem.boot_len (pa_cons (pv 0) pa_nil)) pe_int (nomark _)) (pw_or (pt_cmpR op_gt (pe_callB call_len_str (by rfl) T.n_len PySem.boot_len (pa_cons (pv 0) pa_nil)) (pe_glob (v := (.int 60)) rfl T.c_MOST_SIGNS.choose_spec ⟨_, rfl⟩) (nomark _)) (pw_or1 (pt_cmpR op_notIn_sign (pe_ix ix_str (pv 0) pe_int (fun _ _ => rfl)) (pe_glob (v := (.str "abcdefghijklmnopqrstuvwxyz")) rfl T.c_LETTERS.choose_spec ⟨_, rfl⟩) (by rfl))))))
      (pss_one (ps_ret pe_bl))
      pss_nil)
      (pss_one (ps_ret (pe_callB (cr_all rfl) (by rfl) T.n_all (by decide +kernel) (pa_cons (pe_lc (own := [("sign", 1)]) (g := (gName 1)) (tt := tYes) rfl sc_is_block.nd (pi_str (pv 0)) (blkOk_by (own := [("sign", 1)]) (N := sc_is_block_N) (sc := defScope s_is_block) (by decide +kernel)) (fun _ _ _ _ _ => (pg_name (i := 1) sc_is_block.nd rfl (Or.inl rfl))) (fun _ _ _ _ _ => pts_nil) (fun _ _ _ _ _ => (pe_cmpR op_in_sign (pv 1) (pe_glob (v := (.str "abcdefghijklmnopqrstuvwxyz0123456789")) rfl T.c_BLOCK_SIGNS.choose_spec ⟨_, rfl⟩) (by rfl)))) pa_nil))))), ?_⟩
    walk_at "rs"
    refine ⟨lx, ?_⟩
    walk_at "rs"
    refine ite2 (fun c1 => ?_) (fun c1 => ?_)
    · have e : TL.tl x = [] := by
        have := of_decide_eq_true c1
        have : x.length = 0 := by omega
        rw [TL.len_tl] at this
        exact List.eq_nil_of_length_eq_zero (by omega)
      have : blkB x = false := by unfold blkB; rw [e]
      rw [this] at k0
      walk_at "rs"
      refine ite2 (fun _ => ?_) (fun z => absurd rfl z)
      walk_at "rs"
      exact k0
    obtain ⟨c, l, ec⟩ : ∃ c l, TL.tl x = c :: l := by
      have : ¬ ((x.length : Int) < 1) := fun z => c1 (decide_eq_true z)
      have : ¬ x.length = 0 := by omega
      rw [TL.len_tl] at this
      cases e : TL.tl x with
      | nil => rw [e] at this; exact absurd rfl this
      | cons c l => exact ⟨c, l, rfl⟩
    have eb : blkB x = (decide (l.length + 1 ≤ 60) && (isL c && (c :: l).all isA)) := by unfold blkB; rw [ec]
    rw [eb] at k0
    walk_at "rs"
    refine ⟨lx, ?_⟩
    walk_at "rs"
    have el : x.length = l.length + 1 := by rw [TL.len_tl, ec]; rfl
    refine ite2 (fun c2 => ?_) (fun c2 => ?_)
    · have : ¬ (l.length + 1 ≤ 60) := by simp at c2; omega
      rw [decide_eq_false this] at k0
      walk_at "rs"
      refine ite2 (fun _ => ?_) (fun z => absurd rfl z)
      walk_at "rs"
      exact k0
    have : l.length + 1 ≤ 60 := by simp at c2; omega
    rw [decide_eq_true this, Bool.true_and] at k0
    walk_at "rs"
    refine ⟨_, _, c, rfl, rfl, lx, atI_nat (j := 0) (by rw [show x.cps.toList = c :: l from ec]; rfl), ?_⟩
    walk_at "rs"
    refine ite2 (fun c3 => ?_) (fun c3 => ?_)
    · have : isL c = false := by
        unfold isL
        have c3' : (!decide (c ∈ TL.tl "abcdefghijklmnopqrstuvwxyz")) = true := c3
        simpa using c3'
      rw [this] at k0
      walk_at "rs"
      exact k0
    have : isL c = true := by
      unfold isL
      have c3' : ¬ (!decide (c ∈ TL.tl "abcdefghijklmnopqrstuvwxyz")) = true := c3
      simpa using c3'
    rw [eb, decide_eq_true (show l.length + 1 ≤ 60 by assumption), this, Bool.true_and, Bool.true_and] at k2
    walk_at "rs"
    intro D hD
    have es : x.cps.toList = c :: l := ec
    have esz : x.cps.size = (c :: l).length := by rw [← es, Array.length_toList]
    refine lc_it walk_str (fun i H2 => Same H H2 ∧ H2 D = some (.lst ((((c :: l).take i).map isA).map V.bl))) ⟨same_new hD, by rw [upd_same]; rfl⟩ (fun _ _ _ _ => trivial) ?_ ?_
    · rintro i y H2 _ hi ⟨s2, hd⟩ ⟨rfl, d, hd0, rfl⟩
      have hd1 : (c :: l)[i]? = some d := by rw [← es, Array.getElem?_toList]; exact hd0
      have et : (c :: l).take (i + 1) = (c :: l).take i ++ [d] := by rw [List.take_add_one, hd1]; rfl
      refine ⟨rfl, ?_⟩
      walk_at "rs"
      refine ⟨_, hd, by rw [List.length_map, List.length_map, List.length_take]; exact small1000 (by rw [List.length_cons]; omega), same_upd s2 hD, ?_⟩
      rw [upd_same, et]
      simp only [List.map_append, List.map_cons, List.map_nil]
      rfl
    · rintro H2 ⟨s2, hd⟩
      rw [esz, List.take_length] at hd
      walk_at "rs"
      refine ⟨D, _, rfl, SqL.of hd, ?_⟩
      rw [List.all_map]
      exact k2 _ s2
theorem ok_word_at (TE : TxtE P K mg a) (T : Txt K mg a) : ∃ fd, FnOk P w K mg base (L2N.CX P w) 3 a.d_word_at fd ["words", "at"] (spWordAt K a.C_BadLine) ∧ Binds K fd ["words", "at"] [] := by
  obtain ⟨fd, F, b⟩ := T.d_word_at.F
  obtain ⟨fd_BadLine_init, G_BadLine_init, b_BadLine_init⟩ := ok_BadLine_init (P := P) (w := w) (base := base) TE T
  refine ⟨fd, fun_okN F sc_word_at (fun vs H Q E h => ?_) (fun cdv A outer s H vs Q E hr h => ?_), b⟩
  · obtain ⟨_, _, _, rfl, _⟩ := h
    rfl
  · obtain ⟨W, ws, k, rfl, hW, lw, sw, k6, kr, kq⟩ := h
    refine ⟨_, (pss_cons (ps_if (pt_cmpR op_ge (pv 1) (pe_callB call_len_seq (by rfl) T.n_len PySem.boot_len (pa_cons (pv 0) pa_nil)) (nomark _))
      (pss_one (L2N.ps_raise rfl (L2N.takes_of rfl rfl rfl rfl) (pmk_sup TE.oex_BadLine TE.iC_BadLine TE.tI_BadLine G_BadLine_init (hr.mono (by decide)) b_BadLine_init rfl TE.g_BadLine (pa_cons (pe_callB call_len_seq (by rfl) T.n_len PySem.boot_len (pa_cons (pv 0) pa_nil)) pa_nil))))
      pss_nil)
      (pss_one (ps_ret (pe_ix ix_list (pv 0) (pv 1) (fun _ _ => rfl))))), ?_⟩
    walk_at "rs"
    refine ⟨W, _, rfl, .inl (SqL.of hW), ?_⟩
    walk_at "rs"
    refine ite2 (fun c1 => ?_) (fun c1 => ?_)
    · have c1 : ws.length ≤ k := by simpa using c1
      have er : wordAt ws k = .error (ws.length : Int) := if_neg (by omega)
      walk_at "rs"
      refine ⟨W, _, rfl, .inl (SqL.of hW), ?_⟩
      walk_at "rs"
      rw [List.length_map]
      refine ⟨⟨_, rfl, Int.natCast_nonneg _, by omega⟩, fun d hd => ?_⟩
      exact kr _ (by show mapE V.str (wordAt ws k) = _; rw [er]; rfl) d _ (same_new hd) upd_same
    · have c1 : k < ws.length := by simpa using c1
      have er : wordAt ws k = .ok (ws.getD k "") := if_pos c1
      walk_at "rs"
      refine ⟨W, _, _, _, rfl, rfl, SqL.of hW, at_strs c1, ?_⟩
      exact kq _ (by show mapE V.str (wordAt ws k) = _; rw [er]; rfl) _ (Same.refl H)
theorem ok_number_at (TE : TxtE P K mg a) (T : Txt K mg a) : ∃ fd, FnOk P w K mg base (L2N.CX P w) 4 a.d_number_at fd ["words", "at"] (spNumAt K a.C_BadLine) ∧ Binds K fd ["words", "at"] [] := by
  obtain ⟨fd, F, b⟩ := T.d_number_at.F
  obtain ⟨fd_word_at, G_word_at, b_word_at⟩ := ok_word_at (P := P) (w := w) (base := base) TE T
  obtain ⟨fd_is_number, G_is_number, b_is_number⟩ := ok_is_number (P := P) (w := w) (base := base) T
  obtain ⟨fd_BadLine_init, G_BadLine_init, b_BadLine_init⟩ := ok_BadLine_init (P := P) (w := w) (base := base) TE T
  refine ⟨fd, fun_okN F sc_number_at (fun vs H Q E h => ?_) (fun cdv A outer s H vs Q E hr h => ?_), b⟩
  · obtain ⟨_, _, _, rfl, _⟩ := h
    rfl
  · obtain ⟨W, ws, k, rfl, hW, lw, sw, k6, kr, kq⟩ := h
    have kr' : ∀ e, numAt ws k = .error e → ExR a.C_BadLine H E e := fun e h => kr e (by show mapE _ _ = _; rw [h]; rfl)
    have kq' : ∀ n, numAt ws k = .ok n → ∀ H', Same H H' → Q (.int n) H' := fun n h => kq _ (by show mapE _ _ = _; rw [h]; rfl)
    clear kr kq
    refine ⟨_, (pss_cons (ps_set (i := 2) sc_number_at.nd rfl (Or.inl rfl) (pe_call G_word_at (hr.mono (by decide)) rfl T.d_word_at.g T.d_word_at.kp b_word_at .nil (L2N.passes_call (W := fun c d _ H => E c d H) (E := E) (L2N.takes_of rfl rfl rfl rfl) (fun _ _ _ _ h => h)) (pa_cons (pv 0) (pa_cons (pv 1) pa_nil))))
      (pss_cons (ps_if (pt_not (pt_val (pe_call G_is_number (hr.mono (by decide)) rfl T.d_is_number.g T.d_is_number.kp b_is_number .nil pass0 (pa_cons (pv 2) pa_nil))))
      (pss_one (L2N.ps_raise rfl (L2N.takes_of rfl rfl rfl rfl) (pmk_sup TE.oex_BadLine TE.iC_BadLine TE.tI_BadLine G_BadLine_init (hr.mono (by decide)) b_BadLine_init rfl TE.g_BadLine (pa_cons (pv 1) pa_nil))))
      pss_nil)
      (pss_one (ps_ret (pe_callTy call_int_str (by rfl) T.n_int (by decide +kernel) (pa_cons (pv 2) pa_nil)))))), ?_⟩
    walk_at "rs"
    refine ⟨W, ws, k, rfl, hW, lw, sw, k6, fun e he => ?_, fun n hn H1 s1 => ?_⟩
    · cases q : wordAt ws k with
      | ok x => simp only [q, mapE] at he; cases he
      | error e' =>
        simp only [q, mapE] at he
        cases he
        exact kr' e (by unfold numAt; rw [q])
    · cases q : wordAt ws k with
      | error e' => simp only [q, mapE] at hn; cases hn
      | ok x =>
        simp only [q, mapE] at hn
        cases hn
        have hx := word_mem q
        walk_at "rs"
        refine ⟨sw x hx, fun H2 s2 => ?_⟩
        walk_at "rs"
        refine ite2 (fun c1 => ?_) (fun c1 => ?_)
        · have c2 : numB x = false := by simpa using c1
          walk_at "rs"
          refine ⟨⟨_, rfl, Int.natCast_nonneg _, by omega⟩, fun d hd => ?_⟩
          exact kr' _ (by unfold numAt; rw [q]; exact if_neg (by rw [c2]; exact Bool.false_ne_true)) d _ ((s1.trans s2).trans (same_new hd)) upd_same
        · have c2 : numB x = true := by simpa using c1
          walk_at "rs"
          have nv := num_int c2
          refine ⟨x, _, rfl, nv.1, Nat.le_trans nv.2 (by decide), ?_⟩
          exact kq' _ (by unfold numAt; rw [q]; exact if_pos c2) _ (s1.trans s2)
theorem ok_kind_at (TE : TxtE P K mg a) (T : Txt K mg a) : ∃ fd, FnOk P w K mg base (L2N.CX P w) 4 a.d_kind_at fd ["words", "at"] (spKindAt K a.C_BadLine) ∧ Binds K fd ["words", "at"] [] := by
  obtain ⟨fd, F, b⟩ := T.d_kind_at.F
  obtain ⟨fd_word_at, G_word_at, b_word_at⟩ := ok_word_at (P := P) (w := w) (base := base) TE T
  obtain ⟨fd_BadLine_init, G_BadLine_init, b_BadLine_init⟩ := ok_BadLine_init (P := P) (w := w) (base := base) TE T
  refine ⟨fd, fun_okN F sc_kind_at (fun vs H Q E h => ?_) (fun cdv A outer s H vs Q E hr h => ?_), b⟩
  · obtain ⟨_, _, _, rfl, _⟩ := h
    rfl
  · obtain ⟨W, ws, k, rfl, hW, lw, sw, k6, kr, kq⟩ := h
    have kr' : ∀ e, kindAt ws k = .error e → ExR a.C_BadLine H E e := fun e h => kr e (by show mapE _ _ = _; rw [h]; rfl)
    have kq' : ∀ n, kindAt ws k = .ok n → ∀ H', Same H H' → Q (.str n.s) H' := fun n h => kq _ (by show mapE _ _ = _; rw [h]; rfl)
    clear kr kq
    refine ⟨_, (pss_cons (ps_set (i := 2) sc_kind_at.nd rfl (Or.inl rfl) (pe_call G_word_at (hr.mono (by decide)) rfl T.d_word_at.g T.d_word_at.kp b_word_at .nil (L2N.passes_call (W := fun c d _ H => E c d H) (E := E) (L2N.takes_of rfl rfl rfl rfl) (fun _ _ _ _ h => h)) (pa_cons (pv 0) (pa_cons (pv 1) pa_nil))))
      (pss_cons (ps_if (pt_cmpR op_notIn_seq (pv 2) (pe_glob (v := .ref a.P_KINDS) rfl TE.g_KINDS rfl) (by rfl))
      (pss_one (L2N.ps_raise rfl (L2N.takes_of rfl rfl rfl rfl) (pmk_sup TE.oex_BadLine TE.iC_BadLine TE.tI_BadLine G_BadLine_init (hr.mono (by decide)) b_BadLine_init rfl TE.g_BadLine (pa_cons (pv 1) pa_nil))))
      pss_nil)
      (pss_one (ps_ret (pv 2))))), ?_⟩
    walk_at "rs"
    refine ⟨W, ws, k, rfl, hW, lw, sw, k6, fun e he => ?_, fun n hn H1 s1 => ?_⟩
    · cases q : wordAt ws k with
      | ok x => simp only [q, mapE] at he; cases he
      | error e' =>
        simp only [q, mapE] at he
        cases he
        exact kr' e (by unfold kindAt; rw [q])
    · cases q : wordAt ws k with
      | error e' => simp only [q, mapE] at hn; cases hn
      | ok x =>
        simp only [q, mapE] at hn
        cases hn
        walk_at "rs"
        refine ⟨_, _, rfl, .inr (TE.s_KINDS _), rfl, rfl, ?_⟩
        rw [if_pos rfl, inV_kinds]
        walk_at "rs"
        refine ite2 (fun c1 => ?_) (fun c1 => ?_)
        · have c2 : kdOf x = none := by simpa using c1
          walk_at "rs"
          refine ⟨⟨_, rfl, Int.natCast_nonneg _, by omega⟩, fun d hd => ?_⟩
          exact kr' _ (by unfold kindAt; rw [q]; simp only [c2]) d _ (s1.trans (same_new hd)) upd_same
        · obtain ⟨d, c2⟩ : ∃ d, kdOf x = some d := Option.ne_none_iff_exists'.mp (by simpa using c1)
          walk_at "rs"
          rw [kd_of c2]
          exact kq' _ (by unfold kindAt; rw [q]; simp only [c2]) _ s1
theorem ok_end_at (TE : TxtE P K mg a) (T : Txt K mg a) : ∃ fd, FnOk P w K mg base (L2N.CX P w) 3 a.d_end_at fd ["words", "at"] (spEndAt K a.C_BadLine) ∧ Binds K fd ["words", "at"] [] := by
  obtain ⟨fd, F, b⟩ := T.d_end_at.F
  obtain ⟨fd_BadLine_init, G_BadLine_init, b_BadLine_init⟩ := ok_BadLine_init (P := P) (w := w) (base := base) TE T
  refine ⟨fd, fun_okN F sc_end_at (fun vs H Q E h => ?_) (fun cdv A outer s H vs Q E hr h => ?_), b⟩
  · obtain ⟨_, _, _, rfl, _⟩ := h
    rfl
  · obtain ⟨W, ws, k, rfl, hW, lw, sw, k6, kr, kq⟩ := h
    have kr' : ∀ e, endAt ws k = .error e → ExR a.C_BadLine H E e := fun e h => kr e (by show mapE _ _ = _; rw [h]; rfl)
    have kq' : ∀ n, endAt ws k = .ok n → ∀ H', Same H H' → Q .non H' := fun n h => kq _ (by show mapE _ _ = _; rw [h]; rfl)
    clear kr kq
    refine ⟨_, (pss_one (ps_if (pt_cmpR op_gt (pe_callB call_len_seq (by rfl) T.n_len PySem.boot_len (pa_cons (pv 0) pa_nil)) (pv 1) (nomark _))
      (pss_one (L2N.ps_raise rfl (L2N.takes_of rfl rfl rfl rfl) (pmk_sup TE.oex_BadLine TE.iC_BadLine TE.tI_BadLine G_BadLine_init (hr.mono (by decide)) b_BadLine_init rfl TE.g_BadLine (pa_cons (pv 1) pa_nil))))
      pss_nil)), ?_⟩
    walk_at "rs"
    refine ⟨W, _, rfl, .inl (SqL.of hW), ?_⟩
    walk_at "rs"
    refine ite2 (fun c1 => ?_) (fun c1 => ?_)
    · have c2 : k < ws.length := by simpa using c1
      walk_at "rs"
      refine ⟨⟨_, rfl, Int.natCast_nonneg _, by omega⟩, fun d hd => ?_⟩
      exact kr' _ (if_pos c2) d _ (same_new hd) upd_same
    · have c2 : ¬ k < ws.length := by simpa using c1
      exact kq' () (if_neg c2) _ (Same.refl H)
theorem ok_block_at (TE : TxtE P K mg a) (T : Txt K mg a) : ∃ fd, FnOk P w K mg base (L2N.CX P w) 4 a.d_block_at fd ["words", "at", "kind"] (spBlockAt K a.C_BadLine) ∧ Binds K fd ["words", "at", "kind"] [] := by
  obtain ⟨fd, F, b⟩ := T.d_block_at.F
  obtain ⟨fd_word_at, G_word_at, b_word_at⟩ := ok_word_at (P := P) (w := w) (base := base) TE T
  obtain ⟨fd_is_block, G_is_block, b_is_block⟩ := ok_is_block (P := P) (w := w) (base := base) T
  obtain ⟨fd_BadLine_init, G_BadLine_init, b_BadLine_init⟩ := ok_BadLine_init (P := P) (w := w) (base := base) TE T
  refine ⟨fd, fun_okN F sc_block_at (fun vs H Q E h => ?_) (fun cdv A outer s H vs Q E hr h => ?_), b⟩
  · obtain ⟨_, _, _, _, rfl, _⟩ := h
    rfl
  · obtain ⟨W, ws, k, kd, rfl, hW, lw, sw, k6, kr, kq⟩ := h
    refine ⟨_, (pss_cons (ps_set (i := 3) sc_block_at.nd rfl (Or.inl rfl) (pe_call G_word_at (hr.mono (by decide)) rfl T.d_word_at.g T.d_word_at.kp b_word_at .nil (L2N.passes_call (W := fun c d _ H => E c d H) (E := E) (L2N.takes_of rfl rfl rfl rfl) (fun _ _ _ _ h => h)) (pa_cons (pv 0) (pa_cons (pv 1) pa_nil))))
      (pss_cons (ps_if (PW.pt (pw_and (pt_cmpR op_eq (pv 3) (pe_glob (v := (.str "-")) rfl T.c_NONE.choose_spec ⟨_, rfl⟩) (nomark _)) (pw_and1 (pt_cmpR op_ne (pv 2) pe_str (nomark _)))))
      (pss_one (ps_ret pe_non))
      pss_nil)
      (pss_cons (ps_if (pt_not (pt_val (pe_call G_is_block (hr.mono (by decide)) rfl T.d_is_block.g T.d_is_block.kp b_is_block .nil pass0 (pa_cons (pv 3) pa_nil))))
      (pss_one (L2N.ps_raise rfl (L2N.takes_of rfl rfl rfl rfl) (pmk_sup TE.oex_BadLine TE.iC_BadLine TE.tI_BadLine G_BadLine_init (hr.mono (by decide)) b_BadLine_init rfl TE.g_BadLine (pa_cons (pv 1) pa_nil))))
      pss_nil)
      (pss_one (ps_ret (pv 3)))))), ?_⟩
    walk_at "rs"
    refine ⟨W, ws, k, rfl, hW, lw, sw, k6, fun e he => ?_, fun n hn H1 s1 => ?_⟩
    · cases q : wordAt ws k with
      | ok x => simp only [q, mapE] at he; cases he
      | error e' =>
        simp only [q, mapE] at he
        cases he
        exact kr e (by unfold blockAt; rw [q])
    · cases q : wordAt ws k with
      | error e' => simp only [q, mapE] at hn; cases hn
      | ok x =>
        simp only [q, mapE] at hn
        cases hn
        have hx := word_mem q
        have fin1 : ∀ y, Q y H1 → Q y H1 := fun _ h => h
        walk_at "rs"
        have rest : ¬ (x = "-" ∧ kd ≠ .prop) → blockAt ws k kd = if blkB x = true then .ok (some x) else .error (k : Int) := fun h => by
          unfold blockAt
          rw [q]
          exact if_neg h
        refine ite2 (fun c1 => ?_) (fun c1 => ?_)
        · have e1 : x = "-" := by simpa using c1
          walk_at "rs"
          refine ite2 (fun c2 => ?_) (fun c2 => ?_)
          · have e2 : kd ≠ .prop := by simpa [s_prop] using c2
            walk_at "rs"
            exact kq none (by unfold blockAt; rw [q]; exact if_pos ⟨e1, e2⟩) _ s1
          · have e2 : kd = .prop := by simpa [s_prop] using c2
            have e3 := rest fun z => z.2 e2
            walk_at "rs"
            refine ⟨sw x hx, fun H2 s2 => ?_⟩
            walk_at "rs"
            refine ite2 (fun c3 => ?_) (fun c3 => ?_)
            · have e4 : blkB x = false := by simpa using c3
              walk_at "rs"
              refine ⟨⟨_, rfl, Int.natCast_nonneg _, by omega⟩, fun d hd => ?_⟩
              exact kr _ (by rw [e3, e4]; rfl) d _ ((s1.trans s2).trans (same_new hd)) upd_same
            · have e4 : blkB x = true := by simpa using c3
              walk_at "rs"
              exact kq (some x) (by rw [e3, e4]; rfl) _ (s1.trans s2)
        · have e1 : ¬ x = "-" := by simpa using c1
          have e3 := rest fun z => e1 z.1
          walk_at "rs"
          refine ⟨sw x hx, fun H2 s2 => ?_⟩
          walk_at "rs"
          refine ite2 (fun c3 => ?_) (fun c3 => ?_)
          · have e4 : blkB x = false := by simpa using c3
            walk_at "rs"
            refine ⟨⟨_, rfl, Int.natCast_nonneg _, by omega⟩, fun d hd => ?_⟩
            exact kr _ (by rw [e3, e4]; rfl) d _ ((s1.trans s2).trans (same_new hd)) upd_same
          · have e4 : blkB x = true := by simpa using c3
            walk_at "rs"
            exact kq (some x) (by rw [e3, e4]; rfl) _ (s1.trans s2)
theorem ok_lean_at (TE : TxtE P K mg a) (T : Txt K mg a) : ∃ fd, FnOk P w K mg base (L2N.CX P w) 5 a.d_lean_at fd ["words", "at", "turn"] (spLeanAt K a.C_BadLine) ∧ Binds K fd ["words", "at", "turn"] [] := by
  obtain ⟨fd, F, b⟩ := T.d_lean_at.F
  obtain ⟨fd_word_at, G_word_at, b_word_at⟩ := ok_word_at (P := P) (w := w) (base := base) TE T
  obtain ⟨fd_number_at, G_number_at, b_number_at⟩ := ok_number_at (P := P) (w := w) (base := base) TE T
  obtain ⟨fd_BadLine_init, G_BadLine_init, b_BadLine_init⟩ := ok_BadLine_init (P := P) (w := w) (base := base) TE T
  refine ⟨fd, fun_okN F sc_lean_at (fun vs H Q E h => ?_) (fun cdv A outer s H vs Q E hr h => ?_), b⟩
  · obtain ⟨_, _, _, _, rfl, _⟩ := h
    rfl
  · obtain ⟨W, ws, k, t, rfl, hW, lw, sw, k6, kr, kq⟩ := h
    refine ⟨_, (pss_cons (ps_set (i := 3) sc_lean_at.nd rfl (Or.inl rfl) (pe_call G_word_at (hr.mono (by decide)) rfl T.d_word_at.g T.d_word_at.kp b_word_at .nil (L2N.passes_call (W := fun c d _ H => E c d H) (E := E) (L2N.takes_of rfl rfl rfl rfl) (fun _ _ _ _ h => h)) (pa_cons (pv 0) (pa_cons (pv 1) pa_nil))))
      (pss_cons (ps_if (pt_cmpR op_eq (pv 3) (pe_glob (v := (.str "-")) rfl T.c_NONE.choose_spec ⟨_, rfl⟩) (nomark _))
      (pss_one (ps_ret pe_non))
      pss_nil)
      (pss_cons (ps_set (i := 4) sc_lean_at.nd rfl (Or.inl rfl) (pe_call G_number_at (hr.mono (by decide)) rfl T.d_number_at.g T.d_number_at.kp b_number_at .nil (L2N.passes_call (W := fun c d _ H => E c d H) (E := E) (L2N.takes_of rfl rfl rfl rfl) (fun _ _ _ _ h => h)) (pa_cons (pv 0) (pa_cons (pv 1) pa_nil))))
      (pss_cons (ps_if (pt_cmpR op_ge (pv 4) (pv 2) (nomark _))
      (pss_one (L2N.ps_raise rfl (L2N.takes_of rfl rfl rfl rfl) (pmk_sup TE.oex_BadLine TE.iC_BadLine TE.tI_BadLine G_BadLine_init (hr.mono (by decide)) b_BadLine_init rfl TE.g_BadLine (pa_cons (pv 1) pa_nil))))
      pss_nil)
      (pss_one (ps_ret (pv 4))))))), ?_⟩
    walk_at "rs"
    refine ⟨W, ws, k, rfl, hW, lw, sw, k6, fun e he => ?_, fun n hn H1 s1 => ?_⟩
    · cases q : wordAt ws k with
      | ok x => simp only [q, mapE] at he; cases he
      | error e' =>
        simp only [q, mapE] at he
        cases he
        exact kr e (by unfold leanAt; rw [q])
    · cases q : wordAt ws k with
      | error e' => simp only [q, mapE] at hn; cases hn
      | ok x =>
        simp only [q, mapE] at hn
        cases hn
        have hx := word_mem q
        walk_at "rs"
        refine ite2 (fun c1 => ?_) (fun c1 => ?_)
        · have e1 : x = "-" := by simpa using c1
          walk_at "rs"
          exact kq none (by unfold leanAt; rw [q]; exact if_pos e1) _ s1
        · have e1 : ¬ x = "-" := by simpa using c1
          have e3 : leanAt ws k t = if numB x = true then (if numV x < t then .ok (some (numV x)) else .error (k : Int)) else .error (k : Int) := by
            unfold leanAt
            rw [q]
            exact if_neg e1
          have e5 : numAt ws k = if numB x = true then .ok (numV x) else .error (k : Int) := by
            unfold numAt
            rw [q]
          walk_at "rs"
          refine ⟨W, ws, k, rfl, s1 _ _ hW, lw, sw, k6, fun e he => ?_, fun n hn H2 s2 => ?_⟩
          · cases e4 : numB x with
            | true => simp only [e5, e4, if_true, mapE] at he; cases he
            | false =>
              rw [e4] at e3
              simp only [e5, e4, mapE] at he
              cases he
              exact fun d H' s' hd => kr _ e3 d H' (s1.trans s') hd
          · cases e4 : numB x with
            | false => simp only [e5, e4, mapE] at hn; cases hn
            | true =>
              rw [e4, if_pos rfl] at e3
              simp only [e5, e4, if_true, mapE] at hn
              cases hn
              walk_at "rs"
              refine ite2 (fun c3 => ?_) (fun c3 => ?_)
              · have e6 : ¬ numV x < t := by have := of_decide_eq_true c3; omega
                walk_at "rs"
                refine ⟨⟨_, rfl, Int.natCast_nonneg _, by omega⟩, fun d hd => ?_⟩
                exact kr _ (by rw [e3, if_neg e6]) d _ ((s1.trans s2).trans (same_new hd)) upd_same
              · have e6 : numV x < t := by
                  have : ¬ t ≤ numV x := fun z => c3 (decide_eq_true z)
                  omega
                walk_at "rs"
                exact kq _ (by rw [e3, if_pos e6]) _ (s1.trans s2)
theorem ok_read_letter (TE : TxtE P K mg a) (T : Txt K mg a) : ∃ fd, FnOk P w K mg base (L2N.CX P w) 6 a.d_read_letter fd ["line"] (spRead K a.C_BadLine) ∧ Binds K fd ["line"] [] := by
  obtain ⟨fd, F, b⟩ := T.d_read_letter.F
  obtain ⟨fd_number_at, G_number_at, b_number_at⟩ := ok_number_at (P := P) (w := w) (base := base) TE T
  obtain ⟨fd_kind_at, G_kind_at, b_kind_at⟩ := ok_kind_at (P := P) (w := w) (base := base) TE T
  obtain ⟨fd_block_at, G_block_at, b_block_at⟩ := ok_block_at (P := P) (w := w) (base := base) TE T
  obtain ⟨fd_end_at, G_end_at, b_end_at⟩ := ok_end_at (P := P) (w := w) (base := base) TE T
  obtain ⟨fd_lean_at, G_lean_at, b_lean_at⟩ := ok_lean_at (P := P) (w := w) (base := base) TE T
  obtain ⟨fd_proposal, G_proposal, b_proposal⟩ := ok_proposal (P := P) (w := w) (base := base) T
  obtain ⟨fd_prevote, G_prevote, b_prevote⟩ := ok_prevote (P := P) (w := w) (base := base) T
  obtain ⟨fd_precommit, G_precommit, b_precommit⟩ := ok_precommit (P := P) (w := w) (base := base) T
  refine ⟨fd, fun_okN F sc_read_letter (fun vs H Q E h => ?_) (fun cdv A outer s H vs Q E hr h => ?_), b⟩
  · obtain ⟨_, rfl, _⟩ := h
    rfl
  · obtain ⟨line, rfl, ll, kr, kq⟩ := h
    refine ⟨_, (pss_cons (ps_set (i := 1) sc_read_letter.nd rfl (Or.inl rfl) (pe_split (pv 0) pe_str))
      (pss_cons (ps_set (i := 2) sc_read_letter.nd rfl (Or.inl rfl) (pe_call G_number_at (hr.mono (by decide)) rfl T.d_number_at.g T.d_number_at.kp b_number_at .nil (L2N.passes_call (W := fun c d _ H => E c d H) (E := E) (L2N.takes_of rfl rfl rfl rfl) (fun _ _ _ _ h => h)) (pa_cons (pv 1) (pa_cons pe_int pa_nil))))
      (pss_cons (ps_set (i := 3) sc_read_letter.nd rfl (Or.inl rfl) (pe_call G_kind_at (hr.mono (by decide)) rfl T.d_kind_at.g T.d_kind_at.kp b_kind_at .nil (L2N.passes_call (W := fun c d _ H => E c d H) (E := E) (L2N.takes_of rfl rfl rfl rfl) (fun _ _ _ _ h => h)) (pa_cons (pv 1) (pa_cons pe_int pa_nil))))
      (pss_cons (ps_set (i := 4) sc_read_letter.nd rfl (Or.inl rfl) (pe_call G_number_at (hr.mono (by decide)) rfl T.d_number_at.g T.d_number_at.kp b_number_at .nil (L2N.passes_call (W := fun c d _ H => E c d H) (E := E) (L2N.takes_of rfl rfl rfl rfl) (fun _ _ _ _ h => h)) (pa_cons (pv 1) (pa_cons pe_int pa_nil))))
      (pss_cons (ps_set (i := 5) sc_read_letter.nd rfl (Or.inl rfl) (pe_call G_number_at (hr.mono (by decide)) rfl T.d_number_at.g T.d_number_at.kp b_number_at .nil (L2N.passes_call (W := fun c d _ H => E c d H) (E := E) (L2N.takes_of rfl rfl rfl rfl) (fun _ _ _ _ h => h)) (pa_cons (pv 1) (pa_cons pe_int pa_nil))))
      (pss_cons (ps_set (i := 6) sc_read_letter.nd rfl (Or.inl rfl) (pe_call G_block_at (hr.mono (by decide)) rfl T.d_block_at.g T.d_block_at.kp b_block_at .nil (L2N.passes_call (W := fun c d _ H => E c d H) (E := E) (L2N.takes_of rfl rfl rfl rfl) (fun _ _ _ _ h => h)) (pa_cons (pv 1) (pa_cons pe_int (pa_cons (pv 3) pa_nil)))))
      (pss_cons (ps_if (pt_cmpR op_eq (pv 3) pe_str (nomark _))
      (pss_cons (ps_set (i := 7) sc_read_letter.nd rfl (Or.inl rfl) (pe_call G_lean_at (hr.mono (by decide)) rfl T.d_lean_at.g T.d_lean_at.kp b_lean_at .nil (L2N.passes_call (W := fun c d _ H => E c d H) (E := E) (L2N.takes_of rfl rfl rfl rfl) (fun _ _ _ _ h => h)) (pa_cons (pv 1) (pa_cons pe_int (pa_cons (pv 5) pa_nil)))))
        (pss_cons (ps_expr (pe_call G_end_at (hr.mono (by decide)) rfl T.d_end_at.g T.d_end_at.kp b_end_at .nil (L2N.passes_call (W := fun c d _ H => E c d H) (E := E) (L2N.takes_of rfl rfl rfl rfl) (fun _ _ _ _ h => h)) (pa_cons (pv 1) (pa_cons pe_int pa_nil))))
        (pss_one (ps_ret (pe_tup (pa_cons (pv 2) (pa_cons (pe_call G_prevote (hr.mono (by decide)) rfl T.d_prevote.g T.d_prevote.kp b_prevote .nil pass0 (pa_cons (pv 4) (pa_cons (pv 5) (pa_cons (pv 6) (pa_cons (pv 7) pa_nil))))) pa_nil)))))))
      pss_nil)
      (pss_cons (ps_expr (pe_call G_end_at (hr.mono (by decide)) rfl T.d_end_at.g T.d_end_at.kp b_end_at .nil (L2N.passes_call (W := fun c d _ H => E c d H) (E := E) (L2N.takes_of rfl rfl rfl rfl) (fun _ _ _ _ h => h)) (pa_cons (pv 1) (pa_cons pe_int pa_nil))))
      (pss_cons (ps_if (pt_cmpR op_eq (pv 3) pe_str (nomark _))
      (pss_one (ps_ret (pe_tup (pa_cons (pv 2) (pa_cons (pe_call G_precommit (hr.mono (by decide)) rfl T.d_precommit.g T.d_precommit.kp b_precommit .nil pass0 (pa_cons (pv 4) (pa_cons (pv 5) (pa_cons (pv 6) pa_nil)))) pa_nil)))))
      pss_nil)
      (pss_one (ps_ret (pe_tup (pa_cons (pv 2) (pa_cons (pe_call G_proposal (hr.mono (by decide)) rfl T.d_proposal.g T.d_proposal.kp b_proposal .nil pass0 (pa_cons (pv 4) (pa_cons (pv 5) (pa_cons (pv 6) pa_nil)))) pa_nil)))))))))))))), ?_⟩
    walk_at "rs"
    refine ⟨⟨_, rfl⟩, _, _, rfl, rfl, by decide +kernel, ll, fun W hW0 => ?_⟩
    have s0 := same_new (o := .lst ((Txt.split line " ").map V.str)) hW0
    have hW := (upd_same : upd H W (.lst ((Txt.split line " ").map V.str)) W = _)
    have lw : (Txt.split line " ").length ≤ 16777216 := Nat.le_trans (PyProof.Rows.split_le line " ") ll
    have sw : ∀ w ∈ Txt.split line " ", w.length ≤ 16777216 := fun w hw => by
      have := PyProof.Rows.part_short hw
      omega
    unfold readL readW at kr kq
    generalize upd H W (.lst ((Txt.split line " ").map V.str)) = H0 at s0 hW ⊢
    generalize Txt.split line " " = ws at hW lw sw kr kq
    clear ll
    walk_at "rs"
    refine ⟨W, ws, 0, rfl, hW, lw, sw, by decide, fun e he => at_err s0 kr e (mapE_err he), fun n hn H1 s1 => ?_⟩
    obtain ⟨w0, e0, rfl⟩ := mapE_ok hn
    simp only [bindE, e0] at kr kq
    have t1 := s0.trans s1
    have hW1 := s1 _ _ hW
    clear hn s0 s1 hW
    walk_at "rs"
    refine ⟨W, ws, 1, rfl, hW1, lw, sw, by decide, fun e he => at_err t1 kr e (mapE_err he), fun n hn H2 s2 => ?_⟩
    obtain ⟨kd, e1, rfl⟩ := mapE_ok hn
    simp only [bindE, e1] at kr kq
    have t2 := t1.trans s2
    have hW2 := s2 _ _ hW1
    clear hn t1 s2 hW1
    walk_at "rs"
    refine ⟨W, ws, 2, rfl, hW2, lw, sw, by decide, fun e he => at_err t2 kr e (mapE_err he), fun n hn H3 s3 => ?_⟩
    obtain ⟨h0, e2, rfl⟩ := mapE_ok hn
    simp only [bindE, e2] at kr kq
    have t3 := t2.trans s3
    have hW3 := s3 _ _ hW2
    clear hn t2 s3 hW2
    walk_at "rs"
    refine ⟨W, ws, 3, rfl, hW3, lw, sw, by decide, fun e he => at_err t3 kr e (mapE_err he), fun n hn H4 s4 => ?_⟩
    obtain ⟨tu, e3, rfl⟩ := mapE_ok hn
    simp only [bindE, e3] at kr kq
    have t4 := t3.trans s4
    have hW4 := s4 _ _ hW3
    clear hn t3 s4 hW3
    walk_at "rs"
    refine ⟨W, ws, 4, kd, rfl, hW4, lw, sw, by decide, fun e he => at_err t4 kr e he, fun bl e4 H5 s5 => ?_⟩
    simp only [bindE, e4] at kr kq
    have t5 := t4.trans s5
    have hW5 := s5 _ _ hW4
    clear t4 s5 hW4
    walk_at "rs"
    unfold readEnd at kr kq
    refine ite2 (fun c1 => ?_) (fun c1 => ?_)
    · have ek : kd = .pre := by simpa [s_pre] using c1
      rw [if_pos ek] at kr kq
      walk_at "rs"
      refine ⟨W, ws, 5, tu, rfl, hW5, lw, sw, by decide, fun e he => at_err t5 kr e he, fun ln e6 H6 s6 => ?_⟩
      simp only [bindE, e6] at kr kq
      have t6 := t5.trans s6
      have hW6 := s6 _ _ hW5
      walk_at "rs"
      refine ⟨W, ws, 6, rfl, hW6, lw, sw, by decide, fun e he => at_err t6 kr e (mapE_err he), fun n hn H7 s7 => ?_⟩
      obtain ⟨_, e7, rfl⟩ := mapE_ok hn
      simp only [bindE, e7] at kr kq
      walk_at "rs"
      refine ⟨h0, tu, bl, ln, rfl, fun p H8 s8 hp => ?_⟩
      refine ⟨(by show 2 ≤ sizeLine; decide), fun q hq => ?_⟩
      have s9 := same_new (o := .tup [V.int w0, V.ref p]) hq
      exact kq _ rfl q _ (((t6.trans s7).trans s8).trans s9) ⟨p, upd_same, s9 _ _ hp⟩
    · have ek : ¬ kd = .pre := by simpa [s_pre] using c1
      rw [if_neg ek] at kr kq
      walk_at "rs"
      refine ⟨W, ws, 5, rfl, hW5, lw, sw, by decide, fun e he => at_err t5 kr e (mapE_err he), fun n hn H6 s6 => ?_⟩
      obtain ⟨_, e6, rfl⟩ := mapE_ok hn
      simp only [bindE, e6] at kr kq
      have t6 := t5.trans s6
      walk_at "rs"
      refine ite2 (fun c2 => ?_) (fun c2 => ?_)
      · have ek2 : kd = .com := by simpa [s_com] using c2
        subst ek2
        walk_at "rs"
        refine ⟨h0, tu, bl, rfl, fun p H8 s8 hp => ?_⟩
        refine ⟨(by show 2 ≤ sizeLine; decide), fun q hq => ?_⟩
        have s9 := same_new (o := .tup [V.int w0, V.ref p]) hq
        exact kq _ rfl q _ ((t6.trans s8).trans s9) ⟨p, upd_same, s9 _ _ hp⟩
      · have ek2 : ¬ kd = .com := by simpa [s_com] using c2
        have ek3 : kd = .prop := by
          cases kd with
          | prop => rfl
          | pre => exact absurd rfl ek
          | com => exact absurd rfl ek2
        subst ek3
        walk_at "rs"
        refine ⟨h0, tu, bl, rfl, fun p H8 s8 hp => ?_⟩
        refine ⟨(by show 2 ≤ sizeLine; decide), fun q hq => ?_⟩
        have s9 := same_new (o := .tup [V.int w0, V.ref p]) hq
        exact kq _ rfl q _ ((t6.trans s8).trans s9) ⟨p, upd_same, s9 _ _ hp⟩

theorem ok_law_cell (T : Txt K mg a) : ∃ fd, FnOk P w K mg base CX0 1 a.d_law_cell fd ["script", "k"] (spCell K) ∧ Binds K fd ["script", "k"] [] := by
  obtain ⟨fd, F, b⟩ := T.d_law_cell.F
  refine ⟨fd, F.ok sc_law_cell (fun vs H Q E h => ?_) (fun cdv A outer s H vs Q E hr h => ?_), b⟩
  · obtain ⟨a, ns, k, rfl, _⟩ := h
    rfl
  · obtain ⟨l, ns, k, rfl, hS, hl, hk, q⟩ := h
    refine ⟨_, (pss_cons (ps_if (pt_cmpR op_lt (pv 1) (pe_callB call_len_seq (by rfl) T.n_len PySem.boot_len (pa_cons (pv 0) pa_nil)) (nomark _))
      (pss_one (ps_ret (pe_ix ix_list (pv 0) (pv 1) (fun _ _ => rfl))))
      pss_nil)
      (pss_one (ps_ret pe_int))), ?_⟩
    refine ⟨_, rfl, _, rfl, l, _, rfl, .inl hS, _, _, rfl, rfl, _, rfl, ?_⟩
    refine ite2 (fun hlt => ?_) (fun hge => ?_)
    · have hlt : k < ((ns.map V.int).length : Int) := of_decide_eq_true hlt
      rw [List.length_map] at hlt
      have hj : k.toNat < ns.length := by omega
      have e : ns.getD k.toNat 0 = ns[k.toNat] := by rw [List.getD_eq_getElem?_getD, List.getElem?_eq_getElem hj]; rfl
      rw [e] at q
      refine ⟨_, rfl, _, rfl, l, _, k, .int ns[k.toNat], rfl, rfl, hS, at_of (j := k.toNat) (by omega) (by rw [List.getElem?_map, List.getElem?_eq_getElem hj]; rfl), q⟩
    · have hge : ¬ k < ((ns.map V.int).length : Int) := fun e => hge (decide_eq_true e)
      rw [List.length_map] at hge
      have e : ns.getD k.toNat 0 = 0 := by rw [List.getD_eq_getElem?_getD, List.getElem?_eq_none (by omega)]; rfl
      rw [e] at q
      exact q

theorem ok_law_is_integer (T : Txt K mg a) : ∃ fd, FnOk P w K mg base CX0 1 a.d_law_is_integer fd ["actual"] (spIsInt K) ∧ Binds K fd ["actual"] [] := by
  obtain ⟨fd, F, b⟩ := T.d_law_is_integer.F
  refine ⟨fd, F.ok sc_law_is_integer (fun vs H Q E h => ?_) (fun cdv A outer s H vs Q E hr h => ?_), b⟩
  · obtain ⟨_, rfl, _⟩ := h
    rfl
  · obtain ⟨i, rfl, k⟩ := h
    refine ⟨_, (pss_one (ps_ret (pe_and (pe_callB call_isi (by rfl) T.n_isinstance (by decide +kernel) (pa_cons (pv 0) (pa_cons (pe_bltn (v := .ty "int") (u := .type "int") (by rfl) T.n_int (by decide +kernel) rfl) pa_nil))) (pe_one (pe_not (pe_callB call_isi (by rfl) T.n_isinstance (by decide +kernel) (pa_cons (pv 0) (pa_cons (pe_bltn (v := .ty "bool") (u := .type "bool") (by rfl) T.n_bool (by decide +kernel) rfl) pa_nil)))))))), ?_⟩
    walk_at "rs"
    refine ⟨_, _, .type "int", .type "int", true, rfl, .ty _, .base (.int _), kit_ty (by decide +kernel), ?_⟩
    walk_at "rs"
    refine ⟨_, _, .type "int", .type "bool", false, rfl, .ty _, .base (.int _), kit_ty (by decide +kernel), ?_⟩
    walk_at "rs"
    exact k

theorem ok_law_row (T : Txt K mg a) : ∃ fd, FnOk P w K mg base CX0 1 a.d_law_row fd ["cell", "count", "size"] (spRow K) ∧ Binds K fd ["cell", "count", "size"] [] := by
  obtain ⟨fd, F, b⟩ := T.d_law_row.F
  refine ⟨fd, F.ok sc_law_row (fun vs H Q E h => ?_) (fun cdv A outer s H vs Q E hr h => ?_), b⟩
  · obtain ⟨_, _, _, rfl, _⟩ := h
    rfl
  · obtain ⟨cell, count, size, rfl, c0, c1, z0, z1, k⟩ := h
    refine ⟨_, (pss_cons (ps_set (i := 3) sc_law_row.nd rfl (Or.inl rfl) (pv 0))
      (pss_cons (ps_set (i := 4) sc_law_row.nd rfl (Or.inl rfl) (pe_lst pa_nil))
      (pss_cons (ps_for PassesOwn.never rfl (pi_range1 rfl T.n_range (pa_cons (pv 1) pa_nil)) (pg_name (i := 5) sc_law_row.nd rfl (Or.inl rfl))
      (pss_one (ps_if (pt_cmpR op_ge (pv 0) (pe_op op_pow pe_int pe_int) (nomark _))
        (pss_cons (ps_expr (pe_bm PySem.F.plainAttrs_list PySem.F.slot_list_append PySem.F.type_list_append mt_append (pv 4) (pa_cons (pe_op op_mod (pe_callTy call_int1 (by rfl) T.n_int (by decide +kernel) (pa_cons (pv 3) pa_nil)) (pv 2)) pa_nil)))
          (pss_one (ps_set (i := 3) sc_law_row.nd rfl (Or.inl rfl) (pe_op op_fdivN (pv 3) (pv 2)))))
        (pss_cons (ps_set (i := 3) sc_law_row.nd rfl (Or.inl rfl) (pe_op op_mod (pe_callTy call_int1 (by rfl) T.n_int (by decide +kernel) (pa_cons (pe_op op_add (pe_op op_mul (pv 3) pe_int) pe_int) pa_nil)) pe_int))
          (pss_one (ps_expr (pe_bm PySem.F.plainAttrs_list PySem.F.slot_list_append PySem.F.type_list_append mt_append (pv 4) (pa_cons (pe_op op_mod (pe_op op_mod (pe_callTy call_int1 (by rfl) T.n_int (by decide +kernel) (pa_cons (pe_op op_add (pe_op op_mul (pv 3) pe_int) (pe_op op_mul (pv 5) pe_int)) pa_nil)) pe_int) (pv 2)) pa_nil))))))))
      (pss_one (ps_ret (pv 4)))))), ?_⟩
    walk_at "rs"
    refine ⟨(by show 0 ≤ sizeLine; decide), fun p hp => ?_⟩
    walk_at "rs"
    refine ⟨(by show -(2 ^ 62 : Int) ≤ _; omega), (by show _ < (2 ^ 62 : Int); omega), ?_⟩
    refine for_range (lo := 0) (n := count.toNat) (fun i σ H2 => ∃ (st : Int) (row : List Int) (v5 : Option V), σ = [some (.int cell), some (.int count), some (.int size), some (.int st), some (.ref p), v5] ∧ Same H H2 ∧
      H2 p = some (.lst (row.map V.int)) ∧ row.length = i ∧ ∀ x ∈ row, 0 ≤ x ∧ x < size) ⟨_, [], _, rfl, same_new hp, upd_same, rfl, fun x hx => nomatch hx⟩ ?_ ?_
    · rintro i σ H2 hi ⟨st, row, v5, rfl, s2, hrow, hlen, hb⟩
      have fit : (row.map V.int).length < sizeLine := by
        rw [List.length_map]
        exact small1000 (by omega)
      have grow : ∀ z : Int, 0 ≤ z → z < size → ∀ x ∈ row ++ [z], 0 ≤ x ∧ x < size := fun z h0 h1 x hx => by
        rcases List.mem_append.mp hx with hx | hx
        · exact hb x hx
        · rw [List.mem_singleton.mp hx]
          exact ⟨h0, h1⟩
      walk_at "rs"
      refine ite2 (fun c1 => ?_) (fun c1 => ?_)
      · walk_at "rs"
        refine ⟨.inl ⟨rfl, _, SqL.of hrow⟩, ?_⟩
        walk_at "rs"
        refine ⟨p, _, _, rfl, rfl, hrow, fit, ?_⟩
        walk_at "rs"
        refine ⟨(show CDivN _ _ from ⟨by omega, by omega⟩), ?_⟩
        exact ⟨_, row ++ [st % size], _, rfl, same_upd s2 hp, by rw [upd_same]; simp, by simp [hlen], grow _ (Int.emod_nonneg _ (by omega)) (Int.emod_lt_of_pos _ z0)⟩
      · walk_at "rs"
        refine ⟨.inl ⟨rfl, _, SqL.of hrow⟩, ?_⟩
        walk_at "rs"
        refine ⟨p, _, _, rfl, rfl, hrow, fit, ?_⟩
        exact ⟨_, row ++ [((st * 48271 + 12345) % 2147483647 * 69621 + (i : Int) * 7919) % 2147483647 % size], _, rfl, same_upd s2 hp, by rw [upd_same]; simp, by simp [hlen], grow _ (Int.emod_nonneg _ (by omega)) (Int.emod_lt_of_pos _ z0)⟩
    · rintro σ H2 ⟨st, row, v5, rfl, s2, hrow, hlen, hb⟩
      walk_at "rs"
      exact k p row H2 s2 hrow hlen hb hp

theorem at_row {row : List Int} {i : Int} {n : Nat} (hl : row.length = n) (h0 : 0 ≤ i) (h1 : i < n) : atI (row.map V.int) i = some (.int (row.getD i.toNat 0)) := by
  have e : i = (i.toNat : Int) := by omega
  rw [e]
  refine atI_nat ?_
  rw [Int.toNat_natCast]
  exact at_ints (by omega)
theorem ok_law_number (T : Txt K mg a) : ∃ fd, FnOk P w K mg base CX0 1 a.d_law_number fd ["cell"] (spNum K) ∧ Binds K fd ["cell"] [] := by
  obtain ⟨fd, F, b⟩ := T.d_law_number.F
  refine ⟨fd, F.ok sc_law_number (fun vs H Q E h => ?_) (fun cdv A outer s H vs Q E hr h => ?_), b⟩
  · obtain ⟨_, rfl, _⟩ := h
    rfl
  · obtain ⟨c, rfl, k⟩ := h
    refine ⟨_, (pss_cons (ps_if (pt_cmpR op_eq (pe_op op_mod (pe_callTy call_int1 (by rfl) T.n_int (by decide +kernel) (pa_cons (pv 0) pa_nil)) pe_int) pe_int (nomark _))
      (pss_one (ps_ret (pe_op op_mod (pe_op op_fdiv (pv 0) pe_int) pe_int)))
      pss_nil)
      (pss_one (ps_ret (pe_op op_mod (pe_op op_fdiv (pv 0) pe_int) (pe_op op_pow pe_int pe_int))))), ?_⟩
    have a1 : 0 ≤ c / 3 % 10 ∧ c / 3 % 10 < 10 := ⟨Int.emod_nonneg _ (by decide), Int.emod_lt_of_pos _ (by decide)⟩
    have a2 : 0 ≤ c / 3 % 1000000000 ∧ c / 3 % 1000000000 < 1000000000 := ⟨Int.emod_nonneg _ (by decide), Int.emod_lt_of_pos _ (by decide)⟩
    walk_at "rs"
    refine ite2 (fun c1 => ?_) (fun c1 => ?_)
    · walk_at "rs"
      exact k _ a1.1 (by omega)
    · walk_at "rs"
      have e : (10 : Int) ^ Int.toNat 9 = 1000000000 := by decide
      show Q (.int (c / 3 % 10 ^ Int.toNat 9)) H
      rw [e]
      exact k _ a2.1 a2.2
theorem ok_law_name (T : Txt K mg a) : ∃ fd, FnOk P w K mg base CX0 2 a.d_law_name fd ["cell"] (spName K) ∧ Binds K fd ["cell"] [] := by
  obtain ⟨fd, F, b⟩ := T.d_law_name.F
  obtain ⟨fd_law_row, G_law_row, b_law_row⟩ := ok_law_row (P := P) (w := w) (base := base) T
  refine ⟨fd, F.ok sc_law_name (fun vs H Q E h => ?_) (fun cdv A outer s H vs Q E hr h => ?_), b⟩
  · obtain ⟨_, rfl, _⟩ := h
    rfl
  · obtain ⟨c, rfl, k⟩ := h
    refine ⟨_, (pss_cons (ps_set (i := 1) sc_law_name.nd rfl (Or.inl rfl) pe_str)
      (pss_cons (ps_set (i := 2) sc_law_name.nd rfl (Or.inl rfl) (pe_call G_law_row (hr.mono (by decide)) rfl T.d_law_row.g T.d_law_row.kp b_law_row .nil pass0 (pa_cons (pe_op op_fdiv (pv 0) pe_int) (pa_cons pe_int (pa_cons pe_int pa_nil)))))
      (pss_cons (ps_set (i := 3) sc_law_name.nd rfl (Or.inl rfl) (pe_ix ix_str (pv 1) (pe_op op_mod (pe_callTy call_int1 (by rfl) T.n_int (by decide +kernel) (pa_cons (pe_ix ix_list (pv 2) pe_int (fun _ _ => rfl)) pa_nil)) pe_int) (fun _ _ => rfl)))
      (pss_cons (ps_for PassesOwn.never rfl (pi_range2 rfl T.n_range (pa_cons pe_int (pa_cons (pe_op op_add pe_int (pe_op op_mod (pe_callTy call_int1 (by rfl) T.n_int (by decide +kernel) (pa_cons (pv 0) pa_nil)) pe_int)) pa_nil))) (pg_name (i := 4) sc_law_name.nd rfl (Or.inl rfl))
      (pss_one (ps_set (i := 3) sc_law_name.nd rfl (Or.inl rfl) (pe_op op_add_str (pv 3) (pe_ix ix_str (pv 1) (pe_ix ix_list (pv 2) (pv 4) (fun _ _ => rfl)) (fun _ _ => rfl))))))
      (pss_one (ps_ret (pv 3))))))), ?_⟩
    walk_at "rs"
    refine ⟨_, _, _, rfl, by decide, by decide, by decide, by decide, fun D row H1 s1 hD lrow hrow _ => ?_⟩
    have lrow : row.length = 60 := lrow
    have d0 : 0 ≤ row.getD 0 0 % 26 := Int.emod_nonneg _ (by decide)
    have d1 : row.getD 0 0 % 26 < 26 := Int.emod_lt_of_pos _ (by decide)
    have g0 : 0 ≤ c % 60 := Int.emod_nonneg _ (by decide)
    have g1 : c % 60 < 60 := Int.emod_lt_of_pos _ (by decide)
    walk_at "rs"
    refine ⟨D, _, _, _, rfl, rfl, SqL.of hD, at_row lrow (by decide) (by decide), ?_⟩
    walk_at "rs"
    refine ⟨_, _, _, rfl, rfl, (by rw [sizeLine_eq]; decide +kernel), sign_at d0 (by omega), ?_⟩
    walk_at "rs"
    refine ⟨_, _, rfl, ⟨(by decide), (by decide), (by show -(2 ^ 62 : Int) ≤ _; omega), (by show _ < (2 ^ 62 : Int); omega)⟩, ?_⟩
    have f0 := sign_first ⟨(row.getD (Int.toNat 0) 0 % 26).toNat, by omega⟩
    have f1 := sign_any ⟨(row.getD (Int.toNat 0) 0 % 26).toNat, by omega⟩
    refine for_range (lo := 1) (n := (1 + c % 60 - 1).toNat) (fun i σ H2 => ∃ (v4 : Option V) (x : Str) (c0 : Nat) (ll : List Nat), σ = [some (.int c), some (.str "abcdefghijklmnopqrstuvwxyz0123456789"), some (.ref D), some (.str x), v4] ∧ Same H1 H2 ∧ TL.tl x = c0 :: ll ∧ isL c0 = true ∧ (c0 :: ll).all isA = true ∧ ll.length = i)
      ⟨_, _, _, [], rfl, Same.refl H1, rfl, f0, by rw [List.all_cons, f1]; rfl, rfl⟩ ?_ ?_
    · rintro i σ H2 hi ⟨v4, x, c0, ll, rfl, s2, ex, l0, al, len⟩
      have lx : x.length = i + 1 := by rw [TL.len_tl, ex, List.length_cons, len]
      have hz := hrow (row.getD (1 + (i : Int)).toNat 0) (getD_mem (by omega))
      have fa := sign_any ⟨(row.getD (1 + (i : Int)).toNat 0).toNat, by omega⟩
      walk_at "rs"
      refine ⟨D, _, _, _, rfl, rfl, SqL.of (s2 _ _ hD), at_row lrow (by omega) (by omega), ?_⟩
      refine ⟨_, _, _, rfl, rfl, (by rw [sizeLine_eq]; decide +kernel), sign_at hz.1 hz.2, ?_⟩
      refine ⟨_, _, rfl, rfl, (by rw [lx, sizeLine_eq]; show i + 1 + 1 ≤ 16777216; omega), ?_⟩
      refine ⟨_, _, c0, ll ++ [(TL.tl "abcdefghijklmnopqrstuvwxyz0123456789").getD (row.getD (1 + (i : Int)).toNat 0).toNat 0], rfl, s2, ?_, l0, ?_, by rw [List.length_append, len]; rfl⟩
      · rw [TL.tl_append, ex]
        rfl
      · rw [← List.cons_append, List.all_append, al, List.all_cons, fa]
        rfl
    · rintro σ H2 ⟨v4, x, c0, ll, rfl, s2, ex, l0, al, len⟩
      walk_at "rs"
      refine k x H2 (s1.trans s2) ?_
      unfold blkB
      rw [ex]
      show (decide (ll.length + 1 ≤ 60) && (isL c0 && (c0 :: ll).all isA)) = true
      rw [decide_eq_true (by omega), l0, al]
      rfl
theorem ok_law_line (T : Txt K mg a) : ∃ fd, FnOk P w K mg base CX0 1 a.d_law_line fd ["letter"] (spLine K) ∧ Binds K fd ["letter"] [] := by
  obtain ⟨fd, F, b⟩ := T.d_law_line.F
  refine ⟨fd, F.ok sc_law_line (fun vs H Q E h => ?_) (fun cdv A outer s H vs Q E hr h => ?_), b⟩
  · obtain ⟨_, _, rfl, _⟩ := h
    rfl
  · obtain ⟨t, x, rfl, hx, w0, w1, hs, k⟩ := h
    obtain ⟨p, ht, hp⟩ := hx
    have hp' : H p = some (.tup x.m.vals) := hp
    have l5 := vals_len x.m
    refine ⟨_, (pss_cons (ps_set (i := 1) sc_law_line.nd rfl (Or.inl rfl) (pe_lst (pa_cons (pe_callTy cr_strA (by rfl) T.n_str (by decide +kernel) (pa_cons (pe_ix ix_tup (pv 0) pe_int (fun _ _ => rfl)) pa_nil)) pa_nil)))
      (pss_cons (ps_for PassesOwn.never rfl (pi_tup (pe_ix ix_tup (pv 0) pe_int (fun _ _ => rfl))) (pg_name (i := 2) sc_law_line.nd rfl (Or.inl rfl))
      (pss_one (ps_if (pt_cmpR op_isN (pv 2) pe_non (nomark _))
        (pss_one (ps_expr (pe_bm PySem.F.plainAttrs_list PySem.F.slot_list_append PySem.F.type_list_append mt_append (pv 1) (pa_cons pe_str pa_nil))))
        (pss_one (ps_expr (pe_bm PySem.F.plainAttrs_list PySem.F.slot_list_append PySem.F.type_list_append mt_append (pv 1) (pa_cons (pe_callTy cr_strA (by rfl) T.n_str (by decide +kernel) (pa_cons (pv 2) pa_nil)) pa_nil)))))))
      (pss_one (ps_ret (pe_join pe_str (pv 1)))))), ?_⟩
    walk_at "rs"
    refine ⟨_, _, _, _, rfl, rfl, SqT.of ht, rfl, ?_⟩
    walk_at "rs"
    refine ⟨log_small w0 w1, ?_⟩
    refine ⟨(by show 1 ≤ sizeLine; decide), fun W hW => ?_⟩
    have s1 := same_new (o := .lst [V.str (toString x.w)]) hW
    walk_at "rs"
    refine ⟨_, _, _, _, rfl, rfl, SqT.of (s1 _ _ ht), rfl, ?_⟩
    walk_at "rs"
    refine ⟨⟨_, SqT.of (s1 _ _ hp')⟩, for_tup (K := K) (a := p) (xs := x.m.vals) (fun i σ H2 => ∃ v2 : Option V, σ = [some (.ref t), some (.ref W), v2] ∧ Same H H2 ∧ H2 W = some (.lst (((toString x.w : Str) :: (x.m.vals.take i).map wordV).map V.str)))
      ⟨_, rfl, s1, by rw [upd_same]; rfl⟩ (fun i σ H2 _ ⟨_, _, s2, _⟩ => SqT.of (s2 _ _ hp')) ?_ ?_⟩
    · rintro i y σ H2 hy ⟨v2, rfl, s2, hw2⟩
      have hi : i < x.m.vals.length := (List.getElem?_eq_some_iff.mp hy).1
      have et : x.m.vals.take (i + 1) = x.m.vals.take i ++ [y] := by rw [List.take_add_one, hy]; rfl
      have hsy := hs y (List.mem_of_getElem? hy)
      have lw : (((toString x.w : Str) :: (x.m.vals.take i).map wordV).map V.str).length < sizeLine := by
        rw [List.length_map, List.length_cons, List.length_map, List.length_take]
        exact small1000 (by omega)
      have fin : ∀ z : Str, z = wordV y → ∃ v2 : Option V, [some (V.ref t), some (.ref W), some y] = [some (V.ref t), some (.ref W), v2] ∧ Same H (upd H2 W (.lst (((toString x.w : Str) :: (x.m.vals.take i).map wordV).map V.str ++ [V.str z]))) ∧
          (upd H2 W (.lst (((toString x.w : Str) :: (x.m.vals.take i).map wordV).map V.str ++ [V.str z]))) W = some (.lst (((toString x.w : Str) :: (x.m.vals.take (i + 1)).map wordV).map V.str)) := fun z e => by
        refine ⟨_, rfl, same_upd s2 hW, ?_⟩
        rw [upd_same, et, e]
        simp
      rcases hsy with rfl | ⟨z, rfl, h0, h1⟩ | ⟨z, rfl, hx⟩
      · walk_at "rs"
        refine ⟨.inl ⟨rfl, _, SqL.of hw2⟩, ?_⟩
        walk_at "rs"
        refine ⟨W, _, _, rfl, rfl, hw2, lw, ?_⟩
        exact fin _ rfl
      · walk_at "rs"
        refine ⟨.inl ⟨rfl, _, SqL.of hw2⟩, ?_⟩
        walk_at "rs"
        refine ⟨log_small h0 h1, ?_⟩
        refine ⟨W, _, _, rfl, rfl, hw2, lw, ?_⟩
        exact fin _ rfl
      · walk_at "rs"
        refine ⟨.inl ⟨rfl, _, SqL.of hw2⟩, ?_⟩
        walk_at "rs"
        refine .inr ⟨z, rfl, ?_⟩
        refine ⟨W, _, _, rfl, rfl, hw2, lw, ?_⟩
        exact fin _ rfl
    · rintro σ H2 ⟨v2, rfl, s2, hw2⟩
      rw [List.take_length] at hw2
      have fit := join_fit (who := x.w) w0 w1 hs
      walk_at "rs"
      refine ⟨⟨_, rfl⟩, ?_⟩
      walk_at "rs"
      refine ⟨_, W, _, rfl, rfl, .inl (SqL.of hw2), fit, ?_⟩
      exact k _ s2
theorem ok_law_is_number (T : Txt K mg a) : ∃ fd, FnOk P w K mg base CX0 1 a.d_law_is_number fd ["word"] (spIsNum K) ∧ Binds K fd ["word"] [] := by
  obtain ⟨fd, F, b⟩ := T.d_law_is_number.F
  refine ⟨fd, F.ok sc_law_is_number (fun vs H Q E h => ?_) (fun cdv A outer s H vs Q E hr h => ?_), b⟩
  · obtain ⟨_, rfl, _⟩ := h
    rfl
  · obtain ⟨x, rfl, lx, k⟩ := h
    refine ⟨_, (pss_cons (ps_if (PW.pt (pw_or (pt_cmpR op_eq (pv 0) pe_str (nomark _)) (pw_or1 (pt_cmpR op_gt (pe_callB call_len_str (by rfl) T.n_len PySem.boot_len (pa_cons (pv 0) pa_nil)) pe_int (nomark _)))))
      (pss_one (ps_ret pe_bl))
      pss_nil)
      (pss_cons (ps_for PassesOwn.never rfl (pi_str (pv 0)) (pg_name (i := 1) sc_law_is_number.nd rfl (Or.inl rfl))
      (pss_one (ps_if (pt_cmpR op_notIn_sign (pv 1) pe_str (by rfl))
        (pss_one (ps_ret pe_bl))
        pss_nil)))
      (pss_one (ps_ret (pe_or (pe_cmpR op_eq (pv 0) pe_str (nomark _)) (pe_one (pe_cmpR op_ne (pe_ix ix_str (pv 0) pe_int (fun _ _ => rfl)) pe_str (nomark _)))))))), ?_⟩
    walk_at "rs"
    have e0 : (x = "") ↔ TL.tl x = [] := by
      constructor
      · rintro rfl
        decide +kernel
      · intro h
        refine TL.ext_tl ?_
        rw [h]
        decide +kernel
    refine ite2 (fun c1 => ?_) (fun c1 => ?_)
    · have ex : x = "" := by simpa using c1
      have : numB x = false := by rw [ex]; decide +kernel
      rw [this] at k
      walk_at "rs"
      exact k _ (Same.refl H)
    have ex : ¬ x = "" := by simpa using c1
    have ne : TL.tl x ≠ [] := fun z => ex (e0.mpr z)
    walk_at "rs"
    refine ⟨lx, ?_⟩
    walk_at "rs"
    refine ite2 (fun c2 => ?_) (fun c2 => ?_)
    · have l9 : 9 < x.length := by
        have := of_decide_eq_true c2
        omega
      rw [num_not2 l9] at k
      walk_at "rs"
      exact k _ (Same.refl H)
    have l9 : (TL.tl x).length ≤ 9 := by
      have : ¬ (9 : Int) < (x.length : Int) := fun z => c2 (decide_eq_true z)
      rw [← TL.len_tl]
      omega
    walk_at "rs"
    have esz : x.cps.size = (TL.tl x).length := by rw [← TL.len_tl]; rfl
    refine for_it walk_str (fun i σ H2 => ∃ v1 : Option V, σ = [some (.str x), v1] ∧ Same H H2 ∧ ((TL.tl x).take i).all isD = true) ⟨_, rfl, Same.refl H, rfl⟩ (fun _ _ _ _ _ => trivial) ?_ ?_
    · rintro i y σ H2 _ hi ⟨v1, rfl, s2, hall⟩ ⟨rfl, d, hd0, rfl⟩
      have hd1 : (TL.tl x)[i]? = some d := by rw [← hd0]; exact Array.getElem?_toList
      have et : (TL.tl x).take (i + 1) = (TL.tl x).take i ++ [d] := by rw [List.take_add_one, hd1]; rfl
      walk_at "rs"
      refine ite2 (fun c3 => ?_) (fun c3 => ?_)
      · have c3' : (!decide (d ∈ TL.tl "0123456789")) = true := c3
        rw [digit_mem] at c3'
        have : numB x = false := by
          cases z : numB x with
          | false => rfl
          | true =>
            have := (num_all z).1 d (List.mem_of_getElem? hd1)
            rw [isD_iff.mpr this] at c3'
            cases c3'
        rw [this] at k
        walk_at "rs"
        exact k _ s2
      · have c3' : ¬ (!decide (d ∈ TL.tl "0123456789")) = true := c3
        rw [digit_mem] at c3'
        refine ⟨_, rfl, s2, ?_⟩
        rw [et, List.all_append, hall]
        simpa using c3'
    · rintro σ H2 ⟨v1, rfl, s2, hall⟩
      rw [esz, List.take_length] at hall
      have en : numB x = (decide (x = "0") || decide ((TL.tl x).head? ≠ some 48)) := by
        unfold numB
        rw [hall, decide_eq_true ne, decide_eq_true l9]
        rfl
      have k0 := k _ s2
      rw [en] at k0
      obtain ⟨c, l, ec⟩ : ∃ c l, TL.tl x = c :: l := by
        cases e : TL.tl x with
        | nil => exact absurd e ne
        | cons c l => exact ⟨c, l, rfl⟩
      walk_at "rs"
      refine ite2 (fun c4 => ?_) (fun c4 => ?_)
      · have e0 : x = "0" := by simpa using c4
        rw [decide_eq_true e0] at k0
        exact k0
      · have e0 : ¬ x = "0" := by simpa using c4
        rw [decide_eq_false e0, ec] at k0
        walk_at "rs"
        refine ⟨_, _, c, rfl, rfl, lx, atI_nat (j := 0) (by rw [show x.cps.toList = c :: l from ec]; rfl), ?_⟩
        walk_at "rs"
        have e3 : (!decide (V.str ⟨#[c]⟩ = V.str "0")) = (false || decide ((c :: l).head? ≠ some 48)) := by
          have : (("0" : Str)) = ⟨#[48]⟩ := by decide +kernel
          rw [this]
          simp
        rw [e3]
        exact k0
theorem ok_law_is_name (T : Txt K mg a) : ∃ fd, FnOk P w K mg base CX0 1 a.d_law_is_name fd ["word"] (spIsBlk K) ∧ Binds K fd ["word"] [] := by
  obtain ⟨fd, F, b⟩ := T.d_law_is_name.F
  refine ⟨fd, F.ok sc_law_is_name (fun vs H Q E h => ?_) (fun cdv A outer s H vs Q E hr h => ?_), b⟩
  · obtain ⟨_, rfl, _⟩ := h
    rfl
  · obtain ⟨x, rfl, lx, k⟩ := h
    refine ⟨_, (pss_cons (ps_if (PW.pt (pw_or (pt_cmpR op_eq (pv 0) pe_str (nomark _)) (pw_or (pt_cmpR op_gt (pe_callB call_len_str (by rfl) T.n_len PySem.boot_len (pa_cons (pv 0) pa_nil)) pe_int (nomark _)) (pw_or1 (pt_cmpR op_notIn_sign (pe_ix ix_str (pv 0) pe_int (fun _ _ => rfl)) pe_str (by rfl))))))
      (pss_one (ps_ret pe_bl))
      pss_nil)
      (pss_cons (ps_for PassesOwn.never rfl (pi_str (pv 0)) (pg_name (i := 1) sc_law_is_name.nd rfl (Or.inl rfl))
      (pss_one (ps_if (pt_cmpR op_notIn_sign (pv 1) pe_str (by rfl))
        (pss_one (ps_ret pe_bl))
        pss_nil)))
      (pss_one (ps_ret pe_bl)))), ?_⟩
    walk_at "rs"
    refine ite2 (fun c1 => ?_) (fun c1 => ?_)
    · have ex : x = "" := by simpa using c1
      have : blkB x = false := by rw [ex]; decide +kernel
      rw [this] at k
      walk_at "rs"
      exact k _ (Same.refl H)
    have ex : ¬ x = "" := by simpa using c1
    obtain ⟨c, l, ec⟩ : ∃ c l, TL.tl x = c :: l := by
      cases e : TL.tl x with
      | nil =>
        refine absurd (TL.ext_tl ?_) ex
        rw [e]
        decide +kernel
      | cons c l => exact ⟨c, l, rfl⟩
    have eb : blkB x = (decide (l.length + 1 ≤ 60) && (isL c && (c :: l).all isA)) := by unfold blkB; rw [ec]
    rw [eb] at k
    have el : x.length = l.length + 1 := by rw [TL.len_tl, ec]; rfl
    walk_at "rs"
    refine ⟨lx, ?_⟩
    walk_at "rs"
    refine ite2 (fun c2 => ?_) (fun c2 => ?_)
    · have : ¬ (l.length + 1 ≤ 60) := by
        have := of_decide_eq_true c2
        omega
      rw [decide_eq_false this] at k
      walk_at "rs"
      exact k _ (Same.refl H)
    have l60 : l.length + 1 ≤ 60 := by
      have : ¬ (60 : Int) < (x.length : Int) := fun z => c2 (decide_eq_true z)
      omega
    rw [decide_eq_true l60, Bool.true_and] at k
    walk_at "rs"
    refine ⟨_, _, c, rfl, rfl, lx, atI_nat (j := 0) (by rw [show x.cps.toList = c :: l from ec]; rfl), ?_⟩
    walk_at "rs"
    refine ite2 (fun c3 => ?_) (fun c3 => ?_)
    · have : isL c = false := by
        unfold isL
        have c3' : (!decide (c ∈ TL.tl "abcdefghijklmnopqrstuvwxyz")) = true := c3
        simpa using c3'
      rw [this] at k
      walk_at "rs"
      exact k _ (Same.refl H)
    have : isL c = true := by
      unfold isL
      have c3' : ¬ (!decide (c ∈ TL.tl "abcdefghijklmnopqrstuvwxyz")) = true := c3
      simpa using c3'
    rw [this, Bool.true_and] at k
    walk_at "rs"
    have esz : x.cps.size = (TL.tl x).length := by rw [← TL.len_tl]; rfl
    refine for_it walk_str (fun i σ H2 => ∃ v1 : Option V, σ = [some (.str x), v1] ∧ Same H H2 ∧ ((TL.tl x).take i).all isA = true) ⟨_, rfl, Same.refl H, rfl⟩ (fun _ _ _ _ _ => trivial) ?_ ?_
    · rintro i y σ H2 _ hi ⟨v1, rfl, s2, hall⟩ ⟨rfl, d, hd0, rfl⟩
      have hd1 : (TL.tl x)[i]? = some d := by rw [← hd0]; exact Array.getElem?_toList
      have et : (TL.tl x).take (i + 1) = (TL.tl x).take i ++ [d] := by rw [List.take_add_one, hd1]; rfl
      walk_at "rs"
      refine ite2 (fun c4 => ?_) (fun c4 => ?_)
      · have c4' : isA d = false := by
          unfold isA
          have c4' : (!decide (d ∈ TL.tl "abcdefghijklmnopqrstuvwxyz0123456789")) = true := c4
          simpa using c4'
        have : (c :: l).all isA = false := by
          cases z : (c :: l).all isA with
          | false => rfl
          | true =>
            rw [← ec] at z
            have := List.all_eq_true.mp z d (List.mem_of_getElem? hd1)
            rw [c4'] at this
            cases this
        rw [this] at k
        walk_at "rs"
        exact k _ s2
      · have c4' : isA d = true := by
          unfold isA
          have c4' : ¬ (!decide (d ∈ TL.tl "abcdefghijklmnopqrstuvwxyz0123456789")) = true := c4
          simpa using c4'
        refine ⟨_, rfl, s2, ?_⟩
        rw [et, List.all_append, hall]
        simpa using c4'
    · rintro σ H2 ⟨v1, rfl, s2, hall⟩
      rw [esz, List.take_length, ec] at hall
      rw [hall] at k
      walk_at "rs"
      exact k _ s2
theorem ok_law_letter (T : Txt K mg a) : ∃ fd, FnOk P w K mg base CX0 3 a.d_law_letter fd ["cell", "more"] (spLetter K) ∧ Binds K fd ["cell", "more"] [] := by
  obtain ⟨fd, F, b⟩ := T.d_law_letter.F
  obtain ⟨fd_law_number, G_law_number, b_law_number⟩ := ok_law_number (P := P) (w := w) (base := base) T
  obtain ⟨fd_law_name, G_law_name, b_law_name⟩ := ok_law_name (P := P) (w := w) (base := base) T
  refine ⟨fd, F.ok sc_law_letter (fun vs H Q E h => ?_) (fun cdv A outer s H vs Q E hr h => ?_), b⟩
  · obtain ⟨_, _, rfl, _⟩ := h
    rfl
  · obtain ⟨c, m, rfl, k⟩ := h
    refine ⟨_, (pss_cons (ps_set (i := 2) sc_law_letter.nd rfl (Or.inl rfl) (pe_call G_law_number (hr.mono (by decide)) rfl T.d_law_number.g T.d_law_number.kp b_law_number .nil pass0 (pa_cons (pv 0) pa_nil)))
      (pss_cons (ps_set (i := 3) sc_law_letter.nd rfl (Or.inl rfl) (pe_call G_law_number (hr.mono (by decide)) rfl T.d_law_number.g T.d_law_number.kp b_law_number .nil pass0 (pa_cons (pe_op op_fdiv (pv 0) pe_int) pa_nil)))
      (pss_cons (ps_set (i := 4) sc_law_letter.nd rfl (Or.inl rfl) (pe_call G_law_number (hr.mono (by decide)) rfl T.d_law_number.g T.d_law_number.kp b_law_number .nil pass0 (pa_cons (pe_op op_fdiv (pv 0) pe_int) pa_nil)))
      (pss_cons (ps_set (i := 5) sc_law_letter.nd rfl (Or.inl rfl) (pe_call G_law_name (hr.mono (by decide)) rfl T.d_law_name.g T.d_law_name.kp b_law_name .nil pass0 (pa_cons (pv 1) pa_nil)))
      (pss_cons (ps_if (pt_cmpR op_eq (pe_op op_mod (pe_callTy call_int1 (by rfl) T.n_int (by decide +kernel) (pa_cons (pv 0) pa_nil)) pe_int) pe_int (nomark _))
      (pss_one (ps_ret (pe_tup (pa_cons (pv 2) (pa_cons (pe_tup (pa_cons pe_str (pa_cons (pv 3) (pa_cons (pv 4) (pa_cons (pv 5) pa_nil))))) pa_nil)))))
      pss_nil)
      (C8.pss_cut (ps_if (pt_cmpR op_eq (pe_op op_mod (pe_callTy call_int1 (by rfl) T.n_int (by decide +kernel) (pa_cons (pv 1) pa_nil)) pe_int) pe_int (nomark _))
      (pss_one (ps_set (i := 5) sc_law_letter.nd rfl (Or.inl rfl) pe_non))
      pss_nil)
      (pss_cons (ps_if (pt_cmpR op_lt (pe_op op_mod (pe_callTy call_int1 (by rfl) T.n_int (by decide +kernel) (pa_cons (pv 0) pa_nil)) pe_int) pe_int (nomark _))
      (pss_one (ps_ret (pe_tup (pa_cons (pv 2) (pa_cons (pe_tup (pa_cons pe_str (pa_cons (pv 3) (pa_cons (pv 4) (pa_cons (pv 5) pa_nil))))) pa_nil)))))
      pss_nil)
      (pss_cons (ps_set (i := 6) sc_law_letter.nd rfl (Or.inl rfl) pe_non)
      (C8.pss_cut (ps_if (PW.pt (pw_and (pt_cmpR op_gt (pv 4) pe_int (nomark _)) (pw_and1 (pt_cmpR op_eq (pe_op op_mod (pe_op op_fdiv (pv 1) pe_int) pe_int) pe_int (nomark _)))))
      (pss_one (ps_set (i := 6) sc_law_letter.nd rfl (Or.inl rfl) (pe_op op_mod (pe_op op_fdiv (pv 1) pe_int) (pv 4))))
      pss_nil)
      (pss_one (ps_ret (pe_tup (pa_cons (pv 2) (pa_cons (pe_tup (pa_cons pe_str (pa_cons (pv 3) (pa_cons (pv 4) (pa_cons (pv 5) (pa_cons (pv 6) pa_nil)))))) pa_nil)))))))))))))), ?_⟩
    walk_at "rs"
    refine fun sd sd0 sd1 => ?_
    walk_at "rs"
    refine fun ht ht0 ht1 => ?_
    walk_at "rs"
    refine fun tu tu0 tu1 => ?_
    walk_at "rs"
    refine fun x H1 s1 hx => ?_
    walk_at "rs"
    have gb : ∀ y, some x = some y → blkB y = true := fun y e => by cases e; exact hx
    refine ite2 (fun c1 => ?_) (fun c1 => ?_)
    · walk_at "rs"
      refine ⟨(by show 4 ≤ sizeLine; decide), fun q hq => ?_⟩
      have s2 := same_new (o := .tup [V.str "proposal", V.int ht, V.int tu, V.str x]) hq
      refine ⟨(by show 2 ≤ sizeLine; decide), fun p hp => ?_⟩
      have s3 := same_new (o := .tup [V.int sd, V.ref q]) hp
      exact k p ⟨sd, ⟨.prop, ht, tu, some x, none⟩⟩ _ ((s1.trans s2).trans s3) ⟨q, upd_same, s3 _ _ upd_same⟩ ⟨ht0, ht1, tu0, tu1, gb, fun _ z => (nomatch z), fun y z => (nomatch z), fun _ => rfl⟩ sd0 sd1
    walk_at "rs"
    refine ⟨fun σ H2 => ∃ bl : Option Str, σ = [some (.int c), some (.int m), some (.int sd), some (.int ht), some (.int tu), some (oS bl), none] ∧ H1 = H2 ∧ ∀ y, bl = some y → blkB y = true, ?_, ?_⟩
    · walk_at "rs"
      refine ite2 (fun c2 => ?_) (fun c2 => ?_)
      · walk_at "rs"
        exact ⟨none, rfl, rfl, fun y z => (nomatch z)⟩
      · exact ⟨some x, rfl, rfl, gb⟩
    rintro σ _ ⟨bl, rfl, rfl, gbl⟩
    walk_at "rs"
    refine ite2 (fun c1 => ?_) (fun c1 => ?_)
    · walk_at "rs"
      refine ⟨(by show 4 ≤ sizeLine; decide), fun q hq => ?_⟩
      have s2 := same_new (o := .tup [V.str "precommit", V.int ht, V.int tu, oS bl]) hq
      refine ⟨(by show 2 ≤ sizeLine; decide), fun p hp => ?_⟩
      have s3 := same_new (o := .tup [V.int sd, V.ref q]) hp
      exact k p ⟨sd, ⟨.com, ht, tu, bl, none⟩⟩ _ ((s1.trans s2).trans s3) ⟨q, upd_same, s3 _ _ upd_same⟩ ⟨ht0, ht1, tu0, tu1, gbl, fun z => (nomatch z), fun y z => (nomatch z), fun _ => rfl⟩ sd0 sd1
    walk_at "rs"
    refine ⟨fun σ H2 => ∃ ln : Option Int, σ = [some (.int c), some (.int m), some (.int sd), some (.int ht), some (.int tu), some (oS bl), some (oI ln)] ∧ H1 = H2 ∧ ∀ y, ln = some y → 0 ≤ y ∧ y < tu, ?_, ?_⟩
    · walk_at "rs"
      refine ite2 (fun c2 => ?_) (fun c2 => ?_)
      · have tp : 0 < tu := of_decide_eq_true c2
        walk_at "rs"
        refine ite2 (fun c3 => ?_) (fun c3 => ?_)
        · walk_at "rs"
          exact ⟨some (m / 8 % tu), rfl, rfl, fun y z => by cases z; exact ⟨Int.emod_nonneg _ (by omega), Int.emod_lt_of_pos _ tp⟩⟩
        · exact ⟨none, rfl, rfl, fun y z => (nomatch z)⟩
      · exact ⟨none, rfl, rfl, fun y z => (nomatch z)⟩
    rintro σ _ ⟨ln, rfl, rfl, gln⟩
    walk_at "rs"
    refine ⟨(by show 5 ≤ sizeLine; decide), fun q hq => ?_⟩
    have s2 := same_new (o := .tup [V.str "prevote", V.int ht, V.int tu, oS bl, oI ln]) hq
    refine ⟨(by show 2 ≤ sizeLine; decide), fun p hp => ?_⟩
    have s3 := same_new (o := .tup [V.int sd, V.ref q]) hp
    exact k p ⟨sd, ⟨.pre, ht, tu, bl, ln⟩⟩ _ ((s1.trans s2).trans s3) ⟨q, upd_same, s3 _ _ upd_same⟩ ⟨ht0, ht1, tu0, tu1, gbl, fun z => (nomatch z), gln, fun z => absurd rfl z⟩ sd0 sd1
theorem ok_law_fits (T : Txt K mg a) : ∃ fd, FnOk P w K mg base CX0 2 a.d_law_fits fd ["words", "at"] (spFits K) ∧ Binds K fd ["words", "at"] [] := by
  obtain ⟨fd, F, b⟩ := T.d_law_fits.F
  obtain ⟨fd_law_is_number, G_law_is_number, b_law_is_number⟩ := ok_law_is_number (P := P) (w := w) (base := base) T
  obtain ⟨fd_law_is_name, G_law_is_name, b_law_is_name⟩ := ok_law_is_name (P := P) (w := w) (base := base) T
  refine ⟨fd, F.ok sc_law_fits (fun vs H Q E h => ?_) (fun cdv A outer s H vs Q E hr h => ?_), b⟩
  · obtain ⟨_, _, _, rfl, _⟩ := h
    rfl
  · obtain ⟨W, ws, at_, rfl, hW, hk, sw, pre, k⟩ := h
    have hx : ws.getD at_ "" ∈ ws := getD_mem2 hk
    refine ⟨_, (pss_cons (ps_set (i := 2) sc_law_fits.nd rfl (Or.inl rfl) (pe_ix ix_list (pv 0) (pv 1) (fun _ _ => rfl)))
      (pss_cons (ps_if (PW.pt (pw_or (pt_cmpR op_eq (pv 1) pe_int (nomark _)) (pw_or (pt_cmpR op_eq (pv 1) pe_int (nomark _)) (pw_or1 (pt_cmpR op_eq (pv 1) pe_int (nomark _))))))
      (pss_one (ps_ret (pe_call G_law_is_number (hr.mono (by decide)) rfl T.d_law_is_number.g T.d_law_is_number.kp b_law_is_number .nil pass0 (pa_cons (pv 2) pa_nil))))
      pss_nil)
      (pss_cons (ps_if (pt_cmpR op_eq (pv 1) pe_int (nomark _))
      (pss_one (ps_ret (pe_cmpR op_in_seq (pv 2) (pe_tup (pa_cons pe_str (pa_cons pe_str (pa_cons pe_str pa_nil)))) (by rfl))))
      pss_nil)
      (pss_cons (ps_if (pt_cmpR op_eq (pv 1) pe_int (nomark _))
      (pss_one (ps_ret (pe_or (pe_call G_law_is_name (hr.mono (by decide)) rfl T.d_law_is_name.g T.d_law_is_name.kp b_law_is_name .nil pass0 (pa_cons (pv 2) pa_nil)) (pe_one (pe_and (pe_cmpR op_eq (pv 2) pe_str (nomark _)) (pe_one (pe_cmpR op_ne (pe_ix ix_list (pv 0) pe_int (fun _ _ => rfl)) pe_str (nomark _))))))))
      pss_nil)
      (pss_cons (ps_if (PW.pt (pw_and (pt_cmpR op_eq (pv 1) pe_int (nomark _)) (pw_and1 (pt_cmpR op_eq (pe_ix ix_list (pv 0) pe_int (fun _ _ => rfl)) pe_str (nomark _)))))
      (pss_one (ps_ret (pe_or (pe_cmpR op_eq (pv 2) pe_str (nomark _)) (pe_one (pe_and (pe_call G_law_is_number (hr.mono (by decide)) rfl T.d_law_is_number.g T.d_law_is_number.kp b_law_is_number .nil pass0 (pa_cons (pv 2) pa_nil)) (pe_one (pe_cmpR op_lt (pe_callTy call_int_str (by rfl) T.n_int (by decide +kernel) (pa_cons (pv 2) pa_nil)) (pe_callTy call_int_str (by rfl) T.n_int (by decide +kernel) (pa_cons (pe_ix ix_list (pv 0) pe_int (fun _ _ => rfl)) pa_nil)) (nomark _))))))))
      pss_nil)
      (pss_one (ps_ret pe_bl))))))), ?_⟩
    walk_at "rs"
    refine ⟨W, _, _, _, rfl, rfl, SqL.of hW, at_strs hk, ?_⟩
    have lx := sw _ hx
    have six : 6 ≤ at_ → fitsM ws at_ = false := fun h => by
      unfold fitsM
      rw [if_neg (by omega), if_neg (by omega), if_neg (by omega), if_neg (by omega)]
    rcases (show at_ = 0 ∨ at_ = 1 ∨ at_ = 2 ∨ at_ = 3 ∨ at_ = 4 ∨ at_ = 5 ∨ 6 ≤ at_ by omega) with rfl | rfl | rfl | rfl | rfl | rfl | h6
    · walk_at "rs"
      refine ⟨lx, fun H1 s1 => ?_⟩
      have e : fitsM ws 0 = numB (ws.getD 0 "") := by unfold fitsM; rw [if_pos (by decide)]
      rw [e] at k
      exact k _ s1
    · walk_at "rs"
      refine ⟨(by show 3 ≤ sizeLine; decide), fun t3 ht3 => ?_⟩
      refine ⟨t3, _, rfl, .inr (SqT.of upd_same), rfl, rfl, ?_⟩
      rw [if_neg Bool.false_ne_true, inV_kinds]
      have e : fitsM ws 1 = (kdOf (ws.getD 1 "")).isSome := by unfold fitsM; rw [if_neg (by decide), if_pos rfl]
      rw [e] at k
      exact k _ (same_new ht3)
    · walk_at "rs"
      refine ⟨lx, fun H1 s1 => ?_⟩
      have e : fitsM ws 2 = numB (ws.getD 2 "") := by unfold fitsM; rw [if_pos (by decide)]
      rw [e] at k
      exact k _ s1
    · walk_at "rs"
      refine ⟨lx, fun H1 s1 => ?_⟩
      have e : fitsM ws 3 = numB (ws.getD 3 "") := by unfold fitsM; rw [if_pos (by decide)]
      rw [e] at k
      exact k _ s1
    · walk_at "rs"
      have e : fitsM ws 4 = (blkB (ws.getD 4 "") || (decide (ws.getD 4 "" = "-") && decide (ws.getD 1 "" ≠ "proposal"))) := by unfold fitsM; rw [if_neg (by decide), if_neg (by decide), if_pos rfl]
      rw [e] at k
      refine ⟨lx, fun H1 s1 => ?_⟩
      refine ⟨_, rfl, ?_⟩
      refine ite2 (fun c1 => ?_) (fun c1 => ?_)
      · rw [c1] at k
        exact k _ s1
      have c1 : blkB (ws.getD 4 "") = false := by simpa using c1
      rw [c1, Bool.false_or] at k
      walk_at "rs"
      refine ite2 (fun c2 => ?_) (fun c2 => ?_)
      · have e2 : ws.getD 4 "" = "-" := by simpa using c2
        rw [decide_eq_true e2, Bool.true_and] at k
        walk_at "rs"
        refine ⟨W, _, _, .str (ws.getD 1 ""), rfl, rfl, SqL.of (s1 _ _ hW), at_strs (k := 1) (by omega), ?_⟩
        walk_at "rs"
        have e3 : (!decide (V.str (ws.getD 1 "") = V.str "proposal")) = decide (ws.getD 1 "" ≠ "proposal") := by simp
        rw [e3]
        exact k _ s1
      · have e2 : ¬ ws.getD 4 "" = "-" := by simpa using c2
        rw [decide_eq_false e2, Bool.false_and] at k
        exact k _ s1
    · walk_at "rs"
      have n3 : numB (ws.getD 3 "") = true := by
        have := pre 3 (by decide)
        unfold fitsM at this
        rwa [if_pos (by decide)] at this
      refine ⟨W, _, _, .str (ws.getD 1 ""), rfl, rfl, SqL.of hW, at_strs (k := 1) (by omega), ?_⟩
      walk_at "rs"
      refine ite2 (fun c0 => ?_) (fun c0 => ?_)
      · have e0 : ws.getD 1 "" = "prevote" := by simpa using c0
        have e : fitsM ws 5 = (decide (ws.getD 5 "" = "-") || (numB (ws.getD 5 "") && decide (numV (ws.getD 5 "") < numV (ws.getD 3 "")))) := by unfold fitsM; rw [if_neg (by decide), if_neg (by decide), if_neg (by decide), if_pos ⟨rfl, e0⟩]
        rw [e] at k
        walk_at "rs"
        refine ite2 (fun c1 => ?_) (fun c1 => ?_)
        · have e2 : ws.getD 5 "" = "-" := by simpa using c1
          rw [decide_eq_true e2, Bool.true_or] at k
          exact k _ (Same.refl H)
        have e2 : ¬ ws.getD 5 "" = "-" := by simpa using c1
        rw [decide_eq_false e2, Bool.false_or] at k
        walk_at "rs"
        refine ⟨lx, fun H1 s1 => ?_⟩
        refine ⟨_, rfl, ?_⟩
        refine ite2 (fun c2 => ?_) (fun c2 => ?_)
        · rw [c2, Bool.true_and] at k
          have v5 := num_int c2
          have v3 := num_int n3
          walk_at "rs"
          refine ⟨_, _, rfl, v5.1, Nat.le_trans v5.2 (by decide), ?_⟩
          walk_at "rs"
          refine ⟨W, _, _, .str (ws.getD 3 ""), rfl, rfl, SqL.of (s1 _ _ hW), at_strs (k := 3) (by omega), ?_⟩
          walk_at "rs"
          refine ⟨_, _, rfl, v3.1, Nat.le_trans v3.2 (by decide), ?_⟩
          walk_at "rs"
          exact k _ s1
        · have c2 : numB (ws.getD 5 "") = false := by simpa using c2
          rw [c2, Bool.false_and] at k
          exact k _ s1
      · have e0 : ¬ ws.getD 1 "" = "prevote" := by simpa using c0
        have e : fitsM ws 5 = false := by unfold fitsM; rw [if_neg (by decide), if_neg (by decide), if_neg (by decide), if_neg (fun z => e0 z.2)]
        rw [e] at k
        walk_at "rs"
        exact k _ (Same.refl H)
    · walk_at "rs"
      rw [six h6] at k
      refine ite2 (fun c => ?_) (fun _ => ?_)
      · exfalso
        simp at c
        omega
      walk_at "rs"
      refine ite2 (fun c => ?_) (fun _ => ?_)
      · exfalso
        simp at c
        omega
      walk_at "rs"
      refine ite2 (fun c => ?_) (fun _ => ?_)
      · exfalso
        simp at c
        omega
      walk_at "rs"
      refine ite2 (fun c => ?_) (fun _ => ?_)
      · exfalso
        simp at c
        omega
      walk_at "rs"
      refine ite2 (fun c => ?_) (fun _ => ?_)
      · exfalso
        simp at c
        omega
      walk_at "rs"
      refine ite2 (fun c => ?_) (fun _ => ?_)
      · exfalso
        simp at c
        omega
      walk_at "rs"
      exact k _ (Same.refl H)
theorem ok_law_wrong (T : Txt K mg a) : ∃ fd, FnOk P w K mg base CX0 3 a.d_law_wrong fd ["words"] (spWrong K) ∧ Binds K fd ["words"] [] := by
  obtain ⟨fd, F, b⟩ := T.d_law_wrong.F
  obtain ⟨fd_law_fits, G_law_fits, b_law_fits⟩ := ok_law_fits (P := P) (w := w) (base := base) T
  refine ⟨fd, F.ok sc_law_wrong (fun vs H Q E h => ?_) (fun cdv A outer s H vs Q E hr h => ?_), b⟩
  · obtain ⟨_, _, rfl, _⟩ := h
    rfl
  · obtain ⟨W, ws, rfl, hW, lw, sw, so, k⟩ := h
    refine ⟨_, (pss_cons (ps_set (i := 1) sc_law_wrong.nd rfl (Or.inl rfl) pe_int)
      (pss_cons (ps_for PassesOwn.never rfl (pi_range1 rfl T.n_range (pa_cons (pe_callB call_len_seq (by rfl) T.n_len PySem.boot_len (pa_cons (pv 0) pa_nil)) pa_nil)) (pg_name (i := 2) sc_law_wrong.nd rfl (Or.inl rfl))
      (pss_cons (ps_if (pt_not (pt_val (pe_call G_law_fits (hr.mono (by decide)) rfl T.d_law_fits.g T.d_law_fits.kp b_law_fits .nil pass0 (pa_cons (pv 0) (pa_cons (pv 2) pa_nil)))))
        (pss_one (ps_ret (pv 2)))
        pss_nil)
        (pss_one (ps_if (pt_cmpR (op_eqD hr.units) (pe_slice sl_list (pv 0) (po_some pe_int) (po_some pe_int)) (pe_lst (pa_cons pe_str pa_nil)) (nomark _))
        (pss_one (ps_set (i := 1) sc_law_wrong.nd rfl (Or.inl rfl) pe_int))
        pss_nil))))
      (pss_cons (ps_if (pt_cmpR op_lt (pe_callB call_len_seq (by rfl) T.n_len PySem.boot_len (pa_cons (pv 0) pa_nil)) (pv 1) (nomark _))
      (pss_one (ps_ret (pe_callB call_len_seq (by rfl) T.n_len PySem.boot_len (pa_cons (pv 0) pa_nil))))
      pss_nil)
      (pss_one (ps_ret pe_non))))), ?_⟩
    walk_at "rs"
    refine ⟨W, _, rfl, .inl (SqL.of hW), ?_⟩
    walk_at "rs"
    have hN : ((ws.map V.str).length : Int) = ws.length := by rw [List.length_map]
    refine ⟨(by show -(2 ^ 62 : Int) ≤ _; omega), (by show _ < (2 ^ 62 : Int); omega), ?_⟩
    refine for_range (lo := 0) (n := (((ws.map V.str).length : Int)).toNat) (fun i σ H2 => ∃ (v2 : Option V), σ = [some (.ref W), some (.int (if i = 0 then 5 else if 1 < ws.length ∧ ws.getD 1 "" = "prevote" then 6 else 5)), v2] ∧ Same H H2 ∧ ∀ j, j < i → fitsM ws j = true) ⟨_, rfl, Same.refl H, fun j hj => absurd hj (Nat.not_lt_zero j)⟩ ?_ ?_
    · rintro i σ H2 hi' ⟨v2, rfl, s2, hf⟩
      have hi : i < ws.length := by omega
      have e0 : (0 : Int) + (i : Int) = (i : Int) := Int.zero_add _
      rw [e0]
      walk_at "rs"
      refine ⟨W, ws, i, rfl, s2 _ _ hW, hi, sw, hf, fun H3 s3 => ?_⟩
      walk_at "rs"
      refine ite2 (fun c1 => ?_) (fun c1 => ?_)
      · have : fitsM ws i = false := by simpa using c1
        rw [wrong_at hi hf this] at k
        walk_at "rs"
        exact k _ (s2.trans s3)
      have fi : fitsM ws i = true := by simpa using c1
      have hf2 := fits_step hf fi
      walk_at "rs"
      refine ⟨W, _, rfl, SqL.of (s3 _ _ (s2 _ _ hW)), fun a1 ha1 => ?_⟩
      rw [cut12, ← List.map_drop, ← List.map_take]
      have s4 := same_new (o := .lst (((ws.drop 1).take 1).map V.str)) ha1
      have f4 := (upd_same : (upd H3 a1 (.lst (((ws.drop 1).take 1).map V.str))) a1 = _)
      generalize upd H3 a1 (.lst (((ws.drop 1).take 1).map V.str)) = H4 at s4 f4 ⊢
      refine ⟨(by show 1 ≤ sizeLine; decide), fun a2 ha2 => ?_⟩
      have s5 := same_new (o := .lst [V.str "prevote"]) ha2
      have ok1 : ∀ x ∈ (ws.drop 1).take 1, PyData.strOk x = true := fun x hx => so x (List.mem_of_mem_drop (List.mem_of_mem_take hx))
      have ok2 : ∀ x ∈ [("prevote" : Str)], PyData.strOk x = true := fun x hx => by rw [List.mem_singleton.mp hx]; decide +kernel
      refine ⟨_, _, .lst (SqL.of (s5 _ _ f4)) (dp_strs _), .lst (SqL.of upd_same) (dp_strs [("prevote" : Str)]), shaped_strs ok1, shaped_strs ok2, ?_⟩
      have s25 := ((s2.trans s3).trans s4).trans s5
      have ev : PyData.eqv (.list (((ws.drop 1).take 1).map PyData.str)) (.list ([("prevote" : Str)].map PyData.str)) = decide (1 < ws.length ∧ ws.getD 1 "" = "prevote") := by
        rw [drop1]
        by_cases h1 : 1 < ws.length
        · rw [if_pos h1]
          refine (eqv_one _ _).trans (decide_eq_decide.mpr ⟨fun z => ⟨h1, z⟩, fun z => z.2⟩)
        · rw [if_neg h1, decide_eq_false (fun z => h1 z.1)]
          exact eqv_no _
      rw [ev]
      walk_at "rs"
      refine ite2 (fun c2 => ?_) (fun c2 => ?_)
      · have c2' := of_decide_eq_true c2
        walk_at "rs"
        exact ⟨_, by rw [if_neg (Nat.succ_ne_zero i), if_pos c2']; rfl, s25, hf2⟩
      · have c2' : ¬ (1 < ws.length ∧ ws.getD 1 "" = "prevote") := fun z => c2 (decide_eq_true z)
        refine ⟨some (.int (i : Int)), ?_, s25, hf2⟩
        rw [if_neg (Nat.succ_ne_zero i), if_neg c2']
        have : (if i = 0 then (5 : Int) else 5) = 5 := by split <;> rfl
        rw [this]
        rfl
    · rintro σ H2 ⟨v2, rfl, s2, hf⟩
      rw [hN, Int.toNat_natCast] at hf
      walk_at "rs"
      refine ⟨W, _, rfl, .inl (SqL.of (s2 _ _ hW)), ?_⟩
      walk_at "rs"
      have ec : (if ws.length = 0 then (5 : Int) else if 1 < ws.length ∧ ws.getD 1 "" = "prevote" then 6 else 5) = (countM ws : Int) := by
        unfold countM
        by_cases z : ws.length = 0
        · rw [if_pos z, if_neg (fun q => by omega)]
          rfl
        · rw [if_neg z]
          by_cases q : 1 < ws.length ∧ ws.getD 1 "" = "prevote"
          · rw [if_pos q, if_pos ⟨q.2, q.1⟩]
            rfl
          · rw [if_neg q, if_neg (fun y => q ⟨y.2, y.1⟩)]
            rfl
      refine ite2 (fun c1 => ?_) (fun c1 => ?_)
      · have c1' : ((ws.map V.str).length : Int) < _ := of_decide_eq_true c1
        rw [hN, Int.toNat_natCast, ec] at c1'
        have := wrong_short hf (by omega)
        rw [this] at k
        walk_at "rs"
        refine ⟨W, _, rfl, .inl (SqL.of (s2 _ _ hW)), ?_⟩
        rw [hN]
        exact k _ s2
      · have c1' : ¬ ((ws.map V.str).length : Int) < (countM ws : Int) := fun z => c1 (decide_eq_true (by
          show ((ws.map V.str).length : Int) < (if (((ws.map V.str).length : Int)).toNat = 0 then (5 : Int) else if 1 < ws.length ∧ ws.getD 1 "" = "prevote" then 6 else 5)
          rw [hN, Int.toNat_natCast, ec, ← hN]
          exact z))
        rw [hN] at c1'
        have := wrong_no hf (by omega)
        rw [this] at k
        walk_at "rs"
        exact k _ s2
theorem okw_law_is_integer (T : Txt K mg a) : ∃ fd, FnW P w K mg base 1 a.d_law_is_integer fd ["actual"] (spIsInt K) ∧ Binds K fd ["actual"] [] := by
  obtain ⟨fd, F, b⟩ := T.d_law_is_integer.F
  refine ⟨fd, fun_okW F sc_law_is_integer (fun vs H Q E h => ?_) (fun cdv A outer s H vs Q E p hr h => ?_), b⟩
  · obtain ⟨_, rfl, _⟩ := h
    rfl
  · obtain ⟨i, rfl, k⟩ := h
    refine ⟨_, (pss_one (ps_ret (pe_and (pe_callB call_isi (by rfl) T.n_isinstance (by decide +kernel) (pa_cons (pv 0) (pa_cons (pe_bltn (v := .ty "int") (u := .type "int") (by rfl) T.n_int (by decide +kernel) rfl) pa_nil))) (pe_one (pe_not (pe_callB call_isi (by rfl) T.n_isinstance (by decide +kernel) (pa_cons (pv 0) (pa_cons (pe_bltn (v := .ty "bool") (u := .type "bool") (by rfl) T.n_bool (by decide +kernel) rfl) pa_nil)))))))), ?_⟩
    walk_at "rs"
    refine ⟨_, _, .type "int", .type "int", true, rfl, .ty _, .base (.int _), kit_ty (by decide +kernel), ?_⟩
    walk_at "rs"
    refine ⟨_, _, .type "int", .type "bool", false, rfl, .ty _, .base (.int _), kit_ty (by decide +kernel), ?_⟩
    walk_at "rs"
    exact k
theorem ok_law_value (T : Txt K mg a) : ∃ fd, FnOk P w K mg base CX0 1 a.d_law_value fd ["words"] (spValue K) ∧ Binds K fd ["words"] [] := by
  obtain ⟨fd, F, b⟩ := T.d_law_value.F
  refine ⟨fd, F.ok sc_law_value (fun vs H Q E h => ?_) (fun cdv A outer s H vs Q E hr h => ?_), b⟩
  · obtain ⟨_, _, _, rfl, _⟩ := h
    rfl
  · obtain ⟨W, ws, x, rfl, hW, hr'⟩ := h
    refine ⟨_, (pss_cons (ps_set (i := 1) sc_law_value.nd rfl (Or.inl rfl) (pe_lst pa_nil))
      (pss_cons (ps_for PassesOwn.never rfl (pi_range2 rfl T.n_range (pa_cons pe_int (pa_cons (pe_callB call_len_seq (by rfl) T.n_len PySem.boot_len (pa_cons (pv 0) pa_nil)) pa_nil))) (pg_name (i := 2) sc_law_value.nd rfl (Or.inl rfl))
      (pss_one (ps_if (pt_cmpR op_eq (pe_ix ix_list (pv 0) (pv 2) (fun _ _ => rfl)) pe_str (nomark _))
        (pss_one (ps_expr (pe_bm PySem.F.plainAttrs_list PySem.F.slot_list_append PySem.F.type_list_append mt_append (pv 1) (pa_cons pe_non pa_nil))))
        (pss_one (ps_if (pt_cmpR op_in_seq (pv 2) (pe_tup (pa_cons pe_int (pa_cons pe_int pa_nil))) (by rfl))
          (pss_one (ps_expr (pe_bm PySem.F.plainAttrs_list PySem.F.slot_list_append PySem.F.type_list_append mt_append (pv 1) (pa_cons (pe_ix ix_list (pv 0) (pv 2) (fun _ _ => rfl)) pa_nil))))
          (pss_one (ps_expr (pe_bm PySem.F.plainAttrs_list PySem.F.slot_list_append PySem.F.type_list_append mt_append (pv 1) (pa_cons (pe_callTy call_int_str (by rfl) T.n_int (by decide +kernel) (pa_cons (pe_ix ix_list (pv 0) (pv 2) (fun _ _ => rfl)) pa_nil)) pa_nil)))))))))
      (pss_one (ps_ret (pe_tup (pa_cons (pe_callTy call_int_str (by rfl) T.n_int (by decide +kernel) (pa_cons (pe_ix ix_list (pv 0) pe_int (fun _ _ => rfl)) pa_nil)) (pa_cons (pe_callTy call_tuple_of (by rfl) T.n_tuple (by decide +kernel) (pa_cons (pv 1) pa_nil)) pa_nil))))))), ?_⟩
    obtain ⟨R, sw⟩ : RWd ws x ∧ ∀ w ∈ ws, w.length ≤ 16777216 := ⟨read_words hr'.1, hr'.2.1⟩
    have k := hr'.2.2
    have lv : ws.length = x.m.vals.length + 1 := by
      have r1 := R.pre
      have r2 := R.oth
      obtain ⟨xw, ⟨mk, mh, mt, mb, ml⟩⟩ := x
      cases mk
      · exact r2 (fun z => nomatch z)
      · exact (r1 rfl).1
      · exact r2 (fun z => nomatch z)
    have l5 := vals_len x.m
    walk_at "rs"
    refine ⟨(by show 0 ≤ sizeLine; decide), fun D hD => ?_⟩
    have sD := same_new (o := .lst []) hD
    have fD := (upd_same : (upd H D (.lst [])) D = _)
    generalize upd H D (.lst []) = H1 at sD fD ⊢
    walk_at "rs"
    refine ⟨W, _, rfl, .inl (SqL.of (sD _ _ hW)), ?_⟩
    have hN : ((ws.map V.str).length : Int) = ws.length := by rw [List.length_map]
    rw [hN]
    refine ⟨_, _, rfl, ⟨by decide, by decide, by show -(2 ^ 62 : Int) ≤ _; omega, by show _ < (2 ^ 62 : Int); omega⟩, ?_⟩
    refine for_range (lo := 1) (n := ((ws.length : Int) - 1).toNat) (fun i σ H2 => ∃ v2 : Option V, σ = [some (.ref W), some (.ref D), v2] ∧ Same H H2 ∧ H2 D = some (.lst (x.m.vals.take i))) ⟨_, rfl, sD, fD⟩ ?_ ?_
    · rintro i σ H2 hi ⟨v2, rfl, s2, hD2⟩
      have hi' : i < x.m.vals.length := by omega
      obtain ⟨A1, A2, A3⟩ := val_at R hi'
      have hw : atI (ws.map V.str) (1 + (i : Int)) = some (.str (ws.getD (i + 1) "")) := by
        have e : (1 + (i : Int)) = ((i + 1 : Nat) : Int) := by omega
        rw [e]
        exact at_strs (by omega)
      have lD : (x.m.vals.take i).length < sizeLine := by rw [List.length_take]; exact small1000 (by omega)
      have fin : ∀ (v : V) (H3 : Hp), Same H2 H3 → x.m.vals[i]? = some v → ∃ v2 : Option V, [some (V.ref W), some (V.ref D), some (V.int (1 + (i : Int)))] = [some (V.ref W), some (V.ref D), v2] ∧ Same H (upd H3 D (.lst (x.m.vals.take i ++ [v]))) ∧ (upd H3 D (.lst (x.m.vals.take i ++ [v]))) D = some (.lst (x.m.vals.take (i + 1))) := fun v H3 s3 e => by
        refine ⟨_, rfl, same_upd (s2.trans s3) hD, ?_⟩
        rw [upd_same, List.take_add_one, e]
        rfl
      walk_at "rs"
      refine ⟨W, _, _, _, rfl, rfl, SqL.of (s2 _ _ hW), hw, ?_⟩
      walk_at "rs"
      refine ite2 (fun c1 => ?_) (fun c1 => ?_)
      · have e1 : ws.getD (i + 1) "" = "-" := by simpa using c1
        walk_at "rs"
        refine ⟨.inl ⟨rfl, _, SqL.of hD2⟩, ?_⟩
        walk_at "rs"
        refine ⟨D, _, _, rfl, rfl, hD2, lD, ?_⟩
        exact fin _ _ (Same.refl _) (A1 e1)
      have e1 : ¬ ws.getD (i + 1) "" = "-" := by simpa using c1
      walk_at "rs"
      refine ⟨(by show 2 ≤ sizeLine; decide), fun t2 ht2 => ?_⟩
      have s3 := same_new (o := .tup [V.int 1, V.int 4]) ht2
      refine ⟨t2, _, rfl, .inr (SqT.of upd_same), rfl, rfl, ?_⟩
      have ein : inV (.int (1 + (i : Int))) [V.int 1, V.int 4] = decide (i = 0 ∨ i = 3) := by
        show ((1 : Int) == 1 + (i : Int) || ((4 : Int) == 1 + (i : Int) || false)) = _
        rw [Bool.or_false, Bool.eq_iff_iff]
        simp only [Bool.or_eq_true, beq_iff_eq, decide_eq_true_eq]
        omega
      rw [if_neg Bool.false_ne_true, ein]
      generalize upd H2 t2 (.tup [V.int 1, V.int 4]) = H3 at s3 ⊢
      walk_at "rs"
      refine ite2 (fun c2 => ?_) (fun c2 => ?_)
      · have e2 := of_decide_eq_true c2
        walk_at "rs"
        refine ⟨.inl ⟨rfl, _, SqL.of (s3 _ _ hD2)⟩, ?_⟩
        walk_at "rs"
        refine ⟨W, _, _, _, rfl, rfl, SqL.of (s3 _ _ (s2 _ _ hW)), hw, ?_⟩
        refine ⟨D, _, _, rfl, rfl, s3 _ _ hD2, lD, ?_⟩
        exact fin _ _ s3 (A2 e1 e2)
      · have e2 : ¬ (i = 0 ∨ i = 3) := fun z => c2 (decide_eq_true z)
        obtain ⟨n1, v1⟩ := A3 e1 e2
        have v5 := num_int n1
        walk_at "rs"
        refine ⟨.inl ⟨rfl, _, SqL.of (s3 _ _ hD2)⟩, ?_⟩
        walk_at "rs"
        refine ⟨W, _, _, _, rfl, rfl, SqL.of (s3 _ _ (s2 _ _ hW)), hw, ?_⟩
        walk_at "rs"
        refine ⟨_, _, rfl, v5.1, Nat.le_trans v5.2 (by decide), ?_⟩
        refine ⟨D, _, _, rfl, rfl, s3 _ _ hD2, lD, ?_⟩
        exact fin _ _ s3 v1
    · rintro σ H2 ⟨v2, rfl, s2, hD2⟩
      have eN : ((ws.length : Int) - 1).toNat = x.m.vals.length := by omega
      rw [eN, List.take_length] at hD2
      walk_at "rs"
      refine ⟨W, _, _, _, rfl, rfl, SqL.of (s2 _ _ hW), at_strs (k := 0) (by omega), ?_⟩
      walk_at "rs"
      have v0 := num_int R.n0
      refine ⟨_, _, rfl, v0.1, Nat.le_trans v0.2 (by decide), ?_⟩
      walk_at "rs"
      refine ⟨D, _, rfl, .inl ⟨SqL.of hD2, fun q hq => ?_⟩⟩
      have s3 := same_new (o := .tup x.m.vals) hq
      refine ⟨(by show 2 ≤ sizeLine; decide), fun p hp => ?_⟩
      have s4 := same_new (o := .tup [V.int (numV (ws.getD 0 "")), V.ref q]) hp
      exact k p _ ((s2.trans s3).trans s4) ⟨q, by rw [R.v0]; exact upd_same, s4 _ _ upd_same⟩
theorem ok_law_reads (TE : TxtE P K mg a) (T : Txt K mg a) : ∃ fd, FnOk P w K mg base CX0 7 a.d_law_reads fd ["line"] (spReads K) ∧ Binds K fd ["line"] [] := by
  obtain ⟨fd, F, b⟩ := T.d_law_reads.F
  obtain ⟨fd_law_wrong, G_law_wrong, b_law_wrong⟩ := ok_law_wrong (P := P) (w := w) (base := base) T
  obtain ⟨fd_read_letter, G_read_letter, b_read_letter⟩ := ok_read_letter (P := P) (w := w) (base := base) TE T
  obtain ⟨fd_law_value, G_law_value, b_law_value⟩ := ok_law_value (P := P) (w := w) (base := base) T
  obtain ⟨fd_law_is_integer, G_law_is_integer, b_law_is_integer⟩ := ok_law_is_integer (P := P) (w := w) (base := base) T
  obtain ⟨fdS, SupS, bS⟩ := TE.sup_BadLine
  have nof := SupS.nof
  obtain ⟨fdW, GW, bW⟩ := okw_law_is_integer (P := P) (w := w) (base := base) T
  refine ⟨fd, F.ok sc_law_reads (fun vs H Q E h => ?_) (fun cdv A outer s H vs Q E hr h => ?_), b⟩
  · obtain ⟨_, rfl, _⟩ := h
    rfl
  · obtain ⟨line, rfl, ll, lo, k⟩ := h
    refine ⟨_, (pss_cons (ps_set (i := 1) sc_law_reads.nd rfl (Or.inl rfl) (pe_split (pv 0) pe_str))
      (pss_cons (ps_set (i := 2) sc_law_reads.nd rfl (Or.inl rfl) (pe_call G_law_wrong (hr.mono (by decide)) rfl T.d_law_wrong.g T.d_law_wrong.kp b_law_wrong .nil pass0 (pa_cons (pv 1) pa_nil)))
      (pss_cons (ps_try_as (i := 4) rfl rfl sc_law_reads.nd rfl rfl ⟨rfl, by decide, .inl TE.g_TribunalError⟩ takes0 (fun W pn xe tk _ => (pss_one (ps_set (i := 3) sc_law_reads.nd rfl (Or.inl rfl) (pe_callS G_read_letter (hr.mono (by decide)) rfl T.d_read_letter.g T.d_read_letter.kp b_read_letter (fun σ => L2N.passAt (takesN_of tk) σ) (pa_cons (pv 0) pa_nil))))) (fun ae oe cls d pn hz hf => (pss_cons (ps_if (pt_val (pe_callB (call_isX hz hf) (by rfl) T.n_isinstance (by decide +kernel) (pa_cons (pv 4) (pa_cons (pe_glob (v := .ref a.C_BadJournal) rfl TE.g_BadJournal rfl) pa_nil)))) (pss_one (ps_ret pe_bl)) pss_nil) (pss_one (ps_ret (pe_and (pe_cmpR op_notN (pv 2) pe_non (nomark _)) (pe_and (pe_callB (call_isX hz hf) (by rfl) T.n_isinstance (by decide +kernel) (pa_cons (pv 4) (pa_cons (pe_glob (v := .ref a.C_BadLine) rfl TE.g_BadLine rfl) pa_nil))) (pe_and (pe_callW (p := (ae, oe)) GW ((L2H.roomH_mark hr _).mono (by decide)) List.mem_cons_self rfl T.d_law_is_integer.g T.d_law_is_integer.kp bW (pa_cons (pe_xf ⟨TE.xc_BadLine.ga, TE.xc_BadLine.gt, TE.xc_BadLine.sub, TE.xc_BadLine.has⟩ nof hz hf (pv 4)) pa_nil)) (pe_one (pe_cmpR op_eq (pe_xf ⟨TE.xc_BadLine.ga, TE.xc_BadLine.gt, TE.xc_BadLine.sub, TE.xc_BadLine.has⟩ nof hz hf (pv 4)) (pv 2) (nomark _)))))))))))
      (pss_cons (ps_if (PW.pt (pw_or (pt_cmpR op_notN (pv 2) pe_non (nomark _)) (pw_or (pt_not (pt_val (pe_callB call_isi (by rfl) T.n_isinstance (by decide +kernel) (pa_cons (pv 3) (pa_cons (pe_bltn (v := .ty "tuple") (u := .type "tuple") (by rfl) T.n_tuple (by decide +kernel) rfl) pa_nil))))) (pw_or1 (pt_not (pt_val (pe_callB call_isi (by rfl) T.n_isinstance (by decide +kernel) (pa_cons (pe_ix ix_tup (pv 3) pe_int (fun _ _ => rfl)) (pa_cons (pe_bltn (v := .ty "tuple") (u := .type "tuple") (by rfl) T.n_tuple (by decide +kernel) rfl) pa_nil)))))))))
      (pss_one (ps_ret pe_bl))
      pss_nil)
      (pss_cons (ps_if (PW.pt (pw_or (pt_not (pt_val (pe_call G_law_is_integer (hr.mono (by decide)) rfl T.d_law_is_integer.g T.d_law_is_integer.kp b_law_is_integer .nil pass0 (pa_cons (pe_ix ix_tup (pv 3) pe_int (fun _ _ => rfl)) pa_nil)))) (pw_or (pt_not (pt_val (pe_call G_law_is_integer (hr.mono (by decide)) rfl T.d_law_is_integer.g T.d_law_is_integer.kp b_law_is_integer .nil pass0 (pa_cons (pe_ix ix_tup (pe_ix ix_tup (pv 3) pe_int (fun _ _ => rfl)) pe_int (fun _ _ => rfl)) pa_nil)))) (pw_or1 (pt_not (pt_val (pe_call G_law_is_integer (hr.mono (by decide)) rfl T.d_law_is_integer.g T.d_law_is_integer.kp b_law_is_integer .nil pass0 (pa_cons (pe_ix ix_tup (pe_ix ix_tup (pv 3) pe_int (fun _ _ => rfl)) pe_int (fun _ _ => rfl)) pa_nil))))))))
      (pss_one (ps_ret pe_bl))
      pss_nil)
      (pss_one (ps_ret (pe_cmpR (op_eqD hr.units) (pv 3) (pe_call G_law_value (hr.mono (by decide)) rfl T.d_law_value.g T.d_law_value.kp b_law_value .nil pass0 (pa_cons (pv 1) pa_nil)) (nomark _))))))))), ?_⟩
    walk_at "rs"
    refine ⟨⟨_, rfl⟩, _, _, rfl, rfl, by decide +kernel, ll, fun W hW0 => ?_⟩
    have s0 := same_new (o := .lst ((Txt.split line " ").map V.str)) hW0
    have hW := (upd_same : upd H W (.lst ((Txt.split line " ").map V.str)) W = _)
    have lw : (Txt.split line " ").length ≤ 16777216 := Nat.le_trans (PyProof.Rows.split_le line " ") ll
    have sw : ∀ w ∈ Txt.split line " ", w.length ≤ 16777216 := fun w hw => by
      have := PyProof.Rows.part_short hw
      omega
    have so : ∀ w ∈ Txt.split line " ", PyData.strOk w = true := split_ok lo
    have same := same_read (Txt.split line " ")
    have erd : readL line = readW (Txt.split line " ") := rfl
    generalize upd H W (.lst ((Txt.split line " ").map V.str)) = H0 at s0 hW ⊢
    generalize Txt.split line " " = ws at hW lw sw so same erd
    walk_at "rs"
    refine ⟨W, ws, rfl, hW, lw, sw, so, fun H1 s1 => ?_⟩
    have s01 := s0.trans s1
    have hW1 := s1 _ _ hW
    clear s1 hW
    walk_at "rs"
    refine ⟨ll, fun e he d H2 s2 hd => ?_, fun x hx p H2 s2 hp => ?_⟩
    · rw [erd] at he
      rw [he] at same
      obtain ⟨z, ez, ewz⟩ := same
      subst ez
      rw [ewz]
      refine ⟨true, TE.exm_TribunalError_BadLine, fun _ ex hex => ?_, fun z => nomatch z⟩
      walk_at "rs"
      refine ⟨a.C_BadLine, d, .ref a.C_BadJournal, .ref a.C_BadJournal, false, _, rfl, rfl, rfl, TE.xc_BadLine, .own _, hd, TE.kt_BadLine_BadJournal, ?_⟩
      walk_at "rs"
      refine ⟨a.C_BadLine, d, .ref a.C_BadLine, .ref a.C_BadLine, true, _, rfl, rfl, rfl, TE.xc_BadLine, .own _, hd, TE.kt_BadLine_BadLine, ?_⟩
      walk_at "rs"
      refine ⟨d, _, _, rfl, hd, (by rfl : List.lookup ("at" : Str) [(("at" : Str), V.int (z : Int))] = some (.int (z : Int))), ?_⟩
      walk_at "rs"
      refine ⟨d, _, _, rfl, hd, (by rfl : List.lookup ("at" : Str) [(("at" : Str), V.int (z : Int))] = some (.int (z : Int))), ?_⟩
      walk_at "rs"
      show Q (V.bl (decide (V.int (z : Int) = V.int (z : Int)))) H2
      rw [decide_eq_true rfl]
      exact k _ (s01.trans s2)
    · have gx := read_good hx
      rw [erd] at hx
      rw [hx] at same
      have same : wrongM ws = none := same
      rw [same]
      obtain ⟨q, hp1, hp2⟩ := id hp
      have hp2' : H2 q = some (.tup x.m.vals) := hp2
      walk_at "rs"
      refine ⟨_, _, .type "tuple", .type "tuple", true, rfl, .ty _, .base (.tup hp1), kit_ty (by decide +kernel), ?_⟩
      walk_at "rs"
      refine ⟨_, _, _, _, rfl, rfl, SqT.of hp1, rfl, ?_⟩
      walk_at "rs"
      refine ⟨_, _, .type "tuple", .type "tuple", true, rfl, .ty _, .base (.tup hp2'), kit_ty (by decide +kernel), ?_⟩
      walk_at "rs"
      refine ⟨_, _, _, _, rfl, rfl, SqT.of hp1, rfl, ?_⟩
      walk_at "rs"
      refine ⟨_, _, _, _, rfl, rfl, SqT.of hp1, rfl, ?_⟩
      walk_at "rs"
      refine ⟨_, _, _, _, rfl, rfl, SqT.of hp1, rfl, ?_⟩
      walk_at "rs"
      refine ⟨W, ws, x, rfl, s2 _ _ hW1, hx, sw, fun p2 H3 s3 hp3 => ?_⟩
      have okx := gx.1.ok
      refine ⟨_, _, dp_lt (hp.same s3), dp_lt hp3, shaped_lt okx, shaped_lt okx, ?_⟩
      rw [eqv_lt okx]
      exact k _ ((s01.trans s2).trans s3)
theorem ok_law_changed (T : Txt K mg a) : ∃ fd, FnOk P w K mg base CX0 1 a.d_law_changed fd ["line", "way"] (spChanged K) ∧ Binds K fd ["line", "way"] [] := by
  obtain ⟨fd, F, b⟩ := T.d_law_changed.F
  refine ⟨fd, F.ok sc_law_changed (fun vs H Q E h => ?_) (fun cdv A outer s H vs Q E hr h => ?_), b⟩
  · obtain ⟨_, _, rfl, _⟩ := h
    rfl
  · obtain ⟨line, way, rfl, y0, ll, lo, k⟩ := h
    refine ⟨_, (pss_cons (ps_set (i := 2) sc_law_changed.nd rfl (Or.inl rfl) (pe_split (pv 0) pe_str))
      (pss_cons (ps_set (i := 3) sc_law_changed.nd rfl (Or.inl rfl) (pe_op op_mod (pe_op op_fdiv (pv 1) pe_int) (pe_callB call_len_seq (by rfl) T.n_len PySem.boot_len (pa_cons (pv 2) pa_nil))))
      (pss_cons (ps_if (pt_cmpR op_eq (pe_op op_mod (pe_callTy call_int1 (by rfl) T.n_int (by decide +kernel) (pa_cons (pv 1) pa_nil)) pe_int) pe_int (nomark _))
      (pss_one (ps_ret (pe_join pe_str (pe_op op_cat (pe_slice sl_list (pv 2) po_none (po_some (pv 3))) (pe_slice sl_list (pv 2) (po_some (pe_op op_add (pv 3) pe_int)) po_none)))))
      pss_nil)
      (pss_cons (ps_if (pt_cmpR op_eq (pe_op op_mod (pe_callTy call_int1 (by rfl) T.n_int (by decide +kernel) (pa_cons (pv 1) pa_nil)) pe_int) pe_int (nomark _))
      (pss_one (ps_ret (pe_join pe_str (pe_op op_cat (pe_op op_cat (pe_slice sl_list (pv 2) po_none (po_some (pv 3))) (pe_lst (pa_cons pe_str pa_nil))) (pe_slice sl_list (pv 2) (po_some (pv 3)) po_none)))))
      pss_nil)
      (pss_cons (ps_set (i := 4) sc_law_changed.nd rfl (Or.inl rfl) (pe_lst (pa_cons pe_str (pa_cons pe_str (pa_cons pe_str (pa_cons pe_str (pa_cons pe_str (pa_cons pe_str (pa_cons (pe_op op_mulS pe_str pe_int) (pa_cons pe_str (pa_cons pe_str (pa_cons pe_str (pa_cons pe_str (pa_cons pe_str (pa_cons pe_str pa_nil)))))))))))))))
      (pss_cons (ps_set (i := 4) sc_law_changed.nd rfl (Or.inl rfl) (pe_op op_cat (pv 4) (pe_lst (pa_cons pe_str (pa_cons pe_str (pa_cons pe_str pa_nil))))))
      (pss_cons (ps_asg (pe_ix ix_list (pv 4) (pe_op op_mod (pe_op op_fdiv (pv 1) pe_int) pe_int) (fun _ _ => rfl)) (pg_sub (pv 2) (pv 3) set_list))
      (pss_cons (ps_if (pt_cmpR op_eq (pe_op op_mod (pe_callTy call_int1 (by rfl) T.n_int (by decide +kernel) (pa_cons (pv 1) pa_nil)) pe_int) pe_int (nomark _))
      (pss_one (ps_ret (pe_op op_add_str (pv 0) pe_str)))
      pss_nil)
      (pss_cons (ps_if (pt_cmpR op_eq (pe_op op_mod (pe_callTy call_int1 (by rfl) T.n_int (by decide +kernel) (pa_cons (pv 1) pa_nil)) pe_int) pe_int (nomark _))
      (pss_one (ps_ret (pe_op op_add_str (pv 0) pe_str)))
      pss_nil)
      (pss_one (ps_ret (pe_join pe_str (pv 2))))))))))))), ?_⟩
    have g0 : 0 ≤ way % 10 := Int.emod_nonneg _ (by decide)
    walk_at "rs"
    refine ⟨⟨_, rfl⟩, _, _, rfl, rfl, by decide +kernel, by show line.length + 2 ≤ 16777216; omega, fun W hW0 => ?_⟩
    have s0 := same_new (o := .lst ((Txt.split line " ").map V.str)) hW0
    have hW := (upd_same : upd H W (.lst ((Txt.split line " ").map V.str)) W = _)
    have lw : (Txt.split line " ").length ≤ 1002 := Nat.le_trans (PyProof.Rows.split_le line " ") (by omega)
    have lp : 1 ≤ (Txt.split line " ").length := PyProof.Rows.split_pos line " "
    have sw : ∀ w ∈ Txt.split line " ", w.length ≤ 1000 ∧ PyData.strOk w = true := fun w hw => by
      have := PyProof.Rows.part_short hw
      exact ⟨by omega, split_ok lo w hw⟩
    generalize upd H W (.lst ((Txt.split line " ").map V.str)) = H0 at s0 hW ⊢
    generalize Txt.split line " " = ws at hW lw lp sw
    walk_at "rs"
    refine ⟨W, _, rfl, .inl (SqL.of hW), ?_⟩
    have hN : ((ws.map V.str).length : Int) = ws.length := by rw [List.length_map]
    rw [hN]
    obtain ⟨n, en, hn⟩ : ∃ n : Nat, way / 10 % (ws.length : Int) = n ∧ n < ws.length := by
      have a0 := Int.emod_nonneg (way / 10) (show (ws.length : Int) ≠ 0 by omega)
      have a1 := Int.emod_lt_of_pos (way / 10) (show (0 : Int) < ws.length by omega)
      exact ⟨(way / 10 % (ws.length : Int)).toNat, by omega, by omega⟩
    refine ⟨_, _, rfl, rfl, (by show (0 : Int) < _; omega), ?_⟩
    show gName 3 (V.int (way / 10 % (ws.length : Int))) _ _ _
    rw [en]
    clear en
    have e1 : ((n : Int) + 1) = ((n + 1 : Nat) : Int) := by omega
    have st : ∀ y ∈ ws.take n, y.length ≤ 1000 ∧ PyData.strOk y = true := fun y hy => sw y (List.mem_of_mem_take hy)
    have sd : ∀ i, ∀ y ∈ ws.drop i, y.length ≤ 1000 ∧ PyData.strOk y = true := fun i y hy => sw y (List.mem_of_mem_drop hy)
    walk_at "rs"
    refine ite2 (fun c1 => ?_) (fun c1 => ?_)
    · walk_at "rs"
      refine ⟨⟨_, rfl⟩, ?_⟩
      walk_at "rs"
      refine ⟨W, _, rfl, SqL.of hW, fun a1 ha1 => ?_⟩
      rw [cutV_take']
      have t1 := same_new (o := .lst ((ws.take n).map V.str)) ha1
      have f1 := (upd_same : (upd H0 a1 (.lst ((ws.take n).map V.str))) a1 = _)
      generalize upd H0 a1 (.lst ((ws.take n).map V.str)) = H1 at t1 f1 ⊢
      walk_at "rs"
      refine ⟨W, _, rfl, SqL.of (t1 _ _ hW), fun a2 ha2 => ?_⟩
      rw [e1, cutV_drop']
      have t2 := same_new (o := .lst ((ws.drop (n + 1)).map V.str)) ha2
      have f2 := (upd_same : (upd H1 a2 (.lst ((ws.drop (n + 1)).map V.str))) a2 = _)
      generalize upd H1 a2 (.lst ((ws.drop (n + 1)).map V.str)) = H2 at t2 f2 ⊢
      have ln : (ws.take n ++ ws.drop (n + 1)).length ≤ 2000 := by rw [List.length_append, List.length_take, List.length_drop]; omega
      refine ⟨a1, a2, _, _, rfl, rfl, t2 _ _ f1, f2, by rw [sizeLine_eq, List.length_map, List.length_map, List.length_take, List.length_drop]; omega, fun a3 ha3 => ?_⟩
      rw [strs_cat]
      have J := joined (ys := ws.take n ++ ws.drop (n + 1)) (fun y hy => (List.mem_append.mp hy).elim (st y) (sd _ y)) ln
      have t3 := same_new (o := .lst ((ws.take n ++ ws.drop (n + 1)).map V.str)) ha3
      refine ⟨_, a3, _, rfl, rfl, .inl (SqL.of upd_same), J.1, ?_⟩
      exact k _ _ (((s0.trans t1).trans t2).trans t3) J.2.1 J.2.2
    walk_at "rs"
    refine ite2 (fun c2 => ?_) (fun c2 => ?_)
    · walk_at "rs"
      refine ⟨⟨_, rfl⟩, ?_⟩
      walk_at "rs"
      refine ⟨W, _, rfl, SqL.of hW, fun a1 ha1 => ?_⟩
      rw [cutV_take']
      have t1 := same_new (o := .lst ((ws.take n).map V.str)) ha1
      have f1 := (upd_same : (upd H0 a1 (.lst ((ws.take n).map V.str))) a1 = _)
      generalize upd H0 a1 (.lst ((ws.take n).map V.str)) = H1 at t1 f1 ⊢
      refine ⟨(by show 1 ≤ sizeLine; decide), fun b1 hb1 => ?_⟩
      have t1' := same_new (o := .lst [V.str "7"]) hb1
      have f1' := (upd_same : (upd H1 b1 (.lst [V.str "7"])) b1 = _)
      generalize upd H1 b1 (.lst [V.str "7"]) = H1' at t1' f1' ⊢
      refine ⟨a1, b1, _, _, rfl, rfl, t1' _ _ f1, f1', by rw [sizeLine_eq, List.length_map, List.length_take]; show _ + 1 ≤ _; omega, fun a4 ha4 => ?_⟩
      have e7 : (ws.take n).map V.str ++ [V.str "7"] = (ws.take n ++ [("7" : Str)]).map V.str := by rw [List.map_append]; rfl
      rw [e7]
      have t4 := same_new (o := .lst ((ws.take n ++ [("7" : Str)]).map V.str)) ha4
      have f4 := (upd_same : (upd H1' a4 (.lst ((ws.take n ++ [("7" : Str)]).map V.str))) a4 = _)
      generalize upd H1' a4 (.lst ((ws.take n ++ [("7" : Str)]).map V.str)) = H2 at t4 f4 ⊢
      walk_at "rs"
      refine ⟨W, _, rfl, SqL.of (t4 _ _ (t1' _ _ (t1 _ _ hW))), fun a2 ha2 => ?_⟩
      rw [cutV_drop']
      have t2 := same_new (o := .lst ((ws.drop n).map V.str)) ha2
      have f2 := (upd_same : (upd H2 a2 (.lst ((ws.drop n).map V.str))) a2 = _)
      generalize upd H2 a2 (.lst ((ws.drop n).map V.str)) = H3 at t2 f2 ⊢
      have ln : ((ws.take n ++ [("7" : Str)]) ++ ws.drop n).length ≤ 2000 := by rw [List.length_append, List.length_append, List.length_take, List.length_drop, List.length_singleton]; omega
      refine ⟨a4, a2, _, _, rfl, rfl, t2 _ _ f4, f2, by rw [sizeLine_eq, List.length_map, List.length_map, List.length_append, List.length_take, List.length_drop, List.length_singleton]; omega, fun a3 ha3 => ?_⟩
      rw [strs_cat]
      have J := joined (ys := (ws.take n ++ [("7" : Str)]) ++ ws.drop n) (fun y hy => by
        rcases List.mem_append.mp hy with hy | hy
        · rcases List.mem_append.mp hy with hy | hy
          · exact st y hy
          · rw [List.mem_singleton.mp hy]
            exact ⟨by decide +kernel, by decide +kernel⟩
        · exact sd _ y hy) ln
      have t3 := same_new (o := .lst (((ws.take n ++ [("7" : Str)]) ++ ws.drop n).map V.str)) ha3
      refine ⟨_, a3, _, rfl, rfl, .inl (SqL.of upd_same), J.1, ?_⟩
      exact k _ _ (((((s0.trans t1).trans t1').trans t4).trans t2).trans t3) J.2.1 J.2.2
    walk_at "rs"
    refine ⟨mul_ok, ?_⟩
    walk_at "rs"
    refine ⟨(by show 13 ≤ sizeLine; decide), fun A1 hA1 => ?_⟩
    have tA := same_new (o := .lst (strangeA.map V.str)) hA1
    have fA : upd H0 A1 (.lst (strangeA.map V.str)) A1 = some (.lst (strangeA.map V.str)) := upd_same
    show gName 4 (V.ref A1) _ (upd H0 A1 (.lst (strangeA.map V.str))) _
    generalize upd H0 A1 (.lst (strangeA.map V.str)) = H1 at tA fA ⊢
    walk_at "rs"
    refine ⟨(by show 3 ≤ sizeLine; decide), fun B1 hB1 => ?_⟩
    have tB := same_new (o := .lst (strangeB.map V.str)) hB1
    have fB : upd H1 B1 (.lst (strangeB.map V.str)) B1 = some (.lst (strangeB.map V.str)) := upd_same
    refine ⟨A1, B1, strangeA.map V.str, strangeB.map V.str, rfl, rfl, tB _ _ fA, fB, by rw [sizeLine_eq]; decide, fun C1 hC1 => ?_⟩
    have eC : strangeA.map V.str ++ strangeB.map V.str = strangeL.map V.str := (List.map_append ..).symm
    rw [eC]
    have tC' := (tA.trans tB).trans (same_new (o := .lst (strangeL.map V.str)) hC1)
    have fC := (upd_same : (upd (upd H1 B1 (.lst (strangeB.map V.str))) C1 (.lst (strangeL.map V.str))) C1 = _)
    show gName 4 (V.ref C1) _ (upd (upd H1 B1 (.lst (strangeB.map V.str))) C1 (.lst (strangeL.map V.str))) _
    generalize upd (upd H1 B1 (.lst (strangeB.map V.str))) C1 (.lst (strangeL.map V.str)) = H2 at tC' fC ⊢
    have hW2 := tC' _ _ hW
    have s02 := s0.trans tC'
    obtain ⟨z, hz, lz, oz⟩ := strange_at (i := way / 100 % 16) (Int.emod_nonneg _ (by decide)) (Int.emod_lt_of_pos _ (by decide))
    walk_at "rs"
    refine ⟨C1, _, _, _, rfl, rfl, SqL.of fC, hz, ?_⟩
    walk_at "rs"
    refine ⟨W, _, _, n, rfl, rfl, hW2, (by
      unfold ixN
      rw [if_pos (by omega), if_pos (by rw [List.length_map]; omega), Int.toNat_natCast]), ?_⟩
    have eset : (ws.map V.str).set n (.str z) = (ws.set n z).map V.str := by rw [List.map_set]
    rw [eset]
    have s3 : Same H (upd H2 W (.lst ((ws.set n z).map V.str))) := same_upd s02 hW0
    have f3 := (upd_same : (upd H2 W (.lst ((ws.set n z).map V.str))) W = _)
    generalize upd H2 W (.lst ((ws.set n z).map V.str)) = H3 at s3 f3 ⊢
    have small : ∀ (q : Str), q.length ≤ 10 → PyData.strOk q = true → (line ++ q).length ≤ 10000000 ∧ PyData.strOk (line ++ q) = true := fun q lq oq => by
      refine ⟨?_, strOk_app lo oq⟩
      rw [TL.len_tl, TL.tl_append, List.length_append, ← TL.len_tl, ← TL.len_tl]
      omega
    walk_at "rs"
    refine ite2 (fun c3 => ?_) (fun c3 => ?_)
    · walk_at "rs"
      refine ⟨by show line.length + 1 ≤ 16777216; omega, ?_⟩
      have := small " " (by decide +kernel) (by decide +kernel)
      exact k _ _ s3 this.1 this.2
    walk_at "rs"
    refine ite2 (fun c4 => ?_) (fun c4 => ?_)
    · walk_at "rs"
      refine ⟨by show line.length + 2 ≤ 16777216; omega, ?_⟩
      have := small " 0" (by decide +kernel) (by decide +kernel)
      exact k _ _ s3 this.1 this.2
    walk_at "rs"
    refine ⟨⟨_, rfl⟩, ?_⟩
    walk_at "rs"
    have J := joined (ys := ws.set n z) (fun y hy => by
      rcases List.mem_or_eq_of_mem_set hy with hy | hy
      · exact sw y hy
      · rw [hy]
        exact ⟨by omega, oz⟩) (by rw [List.length_set]; omega)
    refine ⟨_, W, _, rfl, rfl, .inl (SqL.of f3), J.1, ?_⟩
    exact k _ _ s3 J.2.1 J.2.2
theorem ok_law {f : Addr} {fd : FuncData} (F : Fun K "law" "law" s_law f fd) (TE : TxtE P K mg a) (T : Txt K mg a) : FnOk P w K mg base CX0 8 f fd ["script"] (spLaw K) := by
  obtain ⟨fd_law_letter, G_law_letter, b_law_letter⟩ := ok_law_letter (P := P) (w := w) (base := base) T
  obtain ⟨fd_law_line, G_law_line, b_law_line⟩ := ok_law_line (P := P) (w := w) (base := base) T
  obtain ⟨fd_law_reads, G_law_reads, b_law_reads⟩ := ok_law_reads (P := P) (w := w) (base := base) TE T
  obtain ⟨fd_law_cell, G_law_cell, b_law_cell⟩ := ok_law_cell (P := P) (w := w) (base := base) T
  obtain ⟨fd_letter_line, G_letter_line, b_letter_line⟩ := ok_letter_line (P := P) (w := w) (base := base) T
  obtain ⟨fd_read_letter, G_read_letter, b_read_letter⟩ := ok_read_letter (P := P) (w := w) (base := base) TE T
  obtain ⟨fd_law_changed, G_law_changed, b_law_changed⟩ := ok_law_changed (P := P) (w := w) (base := base) T
  refine F.ok sc_law (fun vs H Q E h => ?_) (fun cdv A outer s H vs Q E hr h => ?_)
  · obtain ⟨_, _, rfl, _⟩ := h
    rfl
  · obtain ⟨l, ns, rfl, hS, hl, k⟩ := h
    refine ⟨_, (pss_cons (ps_for PassesOwn.never rfl (pi_range1 rfl T.n_range (pa_cons (pe_op op_fdiv (pe_op op_add (pe_callB call_len_seq (by rfl) T.n_len PySem.boot_len (pa_cons (pv 0) pa_nil)) pe_int) pe_int) pa_nil)) (pg_name (i := 1) sc_law.nd rfl (Or.inl rfl))
      (pss_cons (ps_set (i := 2) sc_law.nd rfl (Or.inl rfl) (pe_call G_law_letter (hr.mono (by decide)) rfl T.d_law_letter.g T.d_law_letter.kp b_law_letter .nil pass0 (pa_cons (pe_callB call_abs (by rfl) T.n_abs (by decide +kernel) (pa_cons (pe_call G_law_cell (hr.mono (by decide)) rfl T.d_law_cell.g T.d_law_cell.kp b_law_cell .nil pass0 (pa_cons (pv 0) (pa_cons (pe_op op_mul pe_int (pv 1)) pa_nil))) pa_nil)) (pa_cons (pe_callB call_abs (by rfl) T.n_abs (by decide +kernel) (pa_cons (pe_call G_law_cell (hr.mono (by decide)) rfl T.d_law_cell.g T.d_law_cell.kp b_law_cell .nil pass0 (pa_cons (pv 0) (pa_cons (pe_op op_add (pe_op op_mul pe_int (pv 1)) pe_int) pa_nil))) pa_nil)) pa_nil))))
        (pss_cons (ps_set (i := 3) sc_law.nd rfl (Or.inl rfl) (pe_call G_law_line (hr.mono (by decide)) rfl T.d_law_line.g T.d_law_line.kp b_law_line .nil pass0 (pa_cons (pv 2) pa_nil)))
        (pss_cons (ps_if (PW.pt (pw_or (pt_cmpR op_ne (pe_call G_letter_line (hr.mono (by decide)) rfl T.d_letter_line.g T.d_letter_line.kp b_letter_line .nil pass0 (pa_cons (pv 2) pa_nil)) (pv 3) (nomark _)) (pw_or (pt_cmpR (op_neD hr.units) (pe_call G_read_letter (hr.mono (by decide)) rfl T.d_read_letter.g T.d_read_letter.kp b_read_letter .nil (L2N.passes_call (E := fun _ _ _ => False) takes0N (fun _ _ _ _ h => h)) (pa_cons (pv 3) pa_nil)) (pv 2) (nomark _)) (pw_or1 (pt_not (pt_val (pe_call G_law_reads (hr.mono (by decide)) rfl T.d_law_reads.g T.d_law_reads.kp b_law_reads .nil pass0 (pa_cons (pv 3) pa_nil))))))))
        (pss_one (ps_ret pe_bl))
        pss_nil)
        (pss_one (ps_if (pt_not (pt_val (pe_call G_law_reads (hr.mono (by decide)) rfl T.d_law_reads.g T.d_law_reads.kp b_law_reads .nil pass0 (pa_cons (pe_call G_law_changed (hr.mono (by decide)) rfl T.d_law_changed.g T.d_law_changed.kp b_law_changed .nil pass0 (pa_cons (pv 3) (pa_cons (pe_callB call_abs (by rfl) T.n_abs (by decide +kernel) (pa_cons (pe_call G_law_cell (hr.mono (by decide)) rfl T.d_law_cell.g T.d_law_cell.kp b_law_cell .nil pass0 (pa_cons (pv 0) (pa_cons (pe_op op_add (pe_op op_mul pe_int (pv 1)) pe_int) pa_nil))) pa_nil)) pa_nil))) pa_nil))))
        (pss_one (ps_ret pe_bl))
        pss_nil))))))
      (pss_one (ps_ret pe_bl))), ?_⟩
    walk_at "rs"
    refine ⟨l, _, rfl, .inl hS, ?_⟩
    have hN : ((ns.map V.int).length : Int) = ns.length := by rw [List.length_map]
    rw [hN]
    walk_at "rs"
    refine ⟨(by show -(2 ^ 62 : Int) ≤ _; omega), (by show _ < (2 ^ 62 : Int); omega), ?_⟩
    refine for_range (lo := 0) (n := (((ns.length : Int) + 2) / 3).toNat) (fun i σ H2 => ∃ v1 v2 v3 : Option V, σ = [some (.ref l), v1, v2, v3] ∧ Same H H2) ⟨_, _, _, rfl, Same.refl H⟩ ?_ ?_
    · rintro i σ H2 hi ⟨v1, v2, v3, rfl, s2⟩
      have e0 : (0 : Int) + (i : Int) = (i : Int) := Int.zero_add _
      rw [e0]
      walk_at "rs"
      refine ⟨l, ns, 3 * (i : Int), rfl, s2.seq hS, hl, by omega, ?_⟩
      walk_at "rs"
      refine ⟨l, ns, 3 * (i : Int) + 1, rfl, s2.seq hS, hl, by omega, ?_⟩
      walk_at "rs"
      refine ⟨_, _, rfl, fun p x H3 s3 hx gm w0 w1 => ?_⟩
      have sm := gm.small
      have okx := gm.ok
      have lok := line_ok w0 w1 sm
      have llen : (lineS x.w x.m).length ≤ 1000 := by
        have fit := sum_small (ys := (toString x.w : Str) :: x.m.vals.map wordV) fun y hy => by
          rcases List.mem_cons.mp hy with rfl | hy
          · exact (num_ok w0 w1).1
          · obtain ⟨v, hv, rfl⟩ := List.mem_map.mp hy
            exact (word_ok (sm v hv)).1
        have e : (" " : Str).length = 1 := by decide +kernel
        have l := vals_len x.m
        unfold lineS
        rw [TL.join_eq]
        refine Nat.le_trans (join_len _ _) ?_
        simp only [List.length_cons, List.length_map] at fit ⊢
        rw [e]
        omega
      have rd := read_line w0 w1 gm
      walk_at "rs"
      refine ⟨p, x, rfl, hx, w0, w1, sm, fun H4 s4 => ?_⟩
      walk_at "rs"
      refine ⟨p, x, rfl, hx.same s4, w0, w1, sm, fun H5 s5 => ?_⟩
      walk_at "rs"
      refine ite2 (fun c => ?_) (fun _ => ?_)
      · exfalso
        simp at c
      walk_at "rs"
      refine ⟨by omega, fun e he => ?_, fun y hy q H6 s6 hq => ?_⟩
      · rw [rd] at he
        cases he
      rw [rd] at hy
      cases hy
      have hx6 := ((hx.same s4).same s5).same s6
      have s26 := (((s2.trans s3).trans s4).trans s5).trans s6
      walk_at "rs"
      refine ⟨_, _, dp_lt hq, dp_lt hx6, shaped_lt okx, shaped_lt okx, ?_⟩
      rw [eqv_lt okx]
      walk_at "rs"
      refine ⟨by omega, lok, fun H7 s7 => ?_⟩
      walk_at "rs"
      refine ⟨l, ns, 3 * (i : Int) + 2, rfl, s7.seq (s26.seq hS), hl, by omega, ?_⟩
      walk_at "rs"
      refine ⟨_, _, rfl, (by split <;> omega), llen, lok, fun y H8 s8 ly oy => ?_⟩
      walk_at "rs"
      refine ⟨by omega, oy, fun H9 s9 => ?_⟩
      walk_at "rs"
      exact ⟨_, _, _, rfl, ((s26.trans s7).trans s8).trans s9⟩
    · rintro σ H2 ⟨v1, v2, v3, rfl, s2⟩
      walk_at "rs"
      exact k _

end

theorem all_mk {l : PySem.W.OpenLaw} {w : World} {K : PySem.W.Frag} {h : Heap} {mg : Str → Option Value} {fa : Addr} (X : K.In h) (G : h.Ns mainGlobals mg) (hfa : mg "law" = some (.ref fa))
    {t_NONE : Tok} {t_LETTERS : Tok} {t_BLOCK_SIGNS : Tok} {t_MOST_DIGITS : Tok} {t_MOST_SIGNS : Tok} {f_proposal : Addr} {od_proposal an_proposal : Option Addr} {sl_proposal : Array (Option Value)} {oc_proposal kV_proposal dc_proposal pm_proposal cd_proposal ct_proposal : Value} {f_prevote : Addr} {od_prevote an_prevote : Option Addr} {sl_prevote : Array (Option Value)} {oc_prevote kV_prevote dc_prevote pm_prevote cd_prevote ct_prevote : Value} {f_precommit : Addr} {od_precommit an_precommit : Option Addr} {sl_precommit : Array (Option Value)} {oc_precommit kV_precommit dc_precommit pm_precommit cd_precommit ct_precommit : Value} {f_is_number : Addr} {od_is_number an_is_number : Option Addr} {sl_is_number : Array (Option Value)} {oc_is_number kV_is_number dc_is_number pm_is_number cd_is_number ct_is_number : Value} {f_is_block : Addr} {od_is_block an_is_block : Option Addr} {sl_is_block : Array (Option Value)} {oc_is_block kV_is_block dc_is_block pm_is_block cd_is_block ct_is_block : Value} {f_word_at : Addr} {od_word_at an_word_at : Option Addr} {sl_word_at : Array (Option Value)} {oc_word_at kV_word_at dc_word_at pm_word_at cd_word_at ct_word_at : Value} {f_number_at : Addr} {od_number_at an_number_at : Option Addr} {sl_number_at : Array (Option Value)} {oc_number_at kV_number_at dc_number_at pm_number_at cd_number_at ct_number_at : Value} {f_kind_at : Addr} {od_kind_at an_kind_at : Option Addr} {sl_kind_at : Array (Option Value)} {oc_kind_at kV_kind_at dc_kind_at pm_kind_at cd_kind_at ct_kind_at : Value} {f_block_at : Addr} {od_block_at an_block_at : Option Addr} {sl_block_at : Array (Option Value)} {oc_block_at kV_block_at dc_block_at pm_block_at cd_block_at ct_block_at : Value} {f_lean_at : Addr} {od_lean_at an_lean_at : Option Addr} {sl_lean_at : Array (Option Value)} {oc_lean_at kV_lean_at dc_lean_at pm_lean_at cd_lean_at ct_lean_at : Value} {f_end_at : Addr} {od_end_at an_end_at : Option Addr} {sl_end_at : Array (Option Value)} {oc_end_at kV_end_at dc_end_at pm_end_at cd_end_at ct_end_at : Value} {f_read_letter : Addr} {od_read_letter an_read_letter : Option Addr} {sl_read_letter : Array (Option Value)} {oc_read_letter kV_read_letter dc_read_letter pm_read_letter cd_read_letter ct_read_letter : Value} {f_word : Addr} {od_word an_word : Option Addr} {sl_word : Array (Option Value)} {oc_word kV_word dc_word pm_word cd_word ct_word : Value} {f_letter_line : Addr} {od_letter_line an_letter_line : Option Addr} {sl_letter_line : Array (Option Value)} {oc_letter_line kV_letter_line dc_letter_line pm_letter_line cd_letter_line ct_letter_line : Value} {f_law_cell : Addr} {od_law_cell an_law_cell : Option Addr} {sl_law_cell : Array (Option Value)} {oc_law_cell kV_law_cell dc_law_cell pm_law_cell cd_law_cell ct_law_cell : Value} {f_law_is_integer : Addr} {od_law_is_integer an_law_is_integer : Option Addr} {sl_law_is_integer : Array (Option Value)} {oc_law_is_integer kV_law_is_integer dc_law_is_integer pm_law_is_integer cd_law_is_integer ct_law_is_integer : Value} {f_law_row : Addr} {od_law_row an_law_row : Option Addr} {sl_law_row : Array (Option Value)} {oc_law_row kV_law_row dc_law_row pm_law_row cd_law_row ct_law_row : Value} {f_law_number : Addr} {od_law_number an_law_number : Option Addr} {sl_law_number : Array (Option Value)} {oc_law_number kV_law_number dc_law_number pm_law_number cd_law_number ct_law_number : Value} {f_law_name : Addr} {od_law_name an_law_name : Option Addr} {sl_law_name : Array (Option Value)} {oc_law_name kV_law_name dc_law_name pm_law_name cd_law_name ct_law_name : Value} {f_law_line : Addr} {od_law_line an_law_line : Option Addr} {sl_law_line : Array (Option Value)} {oc_law_line kV_law_line dc_law_line pm_law_line cd_law_line ct_law_line : Value} {f_law_is_number : Addr} {od_law_is_number an_law_is_number : Option Addr} {sl_law_is_number : Array (Option Value)} {oc_law_is_number kV_law_is_number dc_law_is_number pm_law_is_number cd_law_is_number ct_law_is_number : Value} {f_law_is_name : Addr} {od_law_is_name an_law_is_name : Option Addr} {sl_law_is_name : Array (Option Value)} {oc_law_is_name kV_law_is_name dc_law_is_name pm_law_is_name cd_law_is_name ct_law_is_name : Value} {f_law_letter : Addr} {od_law_letter an_law_letter : Option Addr} {sl_law_letter : Array (Option Value)} {oc_law_letter kV_law_letter dc_law_letter pm_law_letter cd_law_letter ct_law_letter : Value} {f_law_fits : Addr} {od_law_fits an_law_fits : Option Addr} {sl_law_fits : Array (Option Value)} {oc_law_fits kV_law_fits dc_law_fits pm_law_fits cd_law_fits ct_law_fits : Value} {f_law_wrong : Addr} {od_law_wrong an_law_wrong : Option Addr} {sl_law_wrong : Array (Option Value)} {oc_law_wrong kV_law_wrong dc_law_wrong pm_law_wrong cd_law_wrong ct_law_wrong : Value} {f_law_value : Addr} {od_law_value an_law_value : Option Addr} {sl_law_value : Array (Option Value)} {oc_law_value kV_law_value dc_law_value pm_law_value cd_law_value ct_law_value : Value} {f_law_reads : Addr} {od_law_reads an_law_reads : Option Addr} {sl_law_reads : Array (Option Value)} {oc_law_reads kV_law_reads dc_law_reads pm_law_reads cd_law_reads ct_law_reads : Value} {f_law_changed : Addr} {od_law_changed an_law_changed : Option Addr} {sl_law_changed : Array (Option Value)} {oc_law_changed kV_law_changed dc_law_changed pm_law_changed cd_law_changed ct_law_changed : Value} {f_law : Addr} {od_law an_law : Option Addr} {sl_law : Array (Option Value)} {oc_law kV_law dc_law pm_law cd_law ct_law : Value} {C_BadLine f_BadLine_init : Addr} {nm_BadLine q_BadLine : Str} {N_BadLine : Addr} {bs_BadLine bm_BadLine : List Value} {sn_BadLine : List Str} {sub_BadLine : List Value} {ab_BadLine : Bool} {col_BadLine : Option Bool} {dd_BadLine : Option Addr} {k0_BadLine k1_BadLine k2_BadLine k3_BadLine k5_BadLine : Option Value} {od_BadLine_init an_BadLine_init : Option Addr} {sl_BadLine_init : Array (Option Value)} {oc_BadLine_init kV_BadLine_init dc_BadLine_init pm_BadLine_init ct_BadLine_init : Value} {cda_BadLine_init cc_BadLine_init : Addr} {cl_BadLine_init ccl_BadLine_init : Value} {cld_BadLine_init cdd_BadLine_init : Option Addr} {csl_BadLine_init ccs_BadLine_init : Array (Option Value)} {vs_BadLine_init : Array Value} {file_BadLine_init : Str} {tf_BadLine_init : Tok} {P_KINDS : Addr} {od_KINDS : Option Addr} {sl_KINDS : Array (Option Value)} {n_KINDS : Nat} {t0_KINDS : Tok} {t1_KINDS : Tok} {t2_KINDS : Tok} {C_BadJournal : Addr} {C_TribunalError : Addr}
    (c_NONE : PySem.W.nsIn K mainGlobals "NONE" = some (some (.str "-" t_NONE)))
    (c_LETTERS : PySem.W.nsIn K mainGlobals "LETTERS" = some (some (.str "abcdefghijklmnopqrstuvwxyz" t_LETTERS)))
    (c_BLOCK_SIGNS : PySem.W.nsIn K mainGlobals "BLOCK_SIGNS" = some (some (.str "abcdefghijklmnopqrstuvwxyz0123456789" t_BLOCK_SIGNS)))
    (c_MOST_DIGITS : PySem.W.nsIn K mainGlobals "MOST_DIGITS" = some (some (.int 9 t_MOST_DIGITS)))
    (c_MOST_SIGNS : PySem.W.nsIn K mainGlobals "MOST_SIGNS" = some (some (.int 60 t_MOST_SIGNS)))
    (n_len : PySem.W.nsIn K mainGlobals "len" = some none)
    (n_range : PySem.W.nsIn K mainGlobals "range" = some none)
    (n_isinstance : PySem.W.nsIn K mainGlobals "isinstance" = some none)
    (n_int : PySem.W.nsIn K mainGlobals "int" = some none)
    (n_bool : PySem.W.nsIn K mainGlobals "bool" = some none)
    (n_list : PySem.W.nsIn K mainGlobals "list" = some none)
    (n_tuple : PySem.W.nsIn K mainGlobals "tuple" = some none)
    (n_str : PySem.W.nsIn K mainGlobals "str" = some none)
    (n_super : PySem.W.nsIn K mainGlobals "super" = some none)
    (n_ValueError : PySem.W.nsIn K mainGlobals "ValueError" = some none)
    (n_all : PySem.W.nsIn K mainGlobals "all" = some none)
    (n_abs : PySem.W.nsIn K mainGlobals "abs" = some none)
    (a_proposal : PySem.W.nsIn K mainGlobals "proposal" = some (some (.ref f_proposal)))
    (l_proposal : K.lookup f_proposal = some ⟨oc_proposal, od_proposal, .func (PySem.W.fnOf "proposal" "proposal" (defArgs s_proposal) (defBody s_proposal) (defScope s_proposal) .none kV_proposal dc_proposal pm_proposal an_proposal cd_proposal ct_proposal), sl_proposal⟩)
    (q_proposal : PySem.W.codeIn K cd_proposal "proposal" = true)
    (k_proposal : PySem.W.keepIn K (.ref f_proposal) = true)
    (a_prevote : PySem.W.nsIn K mainGlobals "prevote" = some (some (.ref f_prevote)))
    (l_prevote : K.lookup f_prevote = some ⟨oc_prevote, od_prevote, .func (PySem.W.fnOf "prevote" "prevote" (defArgs s_prevote) (defBody s_prevote) (defScope s_prevote) .none kV_prevote dc_prevote pm_prevote an_prevote cd_prevote ct_prevote), sl_prevote⟩)
    (q_prevote : PySem.W.codeIn K cd_prevote "prevote" = true)
    (k_prevote : PySem.W.keepIn K (.ref f_prevote) = true)
    (a_precommit : PySem.W.nsIn K mainGlobals "precommit" = some (some (.ref f_precommit)))
    (l_precommit : K.lookup f_precommit = some ⟨oc_precommit, od_precommit, .func (PySem.W.fnOf "precommit" "precommit" (defArgs s_precommit) (defBody s_precommit) (defScope s_precommit) .none kV_precommit dc_precommit pm_precommit an_precommit cd_precommit ct_precommit), sl_precommit⟩)
    (q_precommit : PySem.W.codeIn K cd_precommit "precommit" = true)
    (k_precommit : PySem.W.keepIn K (.ref f_precommit) = true)
    (a_is_number : PySem.W.nsIn K mainGlobals "is_number" = some (some (.ref f_is_number)))
    (l_is_number : K.lookup f_is_number = some ⟨oc_is_number, od_is_number, .func (PySem.W.fnOf "is_number" "is_number" (defArgs s_is_number) (defBody s_is_number) (defScope s_is_number) .none kV_is_number dc_is_number pm_is_number an_is_number cd_is_number ct_is_number), sl_is_number⟩)
    (q_is_number : PySem.W.codeIn K cd_is_number "is_number" = true)
    (k_is_number : PySem.W.keepIn K (.ref f_is_number) = true)
    (a_is_block : PySem.W.nsIn K mainGlobals "is_block" = some (some (.ref f_is_block)))
    (l_is_block : K.lookup f_is_block = some ⟨oc_is_block, od_is_block, .func (PySem.W.fnOf "is_block" "is_block" (defArgs s_is_block) (defBody s_is_block) (defScope s_is_block) .none kV_is_block dc_is_block pm_is_block an_is_block cd_is_block ct_is_block), sl_is_block⟩)
    (q_is_block : PySem.W.codeIn K cd_is_block "is_block" = true)
    (k_is_block : PySem.W.keepIn K (.ref f_is_block) = true)
    (a_word_at : PySem.W.nsIn K mainGlobals "_word_at" = some (some (.ref f_word_at)))
    (l_word_at : K.lookup f_word_at = some ⟨oc_word_at, od_word_at, .func (PySem.W.fnOf "_word_at" "_word_at" (defArgs s_word_at) (defBody s_word_at) (defScope s_word_at) .none kV_word_at dc_word_at pm_word_at an_word_at cd_word_at ct_word_at), sl_word_at⟩)
    (q_word_at : PySem.W.codeIn K cd_word_at "_word_at" = true)
    (k_word_at : PySem.W.keepIn K (.ref f_word_at) = true)
    (a_number_at : PySem.W.nsIn K mainGlobals "_number_at" = some (some (.ref f_number_at)))
    (l_number_at : K.lookup f_number_at = some ⟨oc_number_at, od_number_at, .func (PySem.W.fnOf "_number_at" "_number_at" (defArgs s_number_at) (defBody s_number_at) (defScope s_number_at) .none kV_number_at dc_number_at pm_number_at an_number_at cd_number_at ct_number_at), sl_number_at⟩)
    (q_number_at : PySem.W.codeIn K cd_number_at "_number_at" = true)
    (k_number_at : PySem.W.keepIn K (.ref f_number_at) = true)
    (a_kind_at : PySem.W.nsIn K mainGlobals "_kind_at" = some (some (.ref f_kind_at)))
    (l_kind_at : K.lookup f_kind_at = some ⟨oc_kind_at, od_kind_at, .func (PySem.W.fnOf "_kind_at" "_kind_at" (defArgs s_kind_at) (defBody s_kind_at) (defScope s_kind_at) .none kV_kind_at dc_kind_at pm_kind_at an_kind_at cd_kind_at ct_kind_at), sl_kind_at⟩)
    (q_kind_at : PySem.W.codeIn K cd_kind_at "_kind_at" = true)
    (k_kind_at : PySem.W.keepIn K (.ref f_kind_at) = true)
    (a_block_at : PySem.W.nsIn K mainGlobals "_block_at" = some (some (.ref f_block_at)))
    (l_block_at : K.lookup f_block_at = some ⟨oc_block_at, od_block_at, .func (PySem.W.fnOf "_block_at" "_block_at" (defArgs s_block_at) (defBody s_block_at) (defScope s_block_at) .none kV_block_at dc_block_at pm_block_at an_block_at cd_block_at ct_block_at), sl_block_at⟩)
    (q_block_at : PySem.W.codeIn K cd_block_at "_block_at" = true)
    (k_block_at : PySem.W.keepIn K (.ref f_block_at) = true)
    (a_lean_at : PySem.W.nsIn K mainGlobals "_lean_at" = some (some (.ref f_lean_at)))
    (l_lean_at : K.lookup f_lean_at = some ⟨oc_lean_at, od_lean_at, .func (PySem.W.fnOf "_lean_at" "_lean_at" (defArgs s_lean_at) (defBody s_lean_at) (defScope s_lean_at) .none kV_lean_at dc_lean_at pm_lean_at an_lean_at cd_lean_at ct_lean_at), sl_lean_at⟩)
    (q_lean_at : PySem.W.codeIn K cd_lean_at "_lean_at" = true)
    (k_lean_at : PySem.W.keepIn K (.ref f_lean_at) = true)
    (a_end_at : PySem.W.nsIn K mainGlobals "_end_at" = some (some (.ref f_end_at)))
    (l_end_at : K.lookup f_end_at = some ⟨oc_end_at, od_end_at, .func (PySem.W.fnOf "_end_at" "_end_at" (defArgs s_end_at) (defBody s_end_at) (defScope s_end_at) .none kV_end_at dc_end_at pm_end_at an_end_at cd_end_at ct_end_at), sl_end_at⟩)
    (q_end_at : PySem.W.codeIn K cd_end_at "_end_at" = true)
    (k_end_at : PySem.W.keepIn K (.ref f_end_at) = true)
    (a_read_letter : PySem.W.nsIn K mainGlobals "read_letter" = some (some (.ref f_read_letter)))
    (l_read_letter : K.lookup f_read_letter = some ⟨oc_read_letter, od_read_letter, .func (PySem.W.fnOf "read_letter" "read_letter" (defArgs s_read_letter) (defBody s_read_letter) (defScope s_read_letter) .none kV_read_letter dc_read_letter pm_read_letter an_read_letter cd_read_letter ct_read_letter), sl_read_letter⟩)
    (q_read_letter : PySem.W.codeIn K cd_read_letter "read_letter" = true)
    (k_read_letter : PySem.W.keepIn K (.ref f_read_letter) = true)
    (a_word : PySem.W.nsIn K mainGlobals "_word" = some (some (.ref f_word)))
    (l_word : K.lookup f_word = some ⟨oc_word, od_word, .func (PySem.W.fnOf "_word" "_word" (defArgs s_word) (defBody s_word) (defScope s_word) .none kV_word dc_word pm_word an_word cd_word ct_word), sl_word⟩)
    (q_word : PySem.W.codeIn K cd_word "_word" = true)
    (k_word : PySem.W.keepIn K (.ref f_word) = true)
    (a_letter_line : PySem.W.nsIn K mainGlobals "letter_line" = some (some (.ref f_letter_line)))
    (l_letter_line : K.lookup f_letter_line = some ⟨oc_letter_line, od_letter_line, .func (PySem.W.fnOf "letter_line" "letter_line" (defArgs s_letter_line) (defBody s_letter_line) (defScope s_letter_line) .none kV_letter_line dc_letter_line pm_letter_line an_letter_line cd_letter_line ct_letter_line), sl_letter_line⟩)
    (q_letter_line : PySem.W.codeIn K cd_letter_line "letter_line" = true)
    (k_letter_line : PySem.W.keepIn K (.ref f_letter_line) = true)
    (a_law_cell : PySem.W.nsIn K mainGlobals "_law_cell" = some (some (.ref f_law_cell)))
    (l_law_cell : K.lookup f_law_cell = some ⟨oc_law_cell, od_law_cell, .func (PySem.W.fnOf "_law_cell" "_law_cell" (defArgs s_law_cell) (defBody s_law_cell) (defScope s_law_cell) .none kV_law_cell dc_law_cell pm_law_cell an_law_cell cd_law_cell ct_law_cell), sl_law_cell⟩)
    (q_law_cell : PySem.W.codeIn K cd_law_cell "_law_cell" = true)
    (k_law_cell : PySem.W.keepIn K (.ref f_law_cell) = true)
    (a_law_is_integer : PySem.W.nsIn K mainGlobals "_law_is_integer" = some (some (.ref f_law_is_integer)))
    (l_law_is_integer : K.lookup f_law_is_integer = some ⟨oc_law_is_integer, od_law_is_integer, .func (PySem.W.fnOf "_law_is_integer" "_law_is_integer" (defArgs s_law_is_integer) (defBody s_law_is_integer) (defScope s_law_is_integer) .none kV_law_is_integer dc_law_is_integer pm_law_is_integer an_law_is_integer cd_law_is_integer ct_law_is_integer), sl_law_is_integer⟩)
    (q_law_is_integer : PySem.W.codeIn K cd_law_is_integer "_law_is_integer" = true)
    (k_law_is_integer : PySem.W.keepIn K (.ref f_law_is_integer) = true)
    (a_law_row : PySem.W.nsIn K mainGlobals "_law_row" = some (some (.ref f_law_row)))
    (l_law_row : K.lookup f_law_row = some ⟨oc_law_row, od_law_row, .func (PySem.W.fnOf "_law_row" "_law_row" (defArgs s_law_row) (defBody s_law_row) (defScope s_law_row) .none kV_law_row dc_law_row pm_law_row an_law_row cd_law_row ct_law_row), sl_law_row⟩)
    (q_law_row : PySem.W.codeIn K cd_law_row "_law_row" = true)
    (k_law_row : PySem.W.keepIn K (.ref f_law_row) = true)
    (a_law_number : PySem.W.nsIn K mainGlobals "_law_number" = some (some (.ref f_law_number)))
    (l_law_number : K.lookup f_law_number = some ⟨oc_law_number, od_law_number, .func (PySem.W.fnOf "_law_number" "_law_number" (defArgs s_law_number) (defBody s_law_number) (defScope s_law_number) .none kV_law_number dc_law_number pm_law_number an_law_number cd_law_number ct_law_number), sl_law_number⟩)
    (q_law_number : PySem.W.codeIn K cd_law_number "_law_number" = true)
    (k_law_number : PySem.W.keepIn K (.ref f_law_number) = true)
    (a_law_name : PySem.W.nsIn K mainGlobals "_law_name" = some (some (.ref f_law_name)))
    (l_law_name : K.lookup f_law_name = some ⟨oc_law_name, od_law_name, .func (PySem.W.fnOf "_law_name" "_law_name" (defArgs s_law_name) (defBody s_law_name) (defScope s_law_name) .none kV_law_name dc_law_name pm_law_name an_law_name cd_law_name ct_law_name), sl_law_name⟩)
    (q_law_name : PySem.W.codeIn K cd_law_name "_law_name" = true)
    (k_law_name : PySem.W.keepIn K (.ref f_law_name) = true)
    (a_law_line : PySem.W.nsIn K mainGlobals "_law_line" = some (some (.ref f_law_line)))
    (l_law_line : K.lookup f_law_line = some ⟨oc_law_line, od_law_line, .func (PySem.W.fnOf "_law_line" "_law_line" (defArgs s_law_line) (defBody s_law_line) (defScope s_law_line) .none kV_law_line dc_law_line pm_law_line an_law_line cd_law_line ct_law_line), sl_law_line⟩)
    (q_law_line : PySem.W.codeIn K cd_law_line "_law_line" = true)
    (k_law_line : PySem.W.keepIn K (.ref f_law_line) = true)
    (a_law_is_number : PySem.W.nsIn K mainGlobals "_law_is_number" = some (some (.ref f_law_is_number)))
    (l_law_is_number : K.lookup f_law_is_number = some ⟨oc_law_is_number, od_law_is_number, .func (PySem.W.fnOf "_law_is_number" "_law_is_number" (defArgs s_law_is_number) (defBody s_law_is_number) (defScope s_law_is_number) .none kV_law_is_number dc_law_is_number pm_law_is_number an_law_is_number cd_law_is_number ct_law_is_number), sl_law_is_number⟩)
    (q_law_is_number : PySem.W.codeIn K cd_law_is_number "_law_is_number" = true)
    (k_law_is_number : PySem.W.keepIn K (.ref f_law_is_number) = true)
    (a_law_is_name : PySem.W.nsIn K mainGlobals "_law_is_name" = some (some (.ref f_law_is_name)))
    (l_law_is_name : K.lookup f_law_is_name = some ⟨oc_law_is_name, od_law_is_name, .func (PySem.W.fnOf "_law_is_name" "_law_is_name" (defArgs s_law_is_name) (defBody s_law_is_name) (defScope s_law_is_name) .none kV_law_is_name dc_law_is_name pm_law_is_name an_law_is_name cd_law_is_name ct_law_is_name), sl_law_is_name⟩)
    (q_law_is_name : PySem.W.codeIn K cd_law_is_name "_law_is_name" = true)
    (k_law_is_name : PySem.W.keepIn K (.ref f_law_is_name) = true)
    (a_law_letter : PySem.W.nsIn K mainGlobals "_law_letter" = some (some (.ref f_law_letter)))
    (l_law_letter : K.lookup f_law_letter = some ⟨oc_law_letter, od_law_letter, .func (PySem.W.fnOf "_law_letter" "_law_letter" (defArgs s_law_letter) (defBody s_law_letter) (defScope s_law_letter) .none kV_law_letter dc_law_letter pm_law_letter an_law_letter cd_law_letter ct_law_letter), sl_law_letter⟩)
    (q_law_letter : PySem.W.codeIn K cd_law_letter "_law_letter" = true)
    (k_law_letter : PySem.W.keepIn K (.ref f_law_letter) = true)
    (a_law_fits : PySem.W.nsIn K mainGlobals "_law_fits" = some (some (.ref f_law_fits)))
    (l_law_fits : K.lookup f_law_fits = some ⟨oc_law_fits, od_law_fits, .func (PySem.W.fnOf "_law_fits" "_law_fits" (defArgs s_law_fits) (defBody s_law_fits) (defScope s_law_fits) .none kV_law_fits dc_law_fits pm_law_fits an_law_fits cd_law_fits ct_law_fits), sl_law_fits⟩)
    (q_law_fits : PySem.W.codeIn K cd_law_fits "_law_fits" = true)
    (k_law_fits : PySem.W.keepIn K (.ref f_law_fits) = true)
    (a_law_wrong : PySem.W.nsIn K mainGlobals "_law_wrong" = some (some (.ref f_law_wrong)))
    (l_law_wrong : K.lookup f_law_wrong = some ⟨oc_law_wrong, od_law_wrong, .func (PySem.W.fnOf "_law_wrong" "_law_wrong" (defArgs s_law_wrong) (defBody s_law_wrong) (defScope s_law_wrong) .none kV_law_wrong dc_law_wrong pm_law_wrong an_law_wrong cd_law_wrong ct_law_wrong), sl_law_wrong⟩)
    (q_law_wrong : PySem.W.codeIn K cd_law_wrong "_law_wrong" = true)
    (k_law_wrong : PySem.W.keepIn K (.ref f_law_wrong) = true)
    (a_law_value : PySem.W.nsIn K mainGlobals "_law_value" = some (some (.ref f_law_value)))
    (l_law_value : K.lookup f_law_value = some ⟨oc_law_value, od_law_value, .func (PySem.W.fnOf "_law_value" "_law_value" (defArgs s_law_value) (defBody s_law_value) (defScope s_law_value) .none kV_law_value dc_law_value pm_law_value an_law_value cd_law_value ct_law_value), sl_law_value⟩)
    (q_law_value : PySem.W.codeIn K cd_law_value "_law_value" = true)
    (k_law_value : PySem.W.keepIn K (.ref f_law_value) = true)
    (a_law_reads : PySem.W.nsIn K mainGlobals "_law_reads" = some (some (.ref f_law_reads)))
    (l_law_reads : K.lookup f_law_reads = some ⟨oc_law_reads, od_law_reads, .func (PySem.W.fnOf "_law_reads" "_law_reads" (defArgs s_law_reads) (defBody s_law_reads) (defScope s_law_reads) .none kV_law_reads dc_law_reads pm_law_reads an_law_reads cd_law_reads ct_law_reads), sl_law_reads⟩)
    (q_law_reads : PySem.W.codeIn K cd_law_reads "_law_reads" = true)
    (k_law_reads : PySem.W.keepIn K (.ref f_law_reads) = true)
    (a_law_changed : PySem.W.nsIn K mainGlobals "_law_changed" = some (some (.ref f_law_changed)))
    (l_law_changed : K.lookup f_law_changed = some ⟨oc_law_changed, od_law_changed, .func (PySem.W.fnOf "_law_changed" "_law_changed" (defArgs s_law_changed) (defBody s_law_changed) (defScope s_law_changed) .none kV_law_changed dc_law_changed pm_law_changed an_law_changed cd_law_changed ct_law_changed), sl_law_changed⟩)
    (q_law_changed : PySem.W.codeIn K cd_law_changed "_law_changed" = true)
    (k_law_changed : PySem.W.keepIn K (.ref f_law_changed) = true)
    (a_law : PySem.W.nsIn K mainGlobals "law" = some (some (.ref f_law)))
    (l_law : K.lookup f_law = some ⟨oc_law, od_law, .func (PySem.W.fnOf "law" "law" (defArgs s_law) (defBody s_law) (defScope s_law) .none kV_law dc_law pm_law an_law cd_law ct_law), sl_law⟩)
    (q_law : PySem.W.codeIn K cd_law "law" = true)
    (k_law : PySem.W.keepIn K (.ref f_law) = true)
    (g_BadLine : PySem.W.nsIn K mainGlobals "BadLine" = some (some (.ref C_BadLine)))
    (lc_BadLine : K.lookup C_BadLine = some (excClassObj nm_BadLine q_BadLine C_BadLine N_BadLine bs_BadLine bm_BadLine true sn_BadLine sub_BadLine ab_BadLine col_BadLine dd_BadLine k0_BadLine k1_BadLine k2_BadLine k3_BadLine k5_BadLine "ValueError.__new__"))
    (rb_BadLine : PySem.HandSPX.refsVE bm_BadLine = true)
    (sa_BadLine : PySem.W.findIn K (.ref C_BadLine) "__setattr__" = some (some (.builtin "object.__setattr__")))
    (eb_BadLine : PySem.W.subIn K (.ref C_BadLine) (.type "BaseException") = some true)
    (ty_BadLine : PySem.W.typeIn K (.ref C_BadLine) = some (.type "type"))
    (kc_BadLine : PySem.W.keepIn K (.ref C_BadLine) = true)
    (a_BadLine_init : PySem.W.findIn K (.ref C_BadLine) "__init__" = some (some (.ref f_BadLine_init)))
    (tI_BadLine_init : PySem.W.typeIn K (.ref f_BadLine_init) = some (.type "function"))
    (l_BadLine_init : K.lookup f_BadLine_init = some ⟨oc_BadLine_init, od_BadLine_init, .func (PySem.W.ksFn "__init__" "BadLine.__init__" (defArgs s_BadLine_init) (defBody s_BadLine_init) (defScope s_BadLine_init) .none kV_BadLine_init dc_BadLine_init pm_BadLine_init an_BadLine_init (.ref cda_BadLine_init) ct_BadLine_init cc_BadLine_init), sl_BadLine_init⟩)
    (q_BadLine_init : PySem.W.codeIn K (.ref cda_BadLine_init) "BadLine.__init__" = true)
    (ce_BadLine_init : K.lookup cc_BadLine_init = some ⟨cl_BadLine_init, cld_BadLine_init, .cell (some (.ref C_BadLine)), csl_BadLine_init⟩)
    (co_BadLine_init : K.lookup cda_BadLine_init = some ⟨ccl_BadLine_init, cdd_BadLine_init, .fields vs_BadLine_init, ccs_BadLine_init⟩)
    (v2_BadLine_init : vs_BadLine_init[2]? = some (.str file_BadLine_init tf_BadLine_init))
    (fi_BadLine_init : ((l.prog.main.file : Str) == file_BadLine_init) = true)
    (su_BadLine : PySem.W.ks_superIn K C_BadLine C_BadLine "__init__" = some (some (.builtin "ValueError.__init__")))
    (op_BadLine : PySem.W.nsIn K cStatics "thirdparty.any" = some none)
    (sv_BadLine : PySem.W.subIn K (.ref C_BadLine) (.type "ValueError") = some true)
    (mc_BadLine : PySem.W.mroIn K C_BadLine (.ref C_BadLine) = some true)
    (nf_BadLine : PySem.W.findIn K (.ref C_BadLine) "at" = some none)
    (ts_BadLine : (l.prog.main.scope.names.lookup ("super" : Str)).isSome = false)
    (xga_BadLine : PySem.W.findIn K (.ref C_BadLine) "__getattribute__" = some (some (.builtin "BaseException.__getattribute__")))
    (xgt_BadLine : PySem.W.findIn K (.ref C_BadLine) "__getattr__" = some none)
    (xhd_BadLine : PySem.W.hasDictIn K C_BadLine = true)
    (xcc_BadLine : PySem.W.findIn K (.ref C_BadLine) "__class__" = some (some (.builtin "object.__class__")))
    (xsp_BadLine : PySem.W.specialIn K (.builtin "object.__class__") "__get__" = some (some (.builtin "getset_descriptor.__get__")))
    (xtk_BadLine : PySem.W.takesIn K (.builtin "object.__class__") = some true)
    (xmo_BadLine : PySem.W.mroIn K C_BadLine (.type "object") = some true)
    (g_KINDS : PySem.W.nsIn K mainGlobals "KINDS" = some (some (.ref P_KINDS)))
    (l_KINDS : K.lookup P_KINDS = some ⟨.type "tuple", od_KINDS, .seq #[.str "proposal" t0_KINDS, .str "prevote" t1_KINDS, .str "precommit" t2_KINDS] n_KINDS, sl_KINDS⟩)
    (g_BadJournal : PySem.W.nsIn K mainGlobals "BadJournal" = some (some (.ref C_BadJournal)))
    (g_TribunalError : PySem.W.nsIn K mainGlobals "TribunalError" = some (some (.ref C_TribunalError)))
    (te1_TribunalError : PySem.W.subIn K (.ref C_TribunalError) (.type "BaseException") = some true)
    (te2_TribunalError : PySem.W.hasDictIn K C_TribunalError = true)
    (te3_TribunalError : PySem.W.typeIn K (.ref C_TribunalError) = some (.type "type"))
    (te4_TribunalError_BadLine : PySem.W.subIn K (.ref C_BadLine) (.ref C_TribunalError) = some true)
    (kt_BadLine_BadLine : PySem.W.kitOne K (.ref C_BadLine) (.ref C_BadLine) = some true)
    (kt_BadLine_BadJournal : PySem.W.kitOne K (.ref C_BadLine) (.ref C_BadJournal) = some false) :
    ∃ fd : FuncData, (∀ (s : Shared) (v : Value), BindsTo s fd ⟨[v], []⟩ [("script", v)]) ∧ ∀ base : Heap, K.In base → base.Ns mainGlobals mg → FnOk l.prog w K mg base CX0 8 fa fd ["script"] (spLaw K) := by
  have e := hfa.symm.trans (PySem.W.mg_of X G a_law)
  cases e
  have T : Txt K mg ⟨f_proposal, f_prevote, f_precommit, f_is_number, f_is_block, f_word_at, f_number_at, f_kind_at, f_block_at, f_lean_at, f_end_at, f_read_letter, f_word, f_letter_line, f_law_cell, f_law_is_integer, f_law_row, f_law_number, f_law_name, f_law_line, f_law_is_number, f_law_is_name, f_law_letter, f_law_fits, f_law_wrong, f_law_value, f_law_reads, f_law_changed, C_BadLine, f_BadLine_init, P_KINDS, C_TribunalError, C_BadJournal⟩ := {
    n_len := mg_no X G n_len
    n_range := mg_no X G n_range
    n_isinstance := mg_no X G n_isinstance
    n_int := mg_no X G n_int
    n_bool := mg_no X G n_bool
    n_list := mg_no X G n_list
    n_tuple := mg_no X G n_tuple
    n_str := mg_no X G n_str
    n_super := mg_no X G n_super
    n_ValueError := mg_no X G n_ValueError
    n_all := mg_no X G n_all
    n_abs := mg_no X G n_abs
    c_NONE := ⟨_, PySem.W.mg_of X G c_NONE⟩
    c_LETTERS := ⟨_, PySem.W.mg_of X G c_LETTERS⟩
    c_BLOCK_SIGNS := ⟨_, PySem.W.mg_of X G c_BLOCK_SIGNS⟩
    c_MOST_DIGITS := ⟨_, PySem.W.mg_of X G c_MOST_DIGITS⟩
    c_MOST_SIGNS := ⟨_, PySem.W.mg_of X G c_MOST_SIGNS⟩
    d_proposal := ⟨def_mk l_proposal q_proposal k_proposal (fun _ _ _ _ _ _ us hl => match us, hl with | [_, _, _], _ => rfl), PySem.W.mg_of X G a_proposal, k_proposal⟩
    d_prevote := ⟨def_mk l_prevote q_prevote k_prevote (fun _ _ _ _ _ _ us hl => match us, hl with | [_, _, _, _], _ => rfl), PySem.W.mg_of X G a_prevote, k_prevote⟩
    d_precommit := ⟨def_mk l_precommit q_precommit k_precommit (fun _ _ _ _ _ _ us hl => match us, hl with | [_, _, _], _ => rfl), PySem.W.mg_of X G a_precommit, k_precommit⟩
    d_is_number := ⟨def_mk l_is_number q_is_number k_is_number (fun _ _ _ _ _ _ us hl => match us, hl with | [_], _ => rfl), PySem.W.mg_of X G a_is_number, k_is_number⟩
    d_is_block := ⟨def_mk l_is_block q_is_block k_is_block (fun _ _ _ _ _ _ us hl => match us, hl with | [_], _ => rfl), PySem.W.mg_of X G a_is_block, k_is_block⟩
    d_word_at := ⟨def_mk l_word_at q_word_at k_word_at (fun _ _ _ _ _ _ us hl => match us, hl with | [_, _], _ => rfl), PySem.W.mg_of X G a_word_at, k_word_at⟩
    d_number_at := ⟨def_mk l_number_at q_number_at k_number_at (fun _ _ _ _ _ _ us hl => match us, hl with | [_, _], _ => rfl), PySem.W.mg_of X G a_number_at, k_number_at⟩
    d_kind_at := ⟨def_mk l_kind_at q_kind_at k_kind_at (fun _ _ _ _ _ _ us hl => match us, hl with | [_, _], _ => rfl), PySem.W.mg_of X G a_kind_at, k_kind_at⟩
    d_block_at := ⟨def_mk l_block_at q_block_at k_block_at (fun _ _ _ _ _ _ us hl => match us, hl with | [_, _, _], _ => rfl), PySem.W.mg_of X G a_block_at, k_block_at⟩
    d_lean_at := ⟨def_mk l_lean_at q_lean_at k_lean_at (fun _ _ _ _ _ _ us hl => match us, hl with | [_, _, _], _ => rfl), PySem.W.mg_of X G a_lean_at, k_lean_at⟩
    d_end_at := ⟨def_mk l_end_at q_end_at k_end_at (fun _ _ _ _ _ _ us hl => match us, hl with | [_, _], _ => rfl), PySem.W.mg_of X G a_end_at, k_end_at⟩
    d_read_letter := ⟨def_mk l_read_letter q_read_letter k_read_letter (fun _ _ _ _ _ _ us hl => match us, hl with | [_], _ => rfl), PySem.W.mg_of X G a_read_letter, k_read_letter⟩
    d_word := ⟨def_mk l_word q_word k_word (fun _ _ _ _ _ _ us hl => match us, hl with | [_], _ => rfl), PySem.W.mg_of X G a_word, k_word⟩
    d_letter_line := ⟨def_mk l_letter_line q_letter_line k_letter_line (fun _ _ _ _ _ _ us hl => match us, hl with | [_], _ => rfl), PySem.W.mg_of X G a_letter_line, k_letter_line⟩
    d_law_cell := ⟨def_mk l_law_cell q_law_cell k_law_cell (fun _ _ _ _ _ _ us hl => match us, hl with | [_, _], _ => rfl), PySem.W.mg_of X G a_law_cell, k_law_cell⟩
    d_law_is_integer := ⟨def_mk l_law_is_integer q_law_is_integer k_law_is_integer (fun _ _ _ _ _ _ us hl => match us, hl with | [_], _ => rfl), PySem.W.mg_of X G a_law_is_integer, k_law_is_integer⟩
    d_law_row := ⟨def_mk l_law_row q_law_row k_law_row (fun _ _ _ _ _ _ us hl => match us, hl with | [_, _, _], _ => rfl), PySem.W.mg_of X G a_law_row, k_law_row⟩
    d_law_number := ⟨def_mk l_law_number q_law_number k_law_number (fun _ _ _ _ _ _ us hl => match us, hl with | [_], _ => rfl), PySem.W.mg_of X G a_law_number, k_law_number⟩
    d_law_name := ⟨def_mk l_law_name q_law_name k_law_name (fun _ _ _ _ _ _ us hl => match us, hl with | [_], _ => rfl), PySem.W.mg_of X G a_law_name, k_law_name⟩
    d_law_line := ⟨def_mk l_law_line q_law_line k_law_line (fun _ _ _ _ _ _ us hl => match us, hl with | [_], _ => rfl), PySem.W.mg_of X G a_law_line, k_law_line⟩
    d_law_is_number := ⟨def_mk l_law_is_number q_law_is_number k_law_is_number (fun _ _ _ _ _ _ us hl => match us, hl with | [_], _ => rfl), PySem.W.mg_of X G a_law_is_number, k_law_is_number⟩
    d_law_is_name := ⟨def_mk l_law_is_name q_law_is_name k_law_is_name (fun _ _ _ _ _ _ us hl => match us, hl with | [_], _ => rfl), PySem.W.mg_of X G a_law_is_name, k_law_is_name⟩
    d_law_letter := ⟨def_mk l_law_letter q_law_letter k_law_letter (fun _ _ _ _ _ _ us hl => match us, hl with | [_, _], _ => rfl), PySem.W.mg_of X G a_law_letter, k_law_letter⟩
    d_law_fits := ⟨def_mk l_law_fits q_law_fits k_law_fits (fun _ _ _ _ _ _ us hl => match us, hl with | [_, _], _ => rfl), PySem.W.mg_of X G a_law_fits, k_law_fits⟩
    d_law_wrong := ⟨def_mk l_law_wrong q_law_wrong k_law_wrong (fun _ _ _ _ _ _ us hl => match us, hl with | [_], _ => rfl), PySem.W.mg_of X G a_law_wrong, k_law_wrong⟩
    d_law_value := ⟨def_mk l_law_value q_law_value k_law_value (fun _ _ _ _ _ _ us hl => match us, hl with | [_], _ => rfl), PySem.W.mg_of X G a_law_value, k_law_value⟩
    d_law_reads := ⟨def_mk l_law_reads q_law_reads k_law_reads (fun _ _ _ _ _ _ us hl => match us, hl with | [_], _ => rfl), PySem.W.mg_of X G a_law_reads, k_law_reads⟩
    d_law_changed := ⟨def_mk l_law_changed q_law_changed k_law_changed (fun _ _ _ _ _ _ us hl => match us, hl with | [_, _], _ => rfl), PySem.W.mg_of X G a_law_changed, k_law_changed⟩ }
  have TE : TxtE l.prog K mg ⟨f_proposal, f_prevote, f_precommit, f_is_number, f_is_block, f_word_at, f_number_at, f_kind_at, f_block_at, f_lean_at, f_end_at, f_read_letter, f_word, f_letter_line, f_law_cell, f_law_is_integer, f_law_row, f_law_number, f_law_name, f_law_line, f_law_is_number, f_law_is_name, f_law_letter, f_law_fits, f_law_wrong, f_law_value, f_law_reads, f_law_changed, C_BadLine, f_BadLine_init, P_KINDS, C_TribunalError, C_BadJournal⟩ := {
    g_BadLine := PySem.W.mg_of X G g_BadLine
    sup_BadLine := ⟨_, { fn := ⟨_, _, _, _, _, _, _, _, _, _, _, _, _, _, _, _, _, _, _, rfl, l_BadLine_init, q_BadLine_init, ce_BadLine_init, co_BadLine_init, v2_BadLine_init, fi_BadLine_init⟩, oex := ⟨⟨_, _, _, _, _, _, _, _, _, _, _, _, _, _, _, lc_BadLine, rb_BadLine⟩, sa_BadLine, eb_BadLine, ty_BadLine, kc_BadLine⟩, sup := su_BadLine, opq := op_BadLine, subV := sv_BadLine, mroC := mc_BadLine, nof := nf_BadLine, topS := ts_BadLine }, .all fun us hl => match us, hl with | [_, _], _ => rfl⟩
    iC_BadLine := a_BadLine_init
    tI_BadLine := tI_BadLine_init
    oex_BadLine := ⟨⟨_, _, _, _, _, _, _, _, _, _, _, _, _, _, _, lc_BadLine, rb_BadLine⟩, sa_BadLine, eb_BadLine, ty_BadLine, kc_BadLine⟩
    xc_BadLine := ⟨by unfold PySem.W.clsIn; rw [lc_BadLine]; rfl, xga_BadLine, xgt_BadLine, eb_BadLine, xhd_BadLine, xcc_BadLine, xsp_BadLine, xtk_BadLine, xmo_BadLine⟩
    g_KINDS := PySem.W.mg_of X G g_KINDS
    s_KINDS := fun H => .inr ⟨_, _, _, l_KINDS, rfl, rfl, (by show 3 ≤ sizeLine; decide), (.cons ⟨_, rfl⟩ (.cons ⟨_, rfl⟩ (.cons ⟨_, rfl⟩ .nil)))⟩
    g_BadJournal := PySem.W.mg_of X G g_BadJournal
    g_TribunalError := PySem.W.mg_of X G g_TribunalError
    exm_TribunalError_BadLine := PySem.W.exm_ref te1_TribunalError te2_TribunalError te3_TribunalError te4_TribunalError_BadLine
    kt_BadLine_BadLine := kt_BadLine_BadLine
    kt_BadLine_BadJournal := kt_BadLine_BadJournal }
  have F5 := fun_mk (st := s_law) l_law q_law k_law
  exact ⟨PySem.W.fnOf "law" "law" (defArgs s_law) (defBody s_law) (defScope s_law) .none kV_law dc_law pm_law an_law cd_law ct_law, fun s v => .of_eq rfl, fun base _ _ => ok_law F5 TE T⟩
theorem walk {l : PySem.W.OpenLaw} {q : Program} {loose : List Str} {XP : (Str → Option Value) → Heap → Prop} {YP : World → Heap → Prop} {d : DefRec} {K : Params → PySem.W.Frag} (hn : l.most = some 63) (hdf : d.params.defaults = [])
    (hY : ∀ (w : World) (h : Heap), YP w h → (K w.params).In h)
    (F : ∀ (w : World) (mg : Str → Option Value) (fa : Addr) (h : Heap), (K w.params).In h → h.Ns mainGlobals mg → mg d.name = some (.ref fa) →
      ∃ fd : FuncData, (∀ (s : Shared) (u : Value), BindsTo s fd ⟨[u], []⟩ [("script", u)]) ∧ ∀ base : Heap, (K w.params).In base → base.Ns mainGlobals mg → FnOk l.prog w (K w.params) mg base CX0 8 fa fd ["script"] (spLaw (K w.params))) :
    PySem.W.WalkO q loose XP YP l.row.toRowW d [] (fun f vs => PySem.call f vs) :=
  L2.walk_of (n := 63) (k := 8) (x := "script") (CX := fun _ => CX0) (sp := fun w => spLaw (K w.params)) hn (by decide) hdf ⟨rfl, by decide, by decide⟩ hY F (fun _ _ a ns hl _ hS => ⟨a, ns, rfl, hS, hl, fun _ => rfl⟩) fun _ _ _ _ _ z => z
end Toy
open PySem PySem.W PyProof.Rows
set_option maxRecDepth 100000 in
set_option maxHeartbeats 0 in
theorem PySem.Challenge.cw_tribunal_k03_lines_of_letters_holds : PySem.Challenge.rw_tribunal_k03_lines_of_letters.Holds := by
  w_on; o_law; k_head; (case hw => w_witness2)
  k_fill
  refine Toy.walk (l := PySem.Challenge.rw_tribunal_k03_lines_of_letters) rfl rfl (fun w h Y => PySem.W.kIn_of Y) ?F
  case F =>
    intro w mg fa h KX G hmg
    refine' Toy.all_mk KX G hmg ?c_NONE ?c_LETTERS ?c_BLOCK_SIGNS ?c_MOST_DIGITS ?c_MOST_SIGNS ?n_len ?n_range ?n_isinstance ?n_int ?n_bool ?n_list ?n_tuple ?n_str ?n_super ?n_ValueError ?n_all ?n_abs ?a_proposal ?l_proposal ?q_proposal ?k_proposal ?a_prevote ?l_prevote ?q_prevote ?k_prevote ?a_precommit ?l_precommit ?q_precommit ?k_precommit ?a_is_number ?l_is_number ?q_is_number ?k_is_number ?a_is_block ?l_is_block ?q_is_block ?k_is_block ?a_word_at ?l_word_at ?q_word_at ?k_word_at ?a_number_at ?l_number_at ?q_number_at ?k_number_at ?a_kind_at ?l_kind_at ?q_kind_at ?k_kind_at ?a_block_at ?l_block_at ?q_block_at ?k_block_at ?a_lean_at ?l_lean_at ?q_lean_at ?k_lean_at ?a_end_at ?l_end_at ?q_end_at ?k_end_at ?a_read_letter ?l_read_letter ?q_read_letter ?k_read_letter ?a_word ?l_word ?q_word ?k_word ?a_letter_line ?l_letter_line ?q_letter_line ?k_letter_line ?a_law_cell ?l_law_cell ?q_law_cell ?k_law_cell ?a_law_is_integer ?l_law_is_integer ?q_law_is_integer ?k_law_is_integer ?a_law_row ?l_law_row ?q_law_row ?k_law_row ?a_law_number ?l_law_number ?q_law_number ?k_law_number ?a_law_name ?l_law_name ?q_law_name ?k_law_name ?a_law_line ?l_law_line ?q_law_line ?k_law_line ?a_law_is_number ?l_law_is_number ?q_law_is_number ?k_law_is_number ?a_law_is_name ?l_law_is_name ?q_law_is_name ?k_law_is_name ?a_law_letter ?l_law_letter ?q_law_letter ?k_law_letter ?a_law_fits ?l_law_fits ?q_law_fits ?k_law_fits ?a_law_wrong ?l_law_wrong ?q_law_wrong ?k_law_wrong ?a_law_value ?l_law_value ?q_law_value ?k_law_value ?a_law_reads ?l_law_reads ?q_law_reads ?k_law_reads ?a_law_changed ?l_law_changed ?q_law_changed ?k_law_changed ?a_law ?l_law ?q_law ?k_law ?g_BadLine ?lc_BadLine ?rb_BadLine ?sa_BadLine ?eb_BadLine ?ty_BadLine ?kc_BadLine ?a_BadLine_init ?tI_BadLine_init ?l_BadLine_init ?q_BadLine_init ?ce_BadLine_init ?co_BadLine_init ?v2_BadLine_init ?fi_BadLine_init ?su_BadLine ?op_BadLine ?sv_BadLine ?mc_BadLine ?nf_BadLine ?ts_BadLine ?xga_BadLine ?xgt_BadLine ?xhd_BadLine ?xcc_BadLine ?xsp_BadLine ?xtk_BadLine ?xmo_BadLine ?g_KINDS ?l_KINDS ?g_BadJournal ?g_TribunalError ?te1_TribunalError ?te2_TribunalError ?te3_TribunalError ?te4_TribunalError_BadLine ?kt_BadLine_BadLine ?kt_BadLine_BadJournal
    (case c_NONE => k_is)
    (case c_LETTERS => k_is)
    (case c_BLOCK_SIGNS => k_is)
    (case c_MOST_DIGITS => k_is)
    (case c_MOST_SIGNS => k_is)
    (case n_len => k_is)
    (case n_range => k_is)
    (case n_isinstance => k_is)
    (case n_int => k_is)
    (case n_bool => k_is)
    (case n_list => k_is)
    (case n_tuple => k_is)
    (case n_str => k_is)
    (case n_super => k_is)
    (case n_ValueError => k_is)
    (case n_all => k_is)
    (case n_abs => k_is)
    (case a_proposal => k_is)
    (case l_proposal => k_is)
    (case q_proposal => k_is)
    (case k_proposal => k_is)
    (case a_prevote => k_is)
    (case l_prevote => k_is)
    (case q_prevote => k_is)
    (case k_prevote => k_is)
    (case a_precommit => k_is)
    (case l_precommit => k_is)
    (case q_precommit => k_is)
    (case k_precommit => k_is)
    (case a_is_number => k_is)
    (case l_is_number => k_is)
    (case q_is_number => k_is)
    (case k_is_number => k_is)
    (case a_is_block => k_is)
    (case l_is_block => k_is)
    (case q_is_block => k_is)
    (case k_is_block => k_is)
    (case a_word_at => k_is)
    (case l_word_at => k_is)
    (case q_word_at => k_is)
    (case k_word_at => k_is)
    (case a_number_at => k_is)
    (case l_number_at => k_is)
    (case q_number_at => k_is)
    (case k_number_at => k_is)
    (case a_kind_at => k_is)
    (case l_kind_at => k_is)
    (case q_kind_at => k_is)
    (case k_kind_at => k_is)
    (case a_block_at => k_is)
    (case l_block_at => k_is)
    (case q_block_at => k_is)
    (case k_block_at => k_is)
    (case a_lean_at => k_is)
    (case l_lean_at => k_is)
    (case q_lean_at => k_is)
    (case k_lean_at => k_is)
    (case a_end_at => k_is)
    (case l_end_at => k_is)
    (case q_end_at => k_is)
    (case k_end_at => k_is)
    (case a_read_letter => k_is)
    (case l_read_letter => k_is)
    (case q_read_letter => k_is)
    (case k_read_letter => k_is)
    (case a_word => k_is)
    (case l_word => k_is)
    (case q_word => k_is)
    (case k_word => k_is)
    (case a_letter_line => k_is)
    (case l_letter_line => k_is)
    (case q_letter_line => k_is)
    (case k_letter_line => k_is)
    (case a_law_cell => k_is)
    (case l_law_cell => k_is)
    (case q_law_cell => k_is)
    (case k_law_cell => k_is)
    (case a_law_is_integer => k_is)
    (case l_law_is_integer => k_is)
    (case q_law_is_integer => k_is)
    (case k_law_is_integer => k_is)
    (case a_law_row => k_is)
    (case l_law_row => k_is)
    (case q_law_row => k_is)
    (case k_law_row => k_is)
    (case a_law_number => k_is)
    (case l_law_number => k_is)
    (case q_law_number => k_is)
    (case k_law_number => k_is)
    (case a_law_name => k_is)
    (case l_law_name => k_is)
    (case q_law_name => k_is)
    (case k_law_name => k_is)
    (case a_law_line => k_is)
    (case l_law_line => k_is)
    (case q_law_line => k_is)
    (case k_law_line => k_is)
    (case a_law_is_number => k_is)
    (case l_law_is_number => k_is)
    (case q_law_is_number => k_is)
    (case k_law_is_number => k_is)
    (case a_law_is_name => k_is)
    (case l_law_is_name => k_is)
    (case q_law_is_name => k_is)
    (case k_law_is_name => k_is)
    (case a_law_letter => k_is)
    (case l_law_letter => k_is)
    (case q_law_letter => k_is)
    (case k_law_letter => k_is)
    (case a_law_fits => k_is)
    (case l_law_fits => k_is)
    (case q_law_fits => k_is)
    (case k_law_fits => k_is)
    (case a_law_wrong => k_is)
    (case l_law_wrong => k_is)
    (case q_law_wrong => k_is)
    (case k_law_wrong => k_is)
    (case a_law_value => k_is)
    (case l_law_value => k_is)
    (case q_law_value => k_is)
    (case k_law_value => k_is)
    (case a_law_reads => k_is)
    (case l_law_reads => k_is)
    (case q_law_reads => k_is)
    (case k_law_reads => k_is)
    (case a_law_changed => k_is)
    (case l_law_changed => k_is)
    (case q_law_changed => k_is)
    (case k_law_changed => k_is)
    (case a_law => k_is)
    (case l_law => k_is)
    (case q_law => k_is)
    (case k_law => k_is)
    (case g_BadLine => k_is)
    (case lc_BadLine => k_is)
    (case rb_BadLine => decide +kernel)
    (case sa_BadLine => k_is)
    (case eb_BadLine => k_is)
    (case ty_BadLine => k_is)
    (case kc_BadLine => k_is)
    (case a_BadLine_init => k_is)
    (case tI_BadLine_init => k_is)
    (case l_BadLine_init => k_is)
    (case q_BadLine_init => k_is)
    (case ce_BadLine_init => k_is)
    (case co_BadLine_init => k_is)
    (case v2_BadLine_init => rfl)
    (case fi_BadLine_init => decide +kernel)
    (case su_BadLine => ks_is)
    (case op_BadLine => k_is)
    (case sv_BadLine => k_is)
    (case mc_BadLine => k_is)
    (case nf_BadLine => k_is)
    (case ts_BadLine => decide +kernel)
    (case xga_BadLine => k_is)
    (case xgt_BadLine => k_is)
    (case xhd_BadLine => k_is)
    (case xcc_BadLine => k_is)
    (case xsp_BadLine => k_is)
    (case xtk_BadLine => k_is)
    (case xmo_BadLine => k_is)
    (case g_KINDS => k_is)
    (case l_KINDS => k_is)
    (case g_BadJournal => k_is)
    (case g_TribunalError => k_is)
    (case te1_TribunalError => k_is)
    (case te2_TribunalError => k_is)
    (case te3_TribunalError => k_is)
    (case te4_TribunalError_BadLine => k_is)
    (case kt_BadLine_BadLine => kit_is)
    (case kt_BadLine_BadJournal => kit_is)
