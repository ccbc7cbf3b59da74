import PyProof.Rows.All
import Wide.All
import OpenK.AllK
import Wide.FinOn
import HandS.ForMost
import HandS.IsInst
import HandS.TupLe
import HandS.Codes
import HandS.More
import HandS.TupAny
import HandS.Deep
import KE.GoesMore
import KE.GoesEnum
import KE.KTupSum
import PySem.Challenge.RW_tribunal_k10_whole_two_commits_convict_a
set_option Elab.async false
set_option linter.all false
set_option maxRecDepth 100000
set_option maxHeartbeats 4000000
namespace Toy
open PySem L2
def top (i : Nat) : Stmt := PySem.Challenge.pw_tribunal_k10_whole_two_commits_convict_a.main.body.getD i (.Pass ⟨0, 0, 0, 0⟩)
abbrev s_is_vote : Stmt := (top 7)
abbrev s_abandons : Stmt := (top 9)
abbrev s_clash : Stmt := (top 8)
abbrev s_Charge_init : Stmt := (inClass (top 11) 0)
abbrev s_first_clash : Stmt := (top 14)
abbrev s_charge_of : Stmt := (top 12)
abbrev s_law_cell : Stmt := (top 24)
abbrev s_law_row : Stmt := (top 26)
abbrev s_law_weights : Stmt := (top 27)
abbrev s_law_weight : Stmt := (top 28)
abbrev s_law_clash : Stmt := (top 29)
abbrev s_law_certified : Stmt := (top 30)
abbrev s_law_committed : Stmt := (top 31)
abbrev s_law_statement : Stmt := (top 32)
abbrev s_law_letters : Stmt := (top 33)
abbrev s_law_planted : Stmt := (top 34)
abbrev s_first_wrong : Stmt := (top 22)
abbrev s_Committee_init : Stmt := (inClass (top 21) 0)
abbrev s_charges : Stmt := (top 13)
abbrev s_law : Stmt := (top 35)
abbrev sc_is_vote_N : List Str := ["statement"]
theorem sc_is_vote : FnScope sc_is_vote_N ["statement"] (defScope s_is_vote) := ⟨rfl, rfl, rfl, by decide +kernel, rfl, by decide +kernel, by decide +kernel⟩
abbrev sc_abandons_N : List Str := ["one", "other"]
theorem sc_abandons : FnScope sc_abandons_N ["one", "other"] (defScope s_abandons) := ⟨rfl, rfl, rfl, by decide +kernel, rfl, by decide +kernel, by decide +kernel⟩
abbrev sc_clash_N : List Str := ["one", "other"]
theorem sc_clash : FnScope sc_clash_N ["one", "other"] (defScope s_clash) := ⟨rfl, rfl, rfl, by decide +kernel, rfl, by decide +kernel, by decide +kernel⟩
abbrev sc_Charge_init_N : List Str := ["self", "who", "first", "second"]
theorem sc_Charge_init : FnScope sc_Charge_init_N ["self", "who", "first", "second"] (defScope s_Charge_init) := ⟨rfl, rfl, rfl, by decide +kernel, rfl, by decide +kernel, by decide +kernel⟩
abbrev sc_first_clash_N : List Str := ["earlier", "letter", "before"]
theorem sc_first_clash : FnScope sc_first_clash_N ["earlier", "letter"] (defScope s_first_clash) := ⟨rfl, rfl, rfl, by decide +kernel, rfl, by decide +kernel, by decide +kernel⟩
abbrev sc_charge_of_N : List Str := ["letters", "who", "earlier", "letter", "first"]
theorem sc_charge_of : FnScope sc_charge_of_N ["letters", "who"] (defScope s_charge_of) := ⟨rfl, rfl, rfl, by decide +kernel, rfl, by decide +kernel, by decide +kernel⟩
abbrev sc_law_cell_N : List Str := ["script", "k"]
theorem sc_law_cell : FnScope sc_law_cell_N ["script", "k"] (defScope s_law_cell) := ⟨rfl, rfl, rfl, by decide +kernel, rfl, by decide +kernel, by decide +kernel⟩
abbrev sc_law_row_N : List Str := ["cell", "count", "size", "state", "row", "k"]
theorem sc_law_row : FnScope sc_law_row_N ["cell", "count", "size"] (defScope s_law_row) := ⟨rfl, rfl, rfl, by decide +kernel, rfl, by decide +kernel, by decide +kernel⟩
abbrev sc_law_weights_N : List Str := ["cell", "most", "count", "value"]
theorem sc_law_weights : FnScope sc_law_weights_N ["cell", "most"] (defScope s_law_weights) := ⟨rfl, rfl, rfl, by decide +kernel, rfl, by decide +kernel, by decide +kernel⟩
abbrev sc_law_weight_N : List Str := ["weights", "members", "k"]
theorem sc_law_weight : FnScope sc_law_weight_N ["weights", "members"] (defScope s_law_weight) := ⟨rfl, rfl, rfl, by decide +kernel, rfl, by decide +kernel, by decide +kernel⟩
abbrev sc_law_clash_N : List Str := ["one", "other", "first", "second"]
theorem sc_law_clash : FnScope sc_law_clash_N ["one", "other"] (defScope s_law_clash) := ⟨rfl, rfl, rfl, by decide +kernel, rfl, by decide +kernel, by decide +kernel⟩
abbrev sc_law_certified_N : List Str := ["weights", "letters", "height", "turn", "block", "leans", "later", "members", "letter", "statement", "holds"]
theorem sc_law_certified : FnScope sc_law_certified_N ["weights", "letters", "height", "turn", "block"] (defScope s_law_certified) := ⟨rfl, rfl, rfl, by decide +kernel, rfl, by decide +kernel, by decide +kernel⟩
abbrev sc_law_committed_N : List Str := ["weights", "letters", "height", "turn", "block", "members", "letter"]
theorem sc_law_committed : FnScope sc_law_committed_N ["weights", "letters", "height", "turn", "block"] (defScope s_law_committed) := ⟨rfl, rfl, rfl, by decide +kernel, rfl, by decide +kernel, by decide +kernel⟩
abbrev sc_law_statement_N : List Str := ["digit", "height", "block", "turn", "lean"]
theorem sc_law_statement : FnScope sc_law_statement_N ["digit", "height"] (defScope s_law_statement) := ⟨rfl, rfl, rfl, by decide +kernel, rfl, by decide +kernel, by decide +kernel⟩
abbrev sc_law_letters_N : List Str := ["cell", "count", "size", "digits", "letters", "k"]
theorem sc_law_letters : FnScope sc_law_letters_N ["cell", "count", "size"] (defScope s_law_letters) := ⟨rfl, rfl, rfl, by decide +kernel, rfl, by decide +kernel, by decide +kernel⟩
abbrev sc_law_planted_N : List Str := ["cell", "size", "digits", "letters", "early", "late", "via", "k"]
theorem sc_law_planted : FnScope sc_law_planted_N ["cell", "size"] (defScope s_law_planted) := ⟨rfl, rfl, rfl, by decide +kernel, rfl, by decide +kernel, by decide +kernel⟩
abbrev sc_first_wrong_N : List Str := ["weights", "at", "weight"]
theorem sc_first_wrong : FnScope sc_first_wrong_N ["weights"] (defScope s_first_wrong) := ⟨rfl, rfl, rfl, by decide +kernel, rfl, by decide +kernel, by decide +kernel⟩
abbrev sc_Committee_init_N : List Str := ["self", "weights", "wrong"]
theorem sc_Committee_init : FnScope sc_Committee_init_N ["self", "weights"] (defScope s_Committee_init) := ⟨rfl, rfl, rfl, by decide +kernel, rfl, by decide +kernel, by decide +kernel⟩
abbrev sc_charges_N : List Str := ["committee", "letters", "found", "who", "charge"]
theorem sc_charges : FnScope sc_charges_N ["committee", "letters"] (defScope s_charges) := ⟨rfl, rfl, rfl, by decide +kernel, rfl, by decide +kernel, by decide +kernel⟩
abbrev sc_law_N : List Str := ["script", "weights", "letters", "told", "members", "charge", "committed", "block", "turn"]
theorem sc_law : FnScope sc_law_N ["script"] (defScope s_law) := ⟨rfl, rfl, rfl, by decide +kernel, rfl, by decide +kernel, by decide +kernel⟩
/-! ### what stands where -/
structure DefAt (K : PySem.W.Frag) (mg : Str → Option Value) (x : Str) (st : Stmt) (ps : List Str) (f : Addr) : Prop where
  F : ∃ fd, Fun K x x st f fd ∧ Binds K fd ps []
  g : mg x = some (.ref f)
  kp : PySem.W.keepIn K (.ref f) = true
structure MethAt (K : PySem.W.Frag) (C : Addr) (x qual : Str) (st : Stmt) (ps : List Str) (f : Addr) : Prop where
  F : ∃ fd, Fun K x qual st f fd ∧ Binds K fd ps []
  fi : PySem.W.findIn K (.ref C) x = some (some (.ref f))
  isf : PySem.W.isFn K (.ref f) = true
  kp : PySem.W.keepIn K (.ref f) = true
theorem def_mk {K : PySem.W.Frag} {x qual : Str} {st : Stmt} {f : Addr} {ps : List Str} {oc : Value} {od an : Option Addr} {osl : Array (Option Value)} {kV doc pm cdv ct : Value}
    (l : K.lookup f = some ⟨oc, od, .func (PySem.W.fnOf x qual (defArgs st) (defBody st) (defScope st) .none kV doc pm an cdv ct), osl⟩)
    (c : PySem.W.codeIn K cdv qual = true) (k : PySem.W.keepIn K (.ref f) = true)
    (h : ∀ (kV doc pm : Value) (an : Option Addr) (cdv ct : Value) (us : List Value), us.length = ps.length → bindArgs (PySem.W.fnOf x qual (defArgs st) (defBody st) (defScope st) .none kV doc pm an cdv ct) ⟨us, []⟩ = pure (ps.zip us)) :
    ∃ fd, Fun K x qual st f fd ∧ Binds K fd ps [] := by
  have F := fun_mk (st := st) l c k
  exact ⟨_, F, F.binds h⟩
theorem mg_no {K : PySem.W.Frag} {h : Heap} {mg : Str → Option Value} {n : Str} (X : K.In h) (G : h.Ns mainGlobals mg) (e : PySem.W.nsIn K mainGlobals n = some none) : mg n = none := PySem.W.mg_none_of X G e
theorem same_new {H : Hp} {p : Addr} {o : HO} (n : H p = Option.none) : Same H (upd H p o) := fun b u e => by
  rw [upd_ne (ne_of_none e n)]
  exact e
theorem same_upd {H H2 : Hp} {p : Addr} {o : HO} (s : Same H H2) (n : H p = Option.none) : Same H (upd H2 p o) := fun b u e => by
  rw [upd_ne (ne_of_none e n)]
  exact s b u e
structure Ads where
  C_Committee : Addr
  C_Charge : Addr
  d_is_vote : Addr
  d_abandons : Addr
  d_clash : Addr
  d_Charge_init : Addr
  d_first_clash : Addr
  d_charge_of : Addr
  d_law_cell : Addr
  d_law_row : Addr
  d_law_weights : Addr
  d_law_weight : Addr
  d_law_clash : Addr
  d_law_certified : Addr
  d_law_committed : Addr
  d_law_statement : Addr
  d_law_letters : Addr
  d_law_planted : Addr
  d_first_wrong : Addr
  d_Committee_init : Addr
  d_charges : Addr
structure Txt (K : PySem.W.Frag) (mg : Str → Option Value) (a : Ads) : Prop where
  n_len : mg "len" = none
  n_range : mg "range" = none
  n_isinstance : mg "isinstance" = none
  n_int : mg "int" = none
  n_bool : mg "bool" = none
  n_list : mg "list" = none
  n_tuple : mg "tuple" = none
  n_sum : mg "sum" = none
  n_enumerate : mg "enumerate" = none
  c_KIND : ∃ t, mg "KIND" = some (.int 0 t)
  c_HEIGHT : ∃ t, mg "HEIGHT" = some (.int 1 t)
  c_TURN : ∃ t, mg "TURN" = some (.int 2 t)
  c_BLOCK : ∃ t, mg "BLOCK" = some (.int 3 t)
  c_LEAN : ∃ t, mg "LEAN" = some (.int 4 t)
  c_MOST_MEMBERS : ∃ t, mg "MOST_MEMBERS" = some (.int 16 t)
  c_MOST_WEIGHT : ∃ t, mg "MOST_WEIGHT" = some (.int 1000000000000 t)
  g_Committee : mg "Committee" = some (.ref a.C_Committee)
  cl_Committee : Cls K a.C_Committee
  kc_Committee : PySem.W.keepIn K (.ref a.C_Committee) = true
  mk_Committee : PySem.W.makesIn K a.C_Committee = true
  a_Committee_weights : NoAttr K a.C_Committee "weights"
  a_Committee_size : NoAttr K a.C_Committee "size"
  a_Committee_total : NoAttr K a.C_Committee "total"
  g_Charge : mg "Charge" = some (.ref a.C_Charge)
  cl_Charge : Cls K a.C_Charge
  kc_Charge : PySem.W.keepIn K (.ref a.C_Charge) = true
  mk_Charge : PySem.W.makesIn K a.C_Charge = true
  a_Charge_who : NoAttr K a.C_Charge "who"
  a_Charge_first : NoAttr K a.C_Charge "first"
  a_Charge_second : NoAttr K a.C_Charge "second"
  d_is_vote : DefAt K mg "is_vote" s_is_vote ["statement"] a.d_is_vote
  d_abandons : DefAt K mg "_abandons" s_abandons ["one", "other"] a.d_abandons
  d_clash : DefAt K mg "clash" s_clash ["one", "other"] a.d_clash
  d_Charge_init : MethAt K a.C_Charge "__init__" "Charge.__init__" s_Charge_init ["self", "who", "first", "second"] a.d_Charge_init
  d_first_clash : DefAt K mg "_first_clash" s_first_clash ["earlier", "letter"] a.d_first_clash
  d_charge_of : DefAt K mg "charge_of" s_charge_of ["letters", "who"] a.d_charge_of
  d_law_cell : DefAt K mg "_law_cell" s_law_cell ["script", "k"] a.d_law_cell
  d_law_row : DefAt K mg "_law_row" s_law_row ["cell", "count", "size"] a.d_law_row
  d_law_weights : DefAt K mg "_law_weights" s_law_weights ["cell", "most"] a.d_law_weights
  d_law_weight : DefAt K mg "_law_weight" s_law_weight ["weights", "members"] a.d_law_weight
  d_law_clash : DefAt K mg "_law_clash" s_law_clash ["one", "other"] a.d_law_clash
  d_law_certified : DefAt K mg "_law_certified" s_law_certified ["weights", "letters", "height", "turn", "block"] a.d_law_certified
  d_law_committed : DefAt K mg "_law_committed" s_law_committed ["weights", "letters", "height", "turn", "block"] a.d_law_committed
  d_law_statement : DefAt K mg "_law_statement" s_law_statement ["digit", "height"] a.d_law_statement
  d_law_letters : DefAt K mg "_law_letters" s_law_letters ["cell", "count", "size"] a.d_law_letters
  d_law_planted : DefAt K mg "_law_planted" s_law_planted ["cell", "size"] a.d_law_planted
  d_first_wrong : DefAt K mg "_first_wrong" s_first_wrong ["weights"] a.d_first_wrong
  d_Committee_init : MethAt K a.C_Committee "__init__" "Committee.__init__" s_Committee_init ["self", "weights"] a.d_Committee_init
  d_charges : DefAt K mg "charges" s_charges ["committee", "letters"] a.d_charges
theorem Txt.m_Charge {K : PySem.W.Frag} {mg : Str → Option Value} {a : Ads} (T : Txt K mg a) : Mk K a.C_Charge a.d_Charge_init := ⟨T.mk_Charge, T.d_Charge_init.fi, T.d_Charge_init.isf, T.kc_Charge⟩
theorem Txt.m_Committee {K : PySem.W.Frag} {mg : Str → Option Value} {a : Ads} (T : Txt K mg a) : Mk K a.C_Committee a.d_Committee_init := ⟨T.mk_Committee, T.d_Committee_init.fi, T.d_Committee_init.isf, T.kc_Committee⟩
section
open PyProof.Rows
/-! ### own rules: set(list of ints), k in that set; enumerate(a tuple) -/
theorem any_firstMet (zs : List Int) (k : Int) : (PyProof.Rows.firstMet (fun i => zs.getD i 0) zs.length).any (· == k) = decide (k ∈ zs) := by
  rw [PyProof.Rows.firstMet_any, Bool.eq_iff_iff, List.any_eq_true, decide_eq_true_iff]
  constructor
  · rintro ⟨y, hy, e⟩
    obtain ⟨i, hi, rfl⟩ := List.mem_map.mp hy
    have hi' : i < zs.length := List.mem_range.mp hi
    have e' : zs.getD i 0 = k := by simpa using e
    rw [← e', List.getD_eq_getElem?_getD, List.getElem?_eq_getElem hi']
    exact List.getElem_mem hi'
  · intro hk
    obtain ⟨i, hi, e⟩ := List.getElem_of_mem hk
    refine ⟨k, List.mem_map.mpr ⟨i, List.mem_range.mpr hi, ?_⟩, by simp⟩
    show zs.getD i 0 = k
    rw [List.getD_eq_getElem?_getD, List.getElem?_eq_getElem hi]
    exact e
/-- set(xs), xs a list of ints -/
def rSetOfL (K : PySem.W.Frag) : List V → Hp → VK → Prop := fun vs H Q => ∃ (l : Addr) (zs : List Int), vs = [V.ref l] ∧ SqL K H l (zs.map V.int) ∧ zs.length ≤ 1000 ∧
  ∀ (p : Addr) (n : Nat), H p = Option.none → Q (.ref p) (upd H p (.set (fun k => decide (k ∈ zs)) n))
theorem cr_set {X : Cx} (calm : X.calm = true) : CallR X (.type "set") (rSetOfL X.K) := by
  intro pins sh σ H vs us Q I rel hyp
  obtain ⟨l, zs, rfl, hl, few, q⟩ := hyp
  rw [Vals.ref1 rel]
  obtain ⟨its, rv, pl, _⟩ := I.list hl
  have isI := ints_of_vals rv
  have same : its.toArray.size = zs.length := by
    have e := rv.length
    rw [List.length_map] at e
    rw [List.size_toArray]
    exact e.symm
  refine PySem.call_set_list (items := its.toArray) (ns := zs) (I.ok.hd calm) pl.isList (by simpa using isI) (by rw [same]; unfold scanBound; omega) fun h' tk S kp => ?_
  have fresh : H sh.heap.objs.size = Option.none := I.hok.fresh (Nat.le_refl _)
  have e : (fun k => (PyProof.Rows.firstMet (fun i => zs.getD i 0) its.toArray.size).any (· == k)) = fun k => decide (k ∈ zs) := by
    funext k
    rw [same]
    exact any_firstMet zs k
  rw [e] at S
  exact ⟨.ref sh.heap.objs.size, upd H sh.heap.objs.size (.set (fun k => decide (k ∈ zs)) _), I.laid (t' := tk) (fun b o ho => kp b o (Heap.lt_size ho) ho) (Nat.le_refl _) S, rfl, q _ _ fresh⟩
/-- k in such a set -/
def rInSt (neg : Bool) : R2 := fun x y H Q => ∃ (k : Int) (b : Addr) (S : Int → Bool) (n : Nat), x = V.int k ∧ y = V.ref b ∧ H b = some (.set S n) ∧ Q (.bl (if neg then !S k else S k)) H
theorem op_in_set {X : Cx} : OpR X (compareOp .In) (rInSt false) := by
  intro pins sh σ H x y v u Q I r1 r2 hyp
  obtain ⟨k, b, S, n, rfl, rfl, hb, q⟩ := hyp
  obtain ⟨tk, rfl⟩ := r1
  cases r2
  have hS : sh.heap.SetOf (intKind X.prog X.w) b S n := I.hok b _ hb
  exact PySem.wpAny_inSet_of (PySem.intKind_is _ _ _ _) rfl hS ⟨.bl (S k), H, I.tok _, rfl, q⟩
/-- the pairs of enumerate over the tuple at a -/
def Itu (K : PySem.W.Frag) (a : Addr) : It where
  go i H := ∃ (ys : List V) (y : V), SqT K H a ys ∧ ys[i]? = some y
  yld i H v H' := ∃ (p : Addr) (y : V), v = .ref p ∧ H p = Option.none ∧ H' = upd H p (.tup [.int (i : Nat), y]) ∧ ∀ ys, SqT K H a ys → ys[i]? = some y
  stop i H := ∃ ys : List V, SqT K H a ys ∧ ys.length = i
theorem turn_enumT {P : Program} {w : World} {K : PySem.W.Frag} {elts : List Expr} {kk : Nat} {tpos : Pos} (a en it : Addr) (na : a ≠ it) (ne : en ≠ it) (nea : en ≠ a) :
    Turn P w K (.Tuple elts kk tpos) (Itu K a) [en, it] en (fun i h => (∃ old, IsEnum h en it ((i : Nat) : Int) old) ∧ h.IsTupleIter it a i) where
  mem := List.mem_cons_self
  obj := by
    rintro i h ⟨⟨old, he⟩, ⟨o, ho, hc, hd⟩⟩ b hb
    rcases List.mem_cons.mp hb with rfl | hb
    · exact ⟨_, he, fun v z => nomatch z⟩
    · rw [List.mem_singleton.mp hb]
      exact ⟨o, ho, fun v z => by rw [hd] at z; cases z⟩
  keep := by
    rintro i h h' ⟨⟨old, he⟩, hi⟩ kp
    exact ⟨⟨old, kp en List.mem_cons_self _ he⟩, hi.at fun o z => kp it (List.mem_cons_of_mem _ List.mem_cons_self) o z⟩
  item := by
    intro X hP hw hK calm i pins sh σ H E I fp st hg
    subst hP hw hK
    obtain ⟨⟨old, he⟩, hit⟩ := st
    obtain ⟨ys, y, hy, hix⟩ := hg
    obtain ⟨its, rv, tp, _⟩ := I.tuple hy
    obtain ⟨u, hu, ru⟩ := rv.get hix
    have hT : sh.heap.IsTuple a its.toArray := tp
    have hlen : i < its.toArray.size := by
      rw [List.size_toArray]
      exact (List.getElem?_eq_some_iff.mp hu).1
    have len : en < sh.heap.objs.size := Heap.lt_size he
    have lit : it < sh.heap.objs.size := by
      obtain ⟨_, z, _⟩ := hit
      exact Heap.lt_size z
    refine wpAny_pyNext_enum_itemD (Draws.tuple (by simp [I.ok.hd calm]) it a na its.toArray) he ⟨hit, hT⟩ hlen ne (by simp [ne, nea]) fun x h' tk hx ho hst hnew hsz kp => ?_
    have ex : x = u := by
      rw [List.getElem?_toArray, hu] at hx
      exact (Option.some.inj hx).symm
    subst ex
    refine ⟨_, rfl, wpAny_letOwnedTupleGo_enum (s := { sh with heap := h', toks := tk + 1 }) ho fun h2 he2 sb => ?_⟩
    have new2 : h2.get? sh.heap.objs.size = some { cls := .type "tuple", data := .seq #[.int i tk, x] } := (sb.2 _ (Nat.ne_of_gt len)).trans hnew
    have okN : ObjOk X.prog X.w (upd H sh.heap.objs.size (.tup [.int (i : Nat), y])) h2 sh.heap.objs.size (.tup [.int (i : Nat), y]) := by
      refine ⟨(by show 2 ≤ sizeLine; decide), [.int i tk, x], .cons ⟨_, rfl⟩ (.cons ru .nil), ?_⟩
      exact ⟨_, new2, rfl, _, rfl⟩
    have I2 : Inv X pins σ (upd H sh.heap.objs.size (.tup [.int (i : Nat), y])) { sh with heap := h2, toks := tk + 1 } := by
      refine I.turnedNew (ch := [en, it]) (fun b ob hb z => ?_) fp (Nat.le_refl _) okN
      have b1 : b ≠ en := fun q => hb (by rw [q]; exact List.mem_cons_self)
      have b2 : b ≠ it := fun q => hb (by rw [q]; exact List.mem_cons_of_mem _ List.mem_cons_self)
      exact (sb.2 b b1).trans (kp b ob b1 b2 z)
    refine ⟨.ref sh.heap.objs.size, _, I2, rfl, ⟨_, y, rfl, I.hok.fresh (Nat.le_refl _), rfl, fun zs hz => ?_⟩, ⟨⟨x, ?_⟩, hst.1.at fun o z => (sb.2 it (Ne.symm ne)).trans z⟩, fun b hb => ?_⟩
    · rw [I.tuple_inj hz hy]
      exact hix
    · have e1 : ((i + 1 : Nat) : Int) = (i : Int) + 1 := by omega
      rw [e1]
      exact he2
    · have lb : b < sh.heap.objs.size := by
        rcases List.mem_cons.mp hb with rfl | hb
        · exact len
        · rw [List.mem_singleton.mp hb]
          exact lit
      rw [upd_ne (Nat.ne_of_lt lb)]
      exact (fp b hb).1
  done := by
    intro X hP hw hK calm i pins sh σ H E I fp st hg
    subst hP hw hK
    obtain ⟨⟨old, he⟩, hit⟩ := st
    obtain ⟨ys, hy, rfl⟩ := hg
    obtain ⟨its, rv, tp, _⟩ := I.tuple hy
    have hT : sh.heap.IsTuple a its.toArray := tp
    have e : ys.length = its.toArray.size := by
      rw [List.size_toArray]
      exact rv.length
    rw [e] at hit
    obtain ⟨g0, g1, g2, g3, g4, g5⟩ := fp it (List.mem_cons_of_mem _ List.mem_cons_self)
    exact wpAny_pyNext_enum_endD (Draws.tuple (by simp [I.ok.hd calm]) it a na its.toArray) he ⟨hit, hT⟩ fun h' eb => ⟨rfl, I.turned (t' := sh.toks) (fun b o hb z => eb b o hb z) g0 g1 g3 g4 g5⟩
  self := by
    rintro A i s Q E ⟨⟨_, he⟩, _⟩ h
    exact wpAny_pyIter_enum he h
theorem meets_enum1 {v : Value} {o : Obj} {Z : Heap → Prop} (B : Begins v o Z) :
    Meets (Builtin.«enumerate.__new__» ⟨[.type "enumerate", v], []⟩) (fun _ R s => Z s.heap ∧
      R (.ok (.ret (.ref (s.heap.push o).objs.size))) { s with heap := (s.heap.push o).push { cls := .type "enumerate", data := .fields #[.none, .bool false, .ref s.heap.objs.size, rawInt 0, .none, .none] } }) :=
  .of_wp fun prog w A R s hyp => by
    obtain ⟨hp, g, d, tk, os⟩ := s
    obtain ⟨hz, hyp⟩ := hyp
    have sube := sub_enumerate
    have step : ∀ {A' : Around} {E' : Value → Shared → Prop} {Q' : Value → Shared → Prop}, Q' (.ref hp.objs.size) ⟨hp.push o, g, d, tk, os⟩ → wpAny (model prog w) A' (pyIter v) Q' E' ⟨hp, g, d, tk, os⟩ :=
      fun z => B.iter prog w _ _ ⟨hp, g, d, tk, os⟩ _ hz z
    wp_walk using step
    refine wpAny_stack_any fun st => wpAny_pure ?_
    split
    · rename_i c _ _ _ _ _
      cases (c == Value.type "enumerate") <;> (wp_walk using step; exact ⟨_, rfl, hyp⟩)
    · wp_walk using step
      exact ⟨_, rfl, hyp⟩
theorem call_enum1 {prog : Program} {w : World} {A : Around} {E : Value → Shared → Prop} {s : Shared} {v : Value} {o : Obj} {Z : Heap → Prop} {Q : Value → Shared → Prop} (B : Begins v o Z) (hz : Z s.heap)
    (fin : ∀ h', IsEnum h' (s.heap.objs.size + 1) s.heap.objs.size 0 .none → h'.get? s.heap.objs.size = some o → (∀ b u, s.heap.get? b = some u → h'.get? b = some u) → Q (.ref (s.heap.objs.size + 1)) { s with heap := h' }) :
    wpAny (model prog w) A (call (.type "enumerate") [v]) Q E s := by
  have size1 : (s.heap.push o).objs.size = s.heap.objs.size + 1 := Heap.size_push ..
  refine callType_new F.called_enumerate (by decide) (F.typeCall_enumerate_1 _) (F.newCall_enumerate_1 _) (fun obj => F.args_object_init_2 obj _) F.entry_enumerate_new (meets_enum1 B) ⟨hz, ?_⟩
  rw [size1]
  have isE : IsEnum ((s.heap.push o).push { cls := .type "enumerate", data := .fields #[.none, .bool false, .ref s.heap.objs.size, rawInt 0, .none, .none] }) (s.heap.objs.size + 1) s.heap.objs.size 0 .none := by
    have z := Heap.get?_push_size (s.heap.push o) (o := { cls := .type "enumerate", data := .fields #[.none, .bool false, .ref s.heap.objs.size, rawInt 0, .none, .none] }) rfl
    rwa [size1] at z
  exact ⟨⟨_, isE, rfl⟩, fin _ isE (Heap.get?_push_of_some _ (Heap.get?_push_size _ B.free)) fun b u z => Heap.get?_push_of_some _ (Heap.get?_push_of_some _ z)⟩
def iEnumT (K : PySem.W.Frag) (ta : TA) : TI := fun σ H R => ta σ H fun vs H1 => ∃ (a : Addr) (ys : List V), vs = [.ref a] ∧ SqT K H1 a ys ∧ R (Itu K a) H1
theorem pi_enumT {X : Cx} {e : Expr} {ta : TA} {p pos tpos : Pos} {elts : List Expr} {kk : Nat} (gl : Gl X "enumerate") (no : X.mg "enumerate" = none) (pa : PA X [e] ta) (plain : starEach [e] X.env = [(false, eval e X.env)] := by rfl) :
    PI X (.Tuple elts kk tpos) (.Call (.Name "enumerate" p) [e] [] pos) (iEnumT X.K ta) := by
  constructor
  intro pins s σ H R I hyp
  refine PyProof.Rows.Call_ (ld_blt I gl no boot_enumerate (PyProof.Rows.callWith_type1 (thn (pa.run pos pins s σ H _ I hyp) fun us s1 got => ?_) plain rfl))
  obtain ⟨vs, H1, I1, rel, a, ys, rfl, hy, q⟩ := got
  rw [Vals.ref1 rel]
  obtain ⟨its, rv, tp, _⟩ := I1.tuple hy
  have hT : s1.heap.IsTuple a its.toArray := tp
  have la : a < s1.heap.objs.size := by
    obtain ⟨_, z, _⟩ := hT
    exact Heap.lt_size z
  refine call_enum1 (begins_tuple a its.toArray) hT fun h' isE hit kp => wpAny_pyIter_enum isE ?_
  have I2 : Inv X pins σ H1 { s1 with heap := h' } := I1.kept (t' := s1.toks) kp
  refine ⟨s1.heap.objs.size + 1, [s1.heap.objs.size + 1, s1.heap.objs.size], _, _, H1, rfl, I2, turn_enumT a (s1.heap.objs.size + 1) s1.heap.objs.size (Nat.ne_of_lt la) (Nat.succ_ne_self _) (Nat.ne_of_gt (Nat.lt_succ_of_lt la)), ⟨⟨.none, isE⟩, _, hit, rfl, rfl⟩, fun b hb => ?_, q⟩
  have le : s1.heap.objs.size ≤ b := by
    rcases List.mem_cons.mp hb with rfl | hb
    · exact Nat.le_succ _
    · rw [List.mem_singleton.mp hb]
      exact Nat.le_refl _
  exact I1.fpOk le (I1.hok.fresh le)
/-- the forms that one uses: a word by the turn -/
theorem for_enumT {K : PySem.W.Frag} {a : Addr} {ys : List V} {g : TG} {tb : TS} {D : Ends} {σ : L2.St} {H : Hp} (Pv : Nat → L2.St → Hp → Prop) (h0 : Pv 0 σ H) (src : ∀ i σ H, i ≤ ys.length → Pv i σ H → SqT K H a ys)
    (turn : ∀ i y σ H p, ys[i]? = some y → Pv i σ H → H p = Option.none → g (.ref p) σ (upd H p (.tup [.int (i : Nat), y])) fun σ2 H2 => tb { D with nx := Pv (i + 1), ct := Pv (i + 1), bk := D.nx } σ2 H2) (fin : ∀ σ H, Pv ys.length σ H → D.nx σ H) :
    ∃ W : Nat → Nat → L2.St → Hp → Prop, (∃ m, W 0 m σ H) ∧ ∀ i m σ H, W i m σ H →
      ((Itu K a).stop i H ∧ D.nx σ H) ∨ ((Itu K a).go i H ∧ ∃ N : L2.St → Hp → Prop, (∀ σ' H', N σ' H' → ∃ m', m' < m ∧ W (i + 1) m' σ' H') ∧ ∀ x H', (Itu K a).yld i H x H' → g x σ H' fun σ2 H2 => tb { D with nx := N, ct := N, bk := D.nx } σ2 H2) := by
  refine ⟨fun i m σ H => m + i = ys.length ∧ Pv i σ H, ⟨ys.length, Nat.add_zero _, h0⟩, ?_⟩
  rintro i m σ H ⟨em, pv⟩
  have s := src i σ H (by omega) pv
  rcases Nat.lt_or_ge i ys.length with lt | ge
  · refine .inr ⟨⟨ys, ys[i], s, List.getElem?_eq_getElem lt⟩, Pv (i + 1), fun σ' H' z => ⟨m - 1, by omega, by omega, z⟩, ?_⟩
    rintro x H' ⟨p, y, rfl, hp, rfl, hy⟩
    exact turn i y σ H p (hy ys s) pv hp
  · have e : i = ys.length := by omega
    subst e
    exact .inl ⟨⟨ys, s, rfl⟩, fin σ H pv⟩
theorem lc_enumT {K : PySem.W.Frag} {a : Addr} {ys : List V} {g : TG} {tt : TT} {te : TE} {vs : List Nat} {σ : L2.St} {H1 : Hp} {D : Addr} {Qd : Hp → Prop} (Pv : Nat → Hp → Prop) (h0 : Pv 0 (upd H1 D (.lst []))) (src : ∀ i H, i ≤ ys.length → Pv i H → SqT K H a ys)
    (turn : ∀ i y H p, ys[i]? = some y → Pv i H → H p = Option.none → g (.ref p) (wipe σ vs) (upd H p (.tup [.int (i : Nat), y])) fun σ2 H2 => wipe σ2 vs = wipe σ vs ∧ tt σ2 H2 fun b H3 =>
      if b = true then te σ2 H3 fun y H4 => ∃ acc, H4 D = some (.lst acc) ∧ acc.length < sizeLine ∧ Pv (i + 1) (upd H4 D (.lst (acc ++ [y]))) else Pv (i + 1) H3) (fin : ∀ H, Pv ys.length H → Qd H) :
    ∃ W : Nat → Nat → Hp → Prop, (∃ m, W 0 m (upd H1 D (.lst []))) ∧ ∀ i m H, W i m H →
      ((Itu K a).stop i H ∧ Qd H) ∨ ((Itu K a).go i H ∧ ∃ Nx : Hp → Prop, (∀ H', Nx H' → ∃ m', m' < m ∧ W (i + 1) m' H') ∧ ∀ x H', (Itu K a).yld i H x H' → g x (wipe σ vs) H' fun σ2 H2 => wipe σ2 vs = wipe σ vs ∧ tt σ2 H2 fun b H3 =>
        if b = true then te σ2 H3 fun y H4 => ∃ acc, H4 D = some (.lst acc) ∧ acc.length < sizeLine ∧ Nx (upd H4 D (.lst (acc ++ [y]))) else Nx H3) := by
  refine ⟨fun i m H => m + i = ys.length ∧ Pv i H, ⟨ys.length, Nat.add_zero _, h0⟩, ?_⟩
  rintro i m H ⟨em, pv⟩
  have s := src i H (by omega) pv
  rcases Nat.lt_or_ge i ys.length with lt | ge
  · refine .inr ⟨⟨ys, ys[i], s, List.getElem?_eq_getElem lt⟩, Pv (i + 1), fun H' z => ⟨m - 1, by omega, by omega, z⟩, ?_⟩
    rintro x H' ⟨p, y, rfl, hp, rfl, hy⟩
    exact turn i y H p (hy ys s) pv hp
  · have e : i = ys.length := by omega
    subst e
    exact .inl ⟨⟨ys, s, rfl⟩, fin H pv⟩
/-- sum(t), t a tuple of ints -/
def rSumT (K : PySem.W.Frag) : List V → Hp → VK → Prop := fun vs H Q => ∃ (a : Addr) (zs : List Int), vs = [V.ref a] ∧ SqT K H a (zs.map V.int) ∧ Q (.int zs.sum) H
theorem cr_sumT {X : Cx} (calm : X.calm = true) : CallR X (.builtin "sum") (rSumT X.K) := by
  intro pins sh σ H vs us Q I rel hyp
  obtain ⟨a, zs, rfl, hz, q⟩ := hyp
  rw [Vals.ref1 rel]
  obtain ⟨its, rv, tp, _⟩ := I.tuple hz
  have hT : sh.heap.IsTuple a its.toArray := tp
  have isI : IntsAre its zs := Vals.ints rv
  obtain ⟨xs, ex⟩ := isI.allInts.items
  have en : numsOf (intItems xs).toList = zs := by
    rw [← ex]
    exact isI.numsOf
  rw [nums_intItems] at en
  rw [ex] at hT
  refine PySem.W.ktm_sumG (I.ok.hd calm) hT fun h' tk t' kp => ?_
  rw [preSum_eq, List.take_of_length_le (by simp), en]
  exact ⟨.int zs.sum, H, I.kept kp, ⟨_, rfl⟩, q⟩
/-- enumerate over a list, by a word -/
theorem for_enumL {K : PySem.W.Frag} {a : Addr} {ys : List V} {g : TG} {tb : TS} {D : Ends} {σ : L2.St} {H : Hp} (Pv : Nat → L2.St → Hp → Prop) (h0 : Pv 0 σ H) (src : ∀ i σ H, i ≤ ys.length → Pv i σ H → SqL K H a ys)
    (turn : ∀ i y σ H p, ys[i]? = some y → Pv i σ H → H p = Option.none → g (.ref p) σ (upd H p (.tup [.int (i : Nat), y])) fun σ2 H2 => tb { D with nx := Pv (i + 1), ct := Pv (i + 1), bk := D.nx } σ2 H2) (fin : ∀ σ H, Pv ys.length σ H → D.nx σ H) :
    ∃ W : Nat → Nat → L2.St → Hp → Prop, (∃ m, W 0 m σ H) ∧ ∀ i m σ H, W i m σ H →
      ((Ite K a).stop i H ∧ D.nx σ H) ∨ ((Ite K a).go i H ∧ ∃ N : L2.St → Hp → Prop, (∀ σ' H', N σ' H' → ∃ m', m' < m ∧ W (i + 1) m' σ' H') ∧ ∀ x H', (Ite K a).yld i H x H' → g x σ H' fun σ2 H2 => tb { D with nx := N, ct := N, bk := D.nx } σ2 H2) := by
  refine ⟨fun i m σ H => m + i = ys.length ∧ Pv i σ H, ⟨ys.length, Nat.add_zero _, h0⟩, ?_⟩
  rintro i m σ H ⟨em, pv⟩
  have s := src i σ H (by omega) pv
  rcases Nat.lt_or_ge i ys.length with lt | ge
  · refine .inr ⟨⟨ys, ys[i], s, List.getElem?_eq_getElem lt⟩, Pv (i + 1), fun σ' H' z => ⟨m - 1, by omega, by omega, z⟩, ?_⟩
    rintro x H' ⟨p, y, rfl, hp, rfl, hy⟩
    exact turn i y σ H p (hy ys s) pv hp
  · have e : i = ys.length := by omega
    subst e
    exact .inl ⟨⟨ys, s, Nat.le_refl _⟩, fin σ H pv⟩
/-- k in xs, xs a list of ints -/
theorem inV_ints (zs : List Int) (k : Int) : inV (V.int k) (zs.map V.int) = decide (k ∈ zs) := by
  induction zs with
  | nil => rfl
  | cons a r ih =>
    have e : inV (V.int k) ((a :: r).map V.int) = (eqV (V.int a) (V.int k) || inV (V.int k) (r.map V.int)) := rfl
    rw [e, ih]
    by_cases h : a = k
    · subst h
      simp [eqV]
    · have h' : ¬ k = a := fun z => h z.symm
      simp [eqV, h, h']
theorem flat_ints (zs : List Int) : (zs.map V.int).all flatV = true := by
  rw [List.all_eq_true]
  intro x hx
  obtain ⟨z, _, rfl⟩ := List.mem_map.mp hx
  rfl
end

/-! ### the mathematics of weights -/
/-- the weights at the places below n that f lists, in order -/
def pick (ws : List Int) (f : Int → Bool) : Nat → List Int
  | 0 => []
  | n + 1 => if f (n : Int) then pick ws f n ++ [ws.getD n 0] else pick ws f n
def wt (ws : List Int) (f : Int → Bool) (n : Nat) : Int := (pick ws f n).sum
theorem wt_succ (ws : List Int) (f : Int → Bool) (n : Nat) : wt ws f (n + 1) = wt ws f n + (if f (n : Int) then ws.getD n 0 else 0) := by
  unfold wt
  rw [pick]
  split
  · rw [List.sum_append, List.sum_cons, List.sum_nil, Int.add_zero]
  · rw [Int.add_zero]
theorem pick_len (ws : List Int) (f : Int → Bool) : ∀ n, (pick ws f n).length ≤ n
  | 0 => Nat.le_refl _
  | n + 1 => by
    have ih := pick_len ws f n
    rw [pick]
    split
    · rw [List.length_append, List.length_singleton]
      omega
    · omega
theorem wt_congr (ws : List Int) (f g : Int → Bool) : ∀ n, (∀ k : Nat, k < n → f k = g k) → wt ws f n = wt ws g n
  | 0, _ => rfl
  | n + 1, h => by
    rw [wt_succ, wt_succ, wt_congr ws f g n fun k hk => h k (Nat.lt_succ_of_lt hk), h n (Nat.lt_succ_self n)]
theorem wt_take (ws : List Int) : ∀ n, n ≤ ws.length → wt ws (fun _ => true) n = (ws.take n).sum
  | 0, _ => by simp [wt, pick]
  | n + 1, h => by
    have hn : n < ws.length := h
    rw [wt_succ, wt_take ws n (Nat.le_of_lt hn), if_pos rfl, sum_take (List.getElem?_eq_getElem hn), List.getD_eq_getElem?_getD, List.getElem?_eq_getElem hn]
    rfl
theorem wt_all (ws : List Int) : wt ws (fun _ => true) ws.length = ws.sum := by
  rw [wt_take ws _ (Nat.le_refl _), List.take_length]
theorem wt_not (ws : List Int) (f : Int → Bool) : ∀ n, wt ws f n + wt ws (fun k => !f k) n = wt ws (fun _ => true) n
  | 0 => rfl
  | n + 1 => by
    have ih := wt_not ws f n
    rw [wt_succ, wt_succ, wt_succ, if_pos rfl]
    cases f (n : Int)
    · simp
      omega
    · simp
      omega
theorem wt_both (ws : List Int) (f g : Int → Bool) (pos : ∀ k : Nat, 0 ≤ ws.getD k 0) : ∀ n, wt ws f n + wt ws g n ≤ wt ws (fun k => f k && g k) n + wt ws (fun _ => true) n
  | 0 => Int.le_refl _
  | n + 1 => by
    have ih := wt_both ws f g pos n
    have p := pos n
    rw [wt_succ, wt_succ, wt_succ, wt_succ, if_pos rfl]
    cases f (n : Int) <;> cases g (n : Int) <;> simp only [Bool.and_self, Bool.and_true, Bool.and_false, Bool.true_and, Bool.false_and, if_true, Bool.false_eq_true, if_false] <;> omega
/-- the weight of some listed members -/
def wOf (ws ms : List Int) : Int := wt ws (fun k => decide (k ∈ ms)) ws.length
/-- the places below n that f lists -/
def sel (f : Int → Bool) : Nat → List Int
  | 0 => []
  | n + 1 => if f (n : Int) then sel f n ++ [(n : Int)] else sel f n
theorem sel_len (f : Int → Bool) : ∀ n, (sel f n).length ≤ n
  | 0 => Nat.le_refl _
  | n + 1 => by
    have ih := sel_len f n
    rw [sel]
    split
    · rw [List.length_append, List.length_singleton]
      omega
    · omega
theorem mem_sel (f : Int → Bool) (k : Nat) : ∀ n, (k : Int) ∈ sel f n ↔ k < n ∧ f k = true
  | 0 => by simp [sel]
  | n + 1 => by
    have ih := mem_sel f k n
    rw [sel]
    split
    · rename_i h
      rw [List.mem_append, ih, List.mem_singleton]
      constructor
      · rintro (⟨h1, h2⟩ | h1)
        · exact ⟨by omega, h2⟩
        · have e : k = n := by omega
          subst e
          exact ⟨Nat.lt_succ_self _, h⟩
      · rintro ⟨h1, h2⟩
        rcases Nat.lt_or_ge k n with h3 | h3
        · exact .inl ⟨h3, h2⟩
        · exact .inr (by omega)
    · rename_i h
      rw [ih]
      constructor
      · rintro ⟨h1, h2⟩
        exact ⟨by omega, h2⟩
      · rintro ⟨h1, h2⟩
        refine ⟨?_, h2⟩
        rcases Nat.lt_or_ge k n with h3 | h3
        · exact h3
        · have e : k = n := by omega
          subst e
          exact absurd h2 h
/-- who is not listed weighs what is left -/
theorem wOf_rest (ws ms : List Int) : wOf ws ms + wOf ws (sel (fun k => !decide (k ∈ ms)) ws.length) = ws.sum := by
  unfold wOf
  rw [wt_congr ws (fun k => decide (k ∈ sel (fun k => !decide (k ∈ ms)) ws.length)) (fun k => !decide (k ∈ ms)) ws.length fun k hk => ?_]
  · rw [wt_not, wt_all]
  · rw [Bool.eq_iff_iff, decide_eq_true_iff, mem_sel]
    exact ⟨fun z => z.2, fun z => ⟨hk, z⟩⟩
theorem wOf_common (ws ms ns : List Int) (pos : ∀ k : Nat, 0 ≤ ws.getD k 0) : wOf ws ms + wOf ws ns ≤ wOf ws (ms.filter fun k => decide (k ∈ ns)) + ws.sum := by
  unfold wOf
  have h := wt_both ws (fun k => decide (k ∈ ms)) (fun k => decide (k ∈ ns)) pos ws.length
  rw [wt_all] at h
  rw [wt_congr ws (fun k => decide (k ∈ ms.filter fun k => decide (k ∈ ns))) (fun k => decide (k ∈ ms) && decide (k ∈ ns)) ws.length fun k _ => ?_]
  · exact h
  · rw [Bool.eq_iff_iff]
    simp [List.mem_filter]

/-! ### a committee as it stands -/
theorem ne_ws : ¬ (("weights" : Str) = "size") := by decide +kernel
theorem ne_wt : ¬ (("weights" : Str) = "total") := by decide +kernel
theorem ne_st : ¬ (("size" : Str) = "total") := by decide +kernel
def cfs (t : Addr) (ws : List Int) : List (Str × V) := putF "total" (.int ws.sum) (putF "size" (.int ws.length) (putF "weights" (.ref t) []))
theorem cfs_w (t : Addr) (ws : List Int) : (cfs t ws).lookup ("weights" : Str) = some (.ref t) := by
  unfold cfs
  rw [lookup_putF, if_neg ne_wt, lookup_putF, if_neg ne_ws, lookup_putF, if_pos rfl]
theorem cfs_s (t : Addr) (ws : List Int) : (cfs t ws).lookup ("size" : Str) = some (.int ws.length) := by
  unfold cfs
  rw [lookup_putF, if_neg ne_st, lookup_putF, if_pos rfl]
theorem cfs_t (t : Addr) (ws : List Int) : (cfs t ws).lookup ("total" : Str) = some (.int ws.sum) := by
  unfold cfs
  rw [lookup_putF, if_pos rfl]
theorem cfs_no (t : Addr) (ws : List Int) {m : Str} (h1 : ¬ m = "weights") (h2 : ¬ m = "size") (h3 : ¬ m = "total") : (cfs t ws).lookup m = none := by
  unfold cfs
  rw [lookup_putF, if_neg h3, lookup_putF, if_neg h2, lookup_putF, if_neg h1]
  all_goals rfl
def CommAt (C : Addr) (H : Hp) (p : Addr) (ws : List Int) : Prop := ∃ dx t, H p = some (.ins C dx (cfs t ws)) ∧ H t = some (.tup (ws.map V.int))
theorem CommAt.same {C : Addr} {H H' : Hp} {p : Addr} {ws : List Int} (h : CommAt C H p ws) (s : Same H H') : CommAt C H' p ws := by
  obtain ⟨dx, t, h1, h2⟩ := h
  exact ⟨dx, t, s _ _ h1, s _ _ h2⟩
/-- weights that a committee takes -/
def GoodW (ws : List Int) : Prop := 0 < ws.length ∧ ws.length ≤ 16 ∧ ∀ w ∈ ws, 1 ≤ w ∧ w ≤ 1000000000000

/-! ### the data: a statement as the tuple that it is -/
inductive Kd where
  | prop | pre | com
  deriving DecidableEq
def Kd.s : Kd → Str
  | .prop => "proposal"
  | .pre => "prevote"
  | .com => "precommit"
structure Sm where
  k : Kd
  h : Int
  t : Int
  b : Option Str
  l : Option Int
def oS : Option Str → V
  | none => .non
  | some x => .str x
def oI : Option Int → V
  | none => .non
  | some x => .int x
def Sm.vals (m : Sm) : List V := match m.k with
  | .pre => [.str m.k.s, .int m.h, .int m.t, oS m.b, oI m.l]
  | _ => [.str m.k.s, .int m.h, .int m.t, oS m.b]
def SmAt (H : Hp) (p : Addr) (m : Sm) : Prop := H p = some (.tup m.vals)
theorem at0 (m : Sm) : atI m.vals 0 = some (.str m.k.s) := by
  cases m with | mk k h t b l => cases k <;> rfl
theorem at1 (m : Sm) : atI m.vals 1 = some (.int m.h) := by
  cases m with | mk k h t b l => cases k <;> rfl
theorem at2 (m : Sm) : atI m.vals 2 = some (.int m.t) := by
  cases m with | mk k h t b l => cases k <;> rfl
theorem at3 (m : Sm) : atI m.vals 3 = some (oS m.b) := by
  cases m with | mk k h t b l => cases k <;> rfl
theorem at4 (m : Sm) (e : m.k = .pre) : atI m.vals 4 = some (oI m.l) := by
  cases m with | mk k h t b l => cases k <;> first | rfl | cases e
theorem ks_pp : ¬ (("proposal" : Str) = "prevote") := by decide +kernel
theorem ks_pc : ¬ (("proposal" : Str) = "precommit") := by decide +kernel
theorem ks_vc : ¬ (("prevote" : Str) = "precommit") := by decide +kernel
theorem ks_vp : ¬ (("prevote" : Str) = "proposal") := fun e => ks_pp e.symm
theorem ks_cp : ¬ (("precommit" : Str) = "proposal") := fun e => ks_pc e.symm
theorem ks_cv : ¬ (("precommit" : Str) = "prevote") := fun e => ks_vc e.symm
theorem kd_inj (a b : Kd) : a.s = b.s ↔ a = b := by
  cases a <;> cases b <;> simp [Kd.s, ks_pp, ks_pc, ks_vc, ks_vp, ks_cp, ks_cv]
theorem dec_kd (a b : Kd) : decide (V.str a.s = V.str b.s) = decide (a = b) := by
  rw [Bool.eq_iff_iff, decide_eq_true_iff, decide_eq_true_iff]
  constructor
  · intro e
    injection e with e
    exact (kd_inj a b).mp e
  · intro e
    rw [e]
theorem kprop (a : Kd) : (V.str a.s = V.str "proposal") = (a = .prop) := propext (by simpa [Kd.s] using decide_eq_decide.mp (dec_kd a .prop))
theorem kpre (a : Kd) : (V.str a.s = V.str "prevote") = (a = .pre) := propext (by simpa [Kd.s] using decide_eq_decide.mp (dec_kd a .pre))
theorem kcom (a : Kd) : (V.str a.s = V.str "precommit") = (a = .com) := propext (by simpa [Kd.s] using decide_eq_decide.mp (dec_kd a .com))
theorem koS (a b : Option Str) : (oS a = oS b) = (a = b) := propext (by
  cases a <;> cases b <;> simp [oS])
theorem koSn (a : Option Str) : (oS a = V.non) = (a = none) := koS a none
theorem koIn (a : Option Int) : (oI a = V.non) = (a = none) := by cases a <;> simp [oI]
theorem dec_oS (a b : Option Str) : decide (oS a = oS b) = decide (a = b) := by
  rw [Bool.eq_iff_iff, decide_eq_true_iff, decide_eq_true_iff]
  constructor
  · intro e
    cases a <;> cases b <;> first | rfl | cases e
    rfl
  · intro e
    rw [e]
theorem dec_oSn (a : Option Str) : decide (oS a = V.non) = decide (a = none) := dec_oS a none
theorem dec_oIn (a : Option Int) : decide (oI a = V.non) = decide (a = none) := by
  cases a <;> rfl
theorem scal_oS (a b : Option Str) : scal (oS a) (oS b) = true := by
  cases a <;> cases b <;> rfl
/-! ### the mirror -/
def abandM (x y : Sm) : Bool :=
  if x.k = .com ∧ y.k = .pre ∧ x.b ≠ none ∧ y.b ≠ none ∧ x.b ≠ y.b ∧ x.t < y.t then (match y.l with | none => true | some l => decide (l < x.t)) else false
def clashM (x y : Sm) : Bool :=
  if x.h ≠ y.h then false
  else if x.k = y.k then (decide (x.k ≠ .prop) && (decide (x.t = y.t) && decide (x.b ≠ y.b)))
  else (abandM x y || abandM y x)
theorem clashM_comm (x y : Sm) : clashM x y = clashM y x := by
  unfold clashM
  by_cases h1 : x.h = y.h
  · by_cases h2 : x.k = y.k
    · simp only [h1, h2, ne_eq, not_true_eq_false, if_false, if_true]
      congr 1
      congr 1
      · exact decide_eq_decide.mpr ⟨Eq.symm, Eq.symm⟩
      · exact decide_eq_decide.mpr ⟨Ne.symm, Ne.symm⟩
    · have h3 : ¬ y.k = x.k := fun e => h2 e.symm
      simp only [h1, h2, h3, ne_eq, not_true_eq_false, if_false, Bool.or_comm]
  · have h3 : ¬ y.h = x.h := fun e => h1 e.symm
    simp only [h1, h3, ne_eq, not_false_eq_true, if_true]
def OkS (b : Option Str) : Prop := ∀ x, b = some x → PyData.strOk x = true
theorem okA : OkS (some "a") := fun x e => by
  cases e
  decide +kernel
theorem okB : OkS (some "b") := fun x e => by
  cases e
  decide +kernel
theorem okN : OkS none := fun x e => nomatch e
theorem pick5 {i : Int} (h0 : 0 ≤ i) (h5 : i < 5) : ∃ b : Option Str, atI [V.str "a", V.str "b", V.str "a", V.str "b", V.non] i = some (oS b) ∧ OkS b := by
  have h : i = 0 ∨ i = 1 ∨ i = 2 ∨ i = 3 ∨ i = 4 := by omega
  rcases h with rfl | rfl | rfl | rfl | rfl
  · exact ⟨some "a", rfl, okA⟩
  · exact ⟨some "b", rfl, okB⟩
  · exact ⟨some "a", rfl, okA⟩
  · exact ⟨some "b", rfl, okB⟩
  · exact ⟨none, rfl, okN⟩
def Sm.dat (m : Sm) : List PyData := match m.k with
  | .pre => [.str m.k.s, .int m.h, .int m.t, (match m.b with | none => .none | some x => .str x), (match m.l with | none => .none | some x => .int x)]
  | _ => [.str m.k.s, .int m.h, .int m.t, (match m.b with | none => .none | some x => .str x)]
theorem dp_oS {K : PySem.W.Frag} {H : Hp} (b : Option Str) : Dp K H (oS b) (match b with | none => .none | some x => .str x) := by
  cases b with
  | none => exact .non
  | some x => exact .str x
theorem dp_oI {K : PySem.W.Frag} {H : Hp} (b : Option Int) : Dp K H (oI b) (match b with | none => .none | some x => .int x) := by
  cases b with
  | none => exact .non
  | some x => exact .int x
theorem dp_sm {K : PySem.W.Frag} {H : Hp} {p : Addr} {m : Sm} (h : H p = some (.tup m.vals)) : Dp K H (.ref p) (.tuple m.dat) := by
  refine .tup (SqT.of h) ?_
  obtain ⟨mk, mh, mt, mb, ml⟩ := m
  cases mk
  · exact .cons (.str _) (.cons (.int _) (.cons (.int _) (.cons (dp_oS _) .nil)))
  · exact .cons (.str _) (.cons (.int _) (.cons (.int _) (.cons (dp_oS _) (.cons (dp_oI _) .nil))))
  · exact .cons (.str _) (.cons (.int _) (.cons (.int _) (.cons (dp_oS _) .nil)))
theorem ks_ok (k : Kd) : PyData.strOk k.s = true := by
  cases k <;> decide +kernel
theorem shaped_sm (m : Sm) (o : OkS m.b) : SeqAt.shaped (.tuple m.dat) = true := by
  obtain ⟨mk, mh, mt, mb, ml⟩ := m
  cases mk <;> cases mb <;> cases ml <;> simp [Sm.dat, SeqAt.shaped, PyData.canLay0, PyData.canLayAll0, PyData.depth, PyData.depthAll, ks_ok] <;> exact o _ rfl
theorem eqv_sm (m : Sm) (o : OkS m.b) : PyData.eqv (.tuple m.dat) (.tuple m.dat) = true := SeqAt.eqv_refl _ (by
  obtain ⟨mk, mh, mt, mb, ml⟩ := m
  cases mk <;> cases mb <;> cases ml <;> simp [Sm.dat, PyData.canLay0, PyData.canLayAll0, ks_ok] <;> exact o _ rfl)
def spVote (K : PySem.W.Frag) : Sp := fun vs H Q _ => ∃ (p : Addr) (m : Sm), vs = [.ref p] ∧ SmAt H p m ∧ ∀ H', Same H H' → Q (.bl (decide (m.k ≠ .prop))) H'
def spAband (K : PySem.W.Frag) : Sp := fun vs H Q _ => ∃ (p q : Addr) (m n : Sm), vs = [.ref p, .ref q] ∧ SmAt H p m ∧ SmAt H q n ∧ ∀ H', Same H H' → Q (.bl (abandM m n)) H'
def spClash (K : PySem.W.Frag) : Sp := fun vs H Q _ => ∃ (p q : Addr) (m n : Sm), vs = [.ref p, .ref q] ∧ SmAt H p m ∧ SmAt H q n ∧ ∀ H', Same H H' → Q (.bl (clashM m n)) H'

/-! ### letters, lists of letters, what is due -/
structure Lt where
  w : Int
  m : Sm
instance : Inhabited Lt := ⟨⟨0, ⟨.prop, 0, 0, none, none⟩⟩⟩
def LtAt (H : Hp) (p : Addr) (x : Lt) : Prop := ∃ q, H p = some (.tup [.int x.w, .ref q]) ∧ SmAt H q x.m
theorem LtAt.same {H H' : Hp} {p : Addr} {x : Lt} (h : LtAt H p x) (s : Same H H') : LtAt H' p x := by
  obtain ⟨q, h1, h2⟩ := h
  exact ⟨q, s _ _ h1, s _ _ h2⟩
theorem ne_lst {H : Hp} {p l : Addr} {xs ys : List V} (h : H p = some (.tup xs)) (hl : H l = some (.lst ys)) : p ≠ l := fun e => by
  rw [e, hl] at h
  cases h
theorem LtAt.upd {H : Hp} {p l : Addr} {x : Lt} {ys : List V} {o : HO} (h : LtAt H p x) (hl : H l = some (.lst ys)) : LtAt (upd H l o) p x := by
  obtain ⟨q, h1, h2⟩ := h
  have h2' : H q = some (.tup x.m.vals) := h2
  refine ⟨q, ?_, ?_⟩
  · rw [upd_ne (ne_lst h1 hl)]
    exact h1
  · unfold SmAt
    rw [upd_ne (ne_lst h2' hl)]
    exact h2
def LsAt (H : Hp) (ps : List Addr) (xs : List Lt) : Prop := ps.length = xs.length ∧ ∀ i, i < xs.length → LtAt H (ps.getD i 0) (xs.getD i default)
theorem LsAt.nil {H : Hp} : LsAt H [] [] := ⟨rfl, fun i h => absurd h (Nat.not_lt_zero i)⟩
theorem LsAt.same {H H' : Hp} {ps : List Addr} {xs : List Lt} (h : LsAt H ps xs) (s : Same H H') : LsAt H' ps xs := ⟨h.1, fun i hi => (h.2 i hi).same s⟩
theorem LsAt.upd {H : Hp} {ps : List Addr} {xs : List Lt} {l : Addr} {ys : List V} {o : HO} (h : LsAt H ps xs) (hl : H l = some (.lst ys)) : LsAt (upd H l o) ps xs := ⟨h.1, fun i hi => (h.2 i hi).upd hl⟩
theorem getD_left {α : Type} {d : α} {xs ys : List α} {i : Nat} (h : i < xs.length) : (xs ++ ys).getD i d = xs.getD i d := by
  rw [List.getD_eq_getElem?_getD, List.getD_eq_getElem?_getD, List.getElem?_append_left h]
theorem getD_last {α : Type} {d : α} {xs : List α} {x : α} : (xs ++ [x]).getD xs.length d = x := by
  rw [List.getD_eq_getElem?_getD, List.getElem?_append_right (Nat.le_refl _), Nat.sub_self]
  rfl
theorem LsAt.snoc {H : Hp} {ps : List Addr} {xs : List Lt} {p : Addr} {x : Lt} (h : LsAt H ps xs) (e : LtAt H p x) : LsAt H (ps ++ [p]) (xs ++ [x]) := by
  refine ⟨by rw [List.length_append, List.length_append, h.1]; rfl, fun i hi => ?_⟩
  rw [List.length_append, List.length_singleton] at hi
  rcases Nat.lt_or_ge i xs.length with z | z
  · rw [getD_left (by rw [h.1]; exact z), getD_left z]
    exact h.2 i z
  · have ei : i = xs.length := by omega
    subst ei
    rw [getD_last]
    have : (ps ++ [p]).getD xs.length 0 = p := by rw [← h.1, getD_last]
    rw [this]
    exact e
theorem at_refs {ps : List Addr} {i : Nat} (h : i < ps.length) : (ps.map V.ref)[i]? = some (.ref (ps.getD i 0)) := by
  rw [List.getElem?_map, List.getD_eq_getElem?_getD, List.getElem?_eq_getElem h]
  rfl
def ownOf (xs : List Lt) (who : Int) : List Lt := xs.filter fun x => decide (x.w = who)
theorem take_succ_getD {α : Type} {d : α} {xs : List α} {i : Nat} (h : i < xs.length) : xs.take (i + 1) = xs.take i ++ [xs.getD i d] := by
  rw [List.take_add_one, List.getElem?_eq_getElem h, List.getD_eq_getElem?_getD, List.getElem?_eq_getElem h]
  rfl
theorem own_yes {xs : List Lt} {who : Int} {i : Nat} (h : i < xs.length) (e : (xs.getD i default).w = who) : ownOf (xs.take (i + 1)) who = ownOf (xs.take i) who ++ [xs.getD i default] := by
  unfold ownOf
  rw [take_succ_getD (d := default) h, List.filter_append, List.filter_cons_of_pos (by exact decide_eq_true e)]
  rfl
theorem own_no {xs : List Lt} {who : Int} {i : Nat} (h : i < xs.length) (e : ¬ (xs.getD i default).w = who) : ownOf (xs.take (i + 1)) who = ownOf (xs.take i) who := by
  unfold ownOf
  rw [take_succ_getD (d := default) h, List.filter_append, List.filter_cons_of_neg (by simpa using e), List.filter_nil, List.append_nil]
theorem own_len (xs : List Lt) (who : Int) : (ownOf xs who).length ≤ xs.length := List.length_filter_le _ _
theorem own_mem {xs : List Lt} {who : Int} {x : Lt} (h : x ∈ ownOf xs who) : x ∈ xs ∧ x.w = who := by
  unfold ownOf at h
  rw [List.mem_filter] at h
  exact ⟨h.1, of_decide_eq_true h.2⟩
theorem getD_mem2 {α : Type} {d : α} {xs : List α} {i : Nat} (h : i < xs.length) : xs.getD i d ∈ xs := by
  rw [List.getD_eq_getElem?_getD, List.getElem?_eq_getElem h]
  exact List.getElem_mem h
/-- the first letter before place n with which the one at place a clashes -/
def rowDue (own : List Lt) (a : Nat) : Nat → Option (Lt × Lt)
  | 0 => none
  | n + 1 => match rowDue own a n with
    | some r => some r
    | none => if clashM (own.getD n default).m (own.getD a default).m then some (own.getD n default, own.getD a default) else none
def colDue (own : List Lt) : Nat → Option (Lt × Lt)
  | 0 => none
  | n + 1 => match colDue own n with
    | some r => some r
    | none => rowDue own n n
def due (own : List Lt) : Option (Lt × Lt) := colDue own own.length
theorem row_mono {own : List Lt} {a i : Nat} {r : Lt × Lt} (h : rowDue own a i = some r) : ∀ d, rowDue own a (i + d) = some r
  | 0 => h
  | d + 1 => by
    show rowDue own a (i + d + 1) = some r
    rw [rowDue, row_mono h d]
theorem col_mono {own : List Lt} {i : Nat} {r : Lt × Lt} (h : colDue own i = some r) : ∀ d, colDue own (i + d) = some r
  | 0 => h
  | d + 1 => by
    show colDue own (i + d + 1) = some r
    rw [colDue, col_mono h d]
theorem row_no {own : List Lt} {a n : Nat} (h : rowDue own a n = none) (c : clashM (own.getD n default).m (own.getD a default).m = false) : rowDue own a (n + 1) = none := by
  rw [rowDue, h]
  show (if _ then _ else _) = _
  rw [c]
  rfl
theorem due_at {own : List Lt} {a n : Nat} (ha : a < own.length) (hn : n < a) (hc : colDue own a = none) (h : rowDue own a n = none) (c : clashM (own.getD n default).m (own.getD a default).m = true) :
    due own = some (own.getD n default, own.getD a default) := by
  have h1 : rowDue own a (n + 1) = some (own.getD n default, own.getD a default) := by
    rw [rowDue, h]
    show (if _ then _ else _) = _
    rw [c]
    rfl
  have h2 : rowDue own a a = some (own.getD n default, own.getD a default) := by
    have := row_mono h1 (a - (n + 1))
    rwa [Nat.add_sub_cancel' hn] at this
  have h3 : colDue own (a + 1) = some (own.getD n default, own.getD a default) := by
    rw [colDue, hc]
    exact h2
  have := col_mono h3 (own.length - (a + 1))
  rw [Nat.add_sub_cancel' ha] at this
  exact this
theorem col_no {own : List Lt} {a : Nat} (hc : colDue own a = none) (h : rowDue own a a = none) : colDue own (a + 1) = none := by
  rw [colDue, hc]
  exact h
theorem row_ok {own : List Lt} {a : Nat} (ha : a < own.length) : ∀ n, n ≤ own.length → ∀ f s, rowDue own a n = some (f, s) → f ∈ own ∧ s ∈ own ∧ clashM f.m s.m = true
  | 0, _, f, s, h => nomatch h
  | n + 1, hn, f, s, h => by
    rw [rowDue] at h
    split at h
    · rename_i r e
      cases h
      exact row_ok ha n (Nat.le_of_lt hn) f s e
    · split at h
      · rename_i c
        cases h
        exact ⟨getD_mem2 hn, getD_mem2 ha, c⟩
      · cases h
theorem col_ok {own : List Lt} : ∀ n, n ≤ own.length → ∀ f s, colDue own n = some (f, s) → f ∈ own ∧ s ∈ own ∧ clashM f.m s.m = true
  | 0, _, f, s, h => nomatch h
  | n + 1, hn, f, s, h => by
    rw [colDue] at h
    split at h
    · rename_i r e
      cases h
      exact col_ok n (Nat.le_of_lt hn) f s e
    · exact row_ok hn n (Nat.le_of_lt hn) f s h
theorem due_ok {own : List Lt} {f s : Lt} (h : due own = some (f, s)) : f ∈ own ∧ s ∈ own ∧ clashM f.m s.m = true := col_ok _ (Nat.le_refl _) f s h
def DueAt (H : Hp) (v : V) : Option (Lt × Lt) → Prop
  | none => v = .non
  | some r => ∃ p a b, v = .ref p ∧ H p = some (.tup [.ref a, .ref b]) ∧ LtAt H a r.1 ∧ LtAt H b r.2
def OkL (xs : List Lt) : Prop := ∀ x ∈ xs, OkS x.m.b
def Lt.dat (x : Lt) : PyData := .tuple [.int x.w, .tuple x.m.dat]
theorem dp_lt {K : PySem.W.Frag} {H : Hp} {p : Addr} {x : Lt} (h : LtAt H p x) : Dp K H (.ref p) x.dat := by
  obtain ⟨q, h1, h2⟩ := h
  exact .tup (SqT.of h1) (.cons (.int _) (.cons (dp_sm h2) .nil))
theorem lay_sm (m : Sm) (o : OkS m.b) : PyData.canLay0 (.tuple m.dat) = true := by
  have h := shaped_sm m o
  exact (Bool.and_eq_true_iff.mp h).1
theorem depth_sm (m : Sm) : PyData.depth (.tuple m.dat) = 1 := by
  obtain ⟨mk, mh, mt, mb, ml⟩ := m
  cases mk <;> cases mb <;> cases ml <;> simp [Sm.dat, PyData.depth, PyData.depthAll]
theorem lay_lt {x : Lt} (o : OkS x.m.b) : PyData.canLay0 x.dat = true := by
  simp only [Lt.dat, PyData.canLay0, PyData.canLayAll0, Bool.true_and, Bool.and_true]
  exact lay_sm x.m o
theorem depth_lt (x : Lt) : PyData.depth x.dat = 2 := by
  have h := depth_sm x.m
  simp only [Lt.dat, PyData.depth, PyData.depthAll] at h ⊢
  omega
theorem shaped_lt {x : Lt} (o : OkS x.m.b) : SeqAt.shaped x.dat = true := by
  unfold SeqAt.shaped
  rw [lay_lt o, depth_lt]
  rfl
theorem eqv_lt {x : Lt} (o : OkS x.m.b) : PyData.eqv x.dat x.dat = true := SeqAt.eqv_refl _ (lay_lt o)
theorem LsAt.cons {H : Hp} {p : Addr} {ps : List Addr} {x : Lt} {xs : List Lt} (h : LsAt H (p :: ps) (x :: xs)) : LtAt H p x ∧ LsAt H ps xs :=
  ⟨h.2 0 (Nat.succ_pos _), Nat.succ.inj h.1, fun i hi => h.2 (i + 1) (Nat.succ_lt_succ hi)⟩
theorem dp_lts {K : PySem.W.Frag} {H : Hp} : ∀ {ps : List Addr} {xs : List Lt}, LsAt H ps xs → DpAll K H (ps.map V.ref) (xs.map Lt.dat)
  | [], [], _ => .nil
  | p :: ps, x :: xs, h => .cons (dp_lt h.cons.1) (dp_lts h.cons.2)
  | [], x :: xs, h => nomatch h.1
  | p :: ps, [], h => nomatch h.1
theorem lay_lts : ∀ {xs : List Lt}, OkL xs → PyData.canLayAll0 (xs.map Lt.dat) = true
  | [], _ => by simp [PyData.canLayAll0]
  | x :: xs, o => by
    simp only [List.map_cons, PyData.canLayAll0]
    rw [lay_lt (o x List.mem_cons_self), lay_lts fun y hy => o y (List.mem_cons_of_mem _ hy)]
    rfl
theorem depth_lts : ∀ xs : List Lt, PyData.depthAll (xs.map Lt.dat) ≤ 2
  | [] => by simp [PyData.depthAll]
  | x :: xs => by
    have := depth_lts xs
    have := depth_lt x
    simp only [List.map_cons, PyData.depthAll]
    omega
theorem shaped_lts {xs : List Lt} (o : OkL xs) : SeqAt.shaped (.list (xs.map Lt.dat)) = true := by
  have h := depth_lts xs
  unfold SeqAt.shaped
  have e : PyData.depth (.list (xs.map Lt.dat)) = PyData.depthAll (xs.map Lt.dat) + 1 := by simp only [PyData.depth]
  have l : PyData.canLay0 (.list (xs.map Lt.dat)) = true := by simp only [PyData.canLay0, lay_lts o]
  rw [l, e, decide_eq_true (show PyData.depthAll (xs.map Lt.dat) + 1 ≤ 64 by omega)]
  rfl
theorem eqv_lts {xs : List Lt} (o : OkL xs) : PyData.eqv (.list (xs.map Lt.dat)) (.list (xs.map Lt.dat)) = true := SeqAt.eqv_refl _ (by
  simp only [PyData.canLay0, lay_lts o])

/-! ### certificates, turn by turn -/
def qrm (ws ms : List Int) : Bool := decide (2 * ws.sum < 3 * wOf ws ms)
def cnt (h t : Int) (b : Option Str) (L : List Int) (x : Lt) : Bool := decide (x.m.k = .pre ∧ x.m.h = h ∧ x.m.t = t ∧ x.m.b = b) && (match x.m.l with | none => true | some l => decide (l ∈ L) && decide (l < t))
def memM (xs : List Lt) (h t : Int) (b : Option Str) (L : List Int) : List Int := (xs.filter (cnt h t b L)).map Lt.w
/-- the turns below n with a certificate -/
def lns (ws : List Int) (xs : List Lt) (h : Int) (b : Option Str) : Nat → List Int
  | 0 => []
  | n + 1 => if qrm ws (memM xs h n b (lns ws xs h b n)) then lns ws xs h b n ++ [(n : Int)] else lns ws xs h b n
def certM (ws : List Int) (xs : List Lt) (h : Int) (b : Option Str) (n : Nat) : Bool := qrm ws (memM xs h n b (lns ws xs h b n))
def comS (xs : List Lt) (h t : Int) (b : Option Str) : List Int := (xs.filter fun x => decide (x.m.k = .com ∧ x.m.h = h ∧ x.m.t = t ∧ x.m.b = b)).map Lt.w
def commM (ws : List Int) (xs : List Lt) (h : Int) (b : Option Str) (n : Nat) : Bool := qrm ws (comS xs h n b) && certM ws xs h b n
theorem lns_len (ws : List Int) (xs : List Lt) (h : Int) (b : Option Str) : ∀ n, (lns ws xs h b n).length ≤ n
  | 0 => Nat.le_refl _
  | n + 1 => by
    have := lns_len ws xs h b n
    rw [lns]
    split
    · rw [List.length_append, List.length_singleton]
      omega
    · omega
theorem mem_yes {xs : List Lt} {h t : Int} {b : Option Str} {L : List Int} {i : Nat} (hi : i < xs.length) (c : cnt h t b L (xs.getD i default) = true) : memM (xs.take (i + 1)) h t b L = memM (xs.take i) h t b L ++ [(xs.getD i default).w] := by
  unfold memM
  rw [take_succ_getD (d := default) hi, List.filter_append, List.filter_cons_of_pos c, List.map_append]
  rfl
theorem mem_no {xs : List Lt} {h t : Int} {b : Option Str} {L : List Int} {i : Nat} (hi : i < xs.length) (c : cnt h t b L (xs.getD i default) = false) : memM (xs.take (i + 1)) h t b L = memM (xs.take i) h t b L := by
  unfold memM
  rw [take_succ_getD (d := default) hi, List.filter_append, List.filter_cons_of_neg (by rw [c]; exact Bool.false_ne_true), List.filter_nil, List.append_nil]
theorem mem_len (xs : List Lt) (h t : Int) (b : Option Str) (L : List Int) : (memM xs h t b L).length ≤ xs.length := by
  unfold memM
  rw [List.length_map]
  exact List.length_filter_le _ _
theorem com_yes {xs : List Lt} {h t : Int} {b : Option Str} {i : Nat} (hi : i < xs.length) (c : (xs.getD i default).m.k = .com ∧ (xs.getD i default).m.h = h ∧ (xs.getD i default).m.t = t ∧ (xs.getD i default).m.b = b) : comS (xs.take (i + 1)) h t b = comS (xs.take i) h t b ++ [(xs.getD i default).w] := by
  unfold comS
  rw [take_succ_getD (d := default) hi, List.filter_append, List.filter_cons_of_pos (by exact decide_eq_true c), List.map_append]
  rfl
theorem com_no {xs : List Lt} {h t : Int} {b : Option Str} {i : Nat} (hi : i < xs.length) (c : ¬ ((xs.getD i default).m.k = .com ∧ (xs.getD i default).m.h = h ∧ (xs.getD i default).m.t = t ∧ (xs.getD i default).m.b = b)) : comS (xs.take (i + 1)) h t b = comS (xs.take i) h t b := by
  unfold comS
  rw [take_succ_getD (d := default) hi, List.filter_append, List.filter_cons_of_neg (by rw [decide_eq_false c]; exact Bool.false_ne_true), List.filter_nil, List.append_nil]
theorem com_len (xs : List Lt) (h t : Int) (b : Option Str) : (comS xs h t b).length ≤ xs.length := by
  unfold comS
  rw [List.length_map]
  exact List.length_filter_le _ _
/-- a list of turns behind None -/
def lnV (L : List Int) : List V := .non :: L.map V.int
theorem flat_lnV (L : List Int) : (lnV L).all flatV = true := by
  unfold lnV
  rw [List.all_cons, flat_ints]
  rfl
theorem inV_lnV (l : Option Int) (L : List Int) : inV (oI l) (lnV L) = (match l with | none => true | some i => decide (i ∈ L)) := by
  cases l with
  | none => rfl
  | some i =>
    show (eqV .non (.int i) || inV (.int i) (L.map V.int)) = _
    rw [inV_ints]
    rfl
theorem cnt_f {h t : Int} {b : Option Str} {L : List Int} {x : Lt} (c : ¬ (x.m.k = .pre ∧ x.m.h = h ∧ x.m.t = t ∧ x.m.b = b)) : cnt h t b L x = false := by
  unfold cnt
  rw [decide_eq_false c]
  rfl
theorem cnt_t {h t : Int} {b : Option Str} {L : List Int} {x : Lt} (c : x.m.k = .pre ∧ x.m.h = h ∧ x.m.t = t ∧ x.m.b = b) : cnt h t b L x = (match x.m.l with | none => true | some l => decide (l ∈ L) && decide (l < t)) := by
  unfold cnt
  rw [decide_eq_true c]
  rfl
theorem flat_oI (l : Option Int) : flatV (oI l) = true := by
  cases l <;> rfl
theorem lnV_snoc (L : List Int) (i : Int) : lnV (L ++ [i]) = lnV L ++ [.int i] := by simp [lnV]
theorem lns_yes {ws : List Int} {xs : List Lt} {h : Int} {b : Option Str} {n : Nat} (c : certM ws xs h b n = true) : lns ws xs h b (n + 1) = lns ws xs h b n ++ [(n : Int)] := by
  rw [lns]
  exact if_pos c
theorem lns_no {ws : List Int} {xs : List Lt} {h : Int} {b : Option Str} {n : Nat} (c : ¬ certM ws xs h b n = true) : lns ws xs h b (n + 1) = lns ws xs h b n := by
  rw [lns]
  exact if_neg c
/-- == with a precommit -/
theorem eqv_com (m : Sm) (h t : Int) (b : Option Str) : PyData.eqv (.tuple m.dat) (.tuple (Sm.dat ⟨.com, h, t, b, none⟩)) = decide (m.k = .com ∧ m.h = h ∧ m.t = t ∧ m.b = b) := by
  obtain ⟨mk, mh, mt, mb, ml⟩ := m
  rw [Bool.eq_iff_iff, decide_eq_true_iff]
  have ks : ∀ x y : Kd, (x.s == y.s) = decide (x = y) := fun x y => by
    rw [Bool.eq_iff_iff, beq_iff_eq, decide_eq_true_iff]
    exact kd_inj x y
  have kp : (Kd.prop.s == Kd.com.s) = false := by
    rw [ks]
    decide
  have kv : (Kd.pre.s == Kd.com.s) = false := by
    rw [ks]
    decide
  cases mk
  · simp only [Sm.dat, PyData.eqv, PyData.eqvAll, kp, Bool.false_and, Bool.false_eq_true, false_iff, not_and]
    intro z
    cases z
  · simp only [Sm.dat, PyData.eqv, PyData.eqvAll, kv, Bool.false_and, Bool.false_eq_true, false_iff, not_and]
    intro z
    cases z
  · cases mb <;> cases b <;> simp [Sm.dat, PyData.eqv, PyData.eqvAll]

/-! ### a list of letters that is being made -/
def GoodLt (size : Int) (x : Lt) : Prop := OkS x.m.b ∧ 0 ≤ x.w ∧ x.w < size ∧ x.m.h = 0 ∧ x.m.k ≠ .prop ∧ 0 ≤ x.m.t ∧ x.m.t < 4
structure PL (H Hc : Hp) (pl : Addr) (size : Int) (n : Nat) (ps : List Addr) (xs : List Lt) : Prop where
  same : Same H Hc
  free : H pl = none
  at' : Hc pl = some (.lst (ps.map V.ref))
  ls : LsAt Hc ps xs
  good : ∀ x ∈ xs, GoodLt size x
  few : xs.length ≤ n
theorem PL.start {H Hc : Hp} {pl : Addr} {size : Int} (s : Same H Hc) (f : Hc pl = none) : PL H (upd Hc pl (.lst [])) pl size 0 [] [] :=
  ⟨s.trans (same_new f), s.free f, upd_same, LsAt.nil, fun x hx => (nomatch hx), Nat.le_refl _⟩
theorem PL.more {H Hc : Hp} {pl : Addr} {size : Int} {n n' : Nat} {ps : List Addr} {xs : List Lt} (I : PL H Hc pl size n ps xs) (h : n ≤ n') : PL H Hc pl size n' ps xs := { I with few := Nat.le_trans I.few h }
theorem PL.go {H Hc H' : Hp} {pl : Addr} {size : Int} {n : Nat} {ps : List Addr} {xs : List Lt} (I : PL H Hc pl size n ps xs) (s : Same Hc H') : PL H H' pl size n ps xs :=
  { I with same := I.same.trans s, at' := s _ _ I.at', ls := I.ls.same s }
theorem PL.push {H Hc : Hp} {pl t : Addr} {size : Int} {n : Nat} {ps : List Addr} {xs : List Lt} {x : Lt} (I : PL H Hc pl size n ps xs) (e : LtAt Hc t x) (g : GoodLt size x) : PL H (upd Hc pl (.lst (ps.map V.ref ++ [V.ref t]))) pl size (n + 1) (ps ++ [t]) (xs ++ [x]) where
  same := same_upd I.same I.free
  free := I.free
  at' := by
    rw [upd_same]
    simp
  ls := (I.ls.snoc e).upd I.at'
  good := fun y hy => by
    rcases List.mem_append.mp hy with hy | hy
    · exact I.good y hy
    · rw [List.mem_singleton.mp hy]
      exact g
  few := by
    have := I.few
    rw [List.length_append, List.length_singleton]
    omega
theorem PL.fit {H Hc : Hp} {pl : Addr} {size : Int} {n : Nat} {ps : List Addr} {xs : List Lt} (I : PL H Hc pl size n ps xs) (h : n < 1000) : (ps.map V.ref).length < sizeLine := by
  have := I.few
  rw [List.length_map, I.ls.1]
  exact small1000 (by omega)
/-- a fresh statement in a fresh letter -/
theorem lt_new {H : Hp} {q t : Addr} {w : Int} {m : Sm} {vs : List V} (hq : H q = none) (ev : vs = m.vals) (ht : upd H q (.tup vs) t = none) : LtAt (upd (upd H q (.tup vs)) t (.tup [.int w, .ref q])) t ⟨w, m⟩ ∧ Same H (upd (upd H q (.tup vs)) t (.tup [.int w, .ref q])) := by
  have s1 : Same H (upd H q (.tup vs)) := same_new hq
  have s2 : Same (upd H q (.tup vs)) (upd (upd H q (.tup vs)) t (.tup [.int w, .ref q])) := same_new ht
  refine ⟨⟨q, upd_same, s2 _ _ ?_⟩, s1.trans s2⟩
  rw [upd_same, ev]
theorem upd_row {H : Hp} {pl pd : Addr} {o r : HO} (n : pd ≠ pl) (h : H pd = some r) : upd H pl o pd = some r := by
  rw [upd_ne n]
  exact h

/-- the members below n against whom something is due -/
def fnd (xs : List Lt) : Nat → List Int
  | 0 => []
  | n + 1 => if (due (ownOf xs (n : Int))).isSome then fnd xs n ++ [(n : Int)] else fnd xs n
theorem fnd_len (xs : List Lt) : ∀ n, (fnd xs n).length ≤ n
  | 0 => Nat.le_refl _
  | n + 1 => by
    have := fnd_len xs n
    rw [fnd]
    split
    · rw [List.length_append, List.length_singleton]
      omega
    · omega
theorem fnd_due (xs : List Lt) : ∀ n, ∀ w ∈ fnd xs n, 0 ≤ w ∧ w < n ∧ (due (ownOf xs w)).isSome = true
  | 0, w, h => nomatch h
  | n + 1, w, h => by
    rw [fnd] at h
    split at h
    · rename_i c
      rcases List.mem_append.mp h with h | h
      · have := fnd_due xs n w h
        exact ⟨this.1, by omega, this.2.2⟩
      · rw [List.mem_singleton.mp h]
        exact ⟨by omega, by omega, c⟩
    · have := fnd_due xs n w h
      exact ⟨this.1, by omega, this.2.2⟩
theorem fnd_nodup (xs : List Lt) : ∀ n, (fnd xs n).Nodup
  | 0 => List.nodup_nil
  | n + 1 => by
    have ih := fnd_nodup xs n
    rw [fnd]
    split
    · refine List.nodup_append.mpr ⟨ih, List.nodup_cons.mpr ⟨fun h => (nomatch h), List.nodup_nil⟩, fun a ha b hb e => ?_⟩
      rw [List.mem_singleton.mp hb] at e
      have := fnd_due xs n a ha
      omega
    · exact ih
theorem nodup_take {F : List Int} (nd : F.Nodup) {i : Nat} (hi : i < F.length) : F.getD i 0 ∉ F.take i := fun h => by
  have e := take_succ_getD (d := 0) hi
  have nd2 : (F.take (i + 1)).Nodup := nd.sublist (List.take_sublist _ _)
  rw [e, List.nodup_append] at nd2
  exact nd2.2.2 _ h _ (List.mem_singleton.mpr rfl) rfl
theorem any_lt {xs : List Lt} {x : Lt} (h : x ∈ xs) (o : OkS x.m.b) : ((xs.map Lt.dat).any fun z => PyData.eqv z x.dat) = true := List.any_eq_true.mpr ⟨x.dat, List.mem_map.mpr ⟨x, h, rfl⟩, eqv_lt o⟩

/-! ### two commits of different blocks: who is named weighs more than a third -/
theorem row_all {own : List Lt} {a : Nat} : ∀ n, rowDue own a n = none → ∀ k, k < n → clashM (own.getD k default).m (own.getD a default).m = false
  | 0, _, k, hk => absurd hk (Nat.not_lt_zero k)
  | n + 1, h, k, hk => by
    rw [rowDue] at h
    cases e : rowDue own a n with
    | some r =>
      rw [e] at h
      cases h
    | none =>
      rw [e] at h
      rcases Nat.lt_or_ge k n with z | z
      · exact row_all n e k z
      · have ek : k = n := by omega
        subst ek
        cases c : clashM (own.getD k default).m (own.getD a default).m with
        | false => rfl
        | true =>
          have h' : (if clashM (own.getD k default).m (own.getD a default).m = true then some (own.getD k default, own.getD a default) else none) = none := h
          rw [c] at h'
          cases h'
theorem col_all {own : List Lt} : ∀ n, colDue own n = none → ∀ a k, a < n → k < a → clashM (own.getD k default).m (own.getD a default).m = false
  | 0, _, a, k, ha, _ => absurd ha (Nat.not_lt_zero a)
  | n + 1, h, a, k, ha, hk => by
    rw [colDue] at h
    cases e : colDue own n with
    | some r =>
      rw [e] at h
      cases h
    | none =>
      rw [e] at h
      rcases Nat.lt_or_ge a n with z | z
      · exact col_all n e a k z hk
      · have ea : a = n := by omega
        subst ea
        exact row_all a h k hk
theorem clash_irr (m : Sm) : clashM m m = false := by
  unfold clashM
  simp
theorem due_some {own : List Lt} {x y : Lt} (hx : x ∈ own) (hy : y ∈ own) (c : clashM x.m y.m = true) : (due own).isSome = true := by
  cases e : due own with
  | some r => rfl
  | none =>
    exfalso
    obtain ⟨i, hi, rfl⟩ := List.getElem_of_mem hx
    obtain ⟨j, hj, rfl⟩ := List.getElem_of_mem hy
    have gi : own.getD i default = own[i] := by
      rw [List.getD_eq_getElem?_getD, List.getElem?_eq_getElem hi]
      rfl
    have gj : own.getD j default = own[j] := by
      rw [List.getD_eq_getElem?_getD, List.getElem?_eq_getElem hj]
      rfl
    rcases Nat.lt_trichotomy i j with z | z | z
    · have := col_all own.length e j i hj z
      rw [gi, gj, c] at this
      cases this
    · subst z
      rw [clash_irr] at c
      cases c
    · have := col_all own.length e i j hi z
      rw [gi, gj, clashM_comm, c] at this
      cases this
theorem mem_fnd {xs : List Lt} {k : Nat} (d : (due (ownOf xs (k : Int))).isSome = true) : ∀ n, k < n → (k : Int) ∈ fnd xs n
  | 0, h => absurd h (Nat.not_lt_zero k)
  | n + 1, h => by
    rw [fnd]
    rcases Nat.lt_or_ge k n with z | z
    · have ih := mem_fnd d n z
      split
      · exact List.mem_append_left _ ih
      · exact ih
    · have e : k = n := by omega
      subst e
      rw [if_pos d]
      exact List.mem_append_right _ (List.mem_singleton.mpr rfl)
theorem wt_mono (ws : List Int) (f g : Int → Bool) (pos : ∀ k : Nat, 0 ≤ ws.getD k 0) : ∀ n, (∀ k : Nat, k < n → f k = true → g k = true) → wt ws f n ≤ wt ws g n
  | 0, _ => Int.le_refl _
  | n + 1, h => by
    have ih := wt_mono ws f g pos n fun k hk => h k (Nat.lt_succ_of_lt hk)
    have p := pos n
    have hn := h n (Nat.lt_succ_self n)
    rw [wt_succ, wt_succ]
    cases ef : f (n : Int)
    · cases eg : g (n : Int)
      · simp only [Bool.false_eq_true, if_false]
        omega
      · simp only [Bool.false_eq_true, if_false, if_true]
        omega
    · rw [hn ef]
      simp only [if_true]
      omega
theorem common_third {ws ms1 ms2 : List Int} {xs : List Lt} (pos : ∀ k : Nat, 0 ≤ ws.getD k 0) (q1 : qrm ws ms1 = true) (q2 : qrm ws ms2 = true) (h : ∀ k : Nat, (k : Int) ∈ ms1 → (k : Int) ∈ ms2 → (due (ownOf xs (k : Int))).isSome = true) : ws.sum < 3 * wOf ws (fnd xs ws.length) := by
  have c := wOf_common ws ms1 ms2 pos
  have m : wOf ws (ms1.filter fun k => decide (k ∈ ms2)) ≤ wOf ws (fnd xs ws.length) := by
    unfold wOf
    refine wt_mono ws _ _ pos _ fun k hk hf => ?_
    have hm := of_decide_eq_true hf
    rw [List.mem_filter] at hm
    exact decide_eq_true (mem_fnd (h k hm.1 (of_decide_eq_true hm.2)) _ hk)
  have d1 := of_decide_eq_true q1
  have d2 := of_decide_eq_true q2
  omega
theorem mem_memM {xs : List Lt} {h t : Int} {b : Option Str} {L : List Int} {k : Int} (hk : k ∈ memM xs h t b L) : ∃ x ∈ xs, x.w = k ∧ x.m.k = .pre ∧ x.m.h = h ∧ x.m.t = t ∧ x.m.b = b ∧ (x.m.l = none ∨ ∃ l, x.m.l = some l ∧ l ∈ L ∧ l < t) := by
  unfold memM at hk
  obtain ⟨x, hx, e⟩ := List.mem_map.mp hk
  rw [List.mem_filter] at hx
  obtain ⟨hx, c⟩ := hx
  unfold cnt at c
  obtain ⟨c1, c2⟩ := Bool.and_eq_true_iff.mp c
  obtain ⟨a1, a2, a3, a4⟩ := of_decide_eq_true c1
  refine ⟨x, hx, e, a1, a2, a3, a4, ?_⟩
  cases el : x.m.l with
  | none => exact .inl rfl
  | some l =>
    rw [el] at c2
    obtain ⟨c3, c4⟩ := Bool.and_eq_true_iff.mp c2
    exact .inr ⟨l, rfl, of_decide_eq_true c3, of_decide_eq_true c4⟩
theorem mem_comS {xs : List Lt} {h t : Int} {b : Option Str} {k : Int} (hk : k ∈ comS xs h t b) : ∃ x ∈ xs, x.w = k ∧ x.m.k = .com ∧ x.m.h = h ∧ x.m.t = t ∧ x.m.b = b := by
  unfold comS at hk
  obtain ⟨x, hx, e⟩ := List.mem_map.mp hk
  rw [List.mem_filter] at hx
  obtain ⟨a1, a2, a3, a4⟩ := of_decide_eq_true hx.2
  exact ⟨x, hx.1, e, a1, a2, a3, a4⟩
theorem mem_lns {ws : List Int} {xs : List Lt} {h : Int} {b : Option Str} {l : Int} : ∀ n, l ∈ lns ws xs h b n → ∃ k : Nat, l = (k : Int) ∧ k < n ∧ certM ws xs h b k = true
  | 0, hl => nomatch hl
  | n + 1, hl => by
    rw [lns] at hl
    split at hl
    · rename_i c
      rcases List.mem_append.mp hl with hl | hl
      · obtain ⟨k, e, hk, hc⟩ := mem_lns n hl
        exact ⟨k, e, Nat.lt_succ_of_lt hk, hc⟩
      · exact ⟨n, List.mem_singleton.mp hl, Nat.lt_succ_self n, c⟩
    · obtain ⟨k, e, hk, hc⟩ := mem_lns n hl
      exact ⟨k, e, Nat.lt_succ_of_lt hk, hc⟩
theorem own_in {xs : List Lt} {x : Lt} {k : Int} (h : x ∈ xs) (e : x.w = k) : x ∈ ownOf xs k := by
  unfold ownOf
  rw [List.mem_filter]
  exact ⟨h, decide_eq_true e⟩
/-- a commit of one block and a certificate of another one in the same or a later turn -/
theorem safe_up {ws : List Int} {xs : List Lt} {h : Int} {a b : Str} (pos : ∀ k : Nat, 0 ≤ ws.getD k 0) (ne : a ≠ b) {t : Nat} (ca : commM ws xs h (some a) t = true) : ∀ n u : Nat, u ≤ n → t ≤ u → certM ws xs h (some b) u = true → ws.sum < 3 * wOf ws (fnd xs ws.length)
  | n, u, hn, htu, cb => by
    obtain ⟨qa, cta⟩ := Bool.and_eq_true_iff.mp ca
    rcases Nat.lt_or_ge t u with z | z
    · by_cases ex : ∃ v : Nat, t ≤ v ∧ v < u ∧ certM ws xs h (some b) v = true
      · obtain ⟨v, h1, h2, h3⟩ := ex
        exact safe_up pos ne ca (n - 1) v (by omega) h1 h3
      · refine common_third pos qa cb fun k k1 k2 => ?_
        obtain ⟨x, hx, ew, ek, eh, et, eb⟩ := mem_comS k1
        obtain ⟨y, hy, fw, fk, fh, ft, fb, fl⟩ := mem_memM k2
        refine due_some (own_in hx ew) (own_in hy fw) ?_
        have ab : abandM x.m y.m = true := by
          unfold abandM
          rw [if_pos ⟨ek, fk, by rw [eb]; exact fun z => (nomatch z), by rw [fb]; exact fun z => (nomatch z), by rw [eb, fb]; exact fun z => ne (Option.some.inj z), by rw [et, ft]; omega⟩]
          rcases fl with fl | ⟨l0, fl, hl, _⟩
          · rw [fl]
          · rw [fl]
            obtain ⟨v, rfl, hv, cv⟩ := mem_lns u hl
            refine decide_eq_true ?_
            rw [et]
            rcases Nat.lt_or_ge v t with w | w
            · omega
            · exact absurd ⟨v, w, hv, cv⟩ ex
        unfold clashM
        rw [if_neg (by rw [eh, fh]; exact fun z => z rfl), if_neg (by rw [ek, fk]; exact fun z => (nomatch z)), ab]
        rfl
    · have e : u = t := by omega
      subst e
      refine common_third pos cta cb fun k k1 k2 => ?_
      obtain ⟨x, hx, ew, ek, eh, et, eb, _⟩ := mem_memM k1
      obtain ⟨y, hy, fw, fk, fh, ft, fb, _⟩ := mem_memM k2
      refine due_some (own_in hx ew) (own_in hy fw) ?_
      unfold clashM
      rw [if_neg (by rw [eh, fh]; exact fun z => z rfl), if_pos (by rw [ek, fk]), decide_eq_true (show x.m.k ≠ .prop by rw [ek]; exact fun z => (nomatch z)), decide_eq_true (show x.m.t = y.m.t by rw [et, ft]), decide_eq_true (show x.m.b ≠ y.m.b by rw [eb, fb]; exact fun z => ne (Option.some.inj z))]
      rfl
  termination_by n => n
  decreasing_by omega
theorem safety {ws : List Int} {xs : List Lt} {h : Int} {a b : Str} (pos : ∀ k : Nat, 0 ≤ ws.getD k 0) (ne : a ≠ b) {t u : Nat} (ca : commM ws xs h (some a) t = true) (cb : commM ws xs h (some b) u = true) : ws.sum < 3 * wOf ws (fnd xs ws.length) := by
  rcases Nat.le_total t u with z | z
  · exact safe_up pos ne ca u u (Nat.le_refl _) z (Bool.and_eq_true_iff.mp cb).2
  · exact safe_up pos (fun e => ne e.symm) cb t t (Nat.le_refl _) z (Bool.and_eq_true_iff.mp ca).2

/-! ### promises -/
def spCell (K : PySem.W.Frag) : Sp := fun vs H Q _ => ∃ (a : Addr) (ns : List Int) (k : Int), vs = [.ref a, .int k] ∧ SqL K H a (ns.map V.int) ∧ ns.length ≤ 63 ∧ 0 ≤ k ∧ Q (.int (ns.getD k.toNat 0)) H
def spRow (K : PySem.W.Frag) : Sp := fun vs H Q _ => ∃ (cell count size : Int), vs = [.int cell, .int count, .int size] ∧ 0 ≤ count ∧ count ≤ 1000 ∧ 0 < size ∧ size < 1000 ∧
  ∀ p (row : List Int) H', Same H H' → H' p = some (.lst (row.map V.int)) → row.length = count.toNat → (∀ x ∈ row, 0 ≤ x ∧ x < size) → H p = none → Q (.ref p) H'
def spWeights (K : PySem.W.Frag) : Sp := fun vs H Q _ => ∃ (cell most : Int), vs = [.int cell, .int most] ∧ 0 < most ∧ most ≤ 16 ∧ ∀ p (ws : List Int) H', Same H H' → H' p = some (.lst (ws.map V.int)) → GoodW ws → ws.length ≤ most.toNat → Q (.ref p) H'
def spWeight (K : PySem.W.Frag) : Sp := fun vs H Q _ => ∃ (p q : Addr) (ws ms : List Int), vs = [.ref p, .ref q] ∧ SqL K H p (ws.map V.int) ∧ SqL K H q (ms.map V.int) ∧ ws.length ≤ 16 ∧ ∀ H', Same H H' → Q (.int (wOf ws ms)) H'
def spStat (K : PySem.W.Frag) : Sp := fun vs H Q _ => ∃ (d h : Int), vs = [.int d, .int h] ∧ ∀ p m H', Same H H' → SmAt H' p m → OkS m.b → m.h = h → m.k ≠ .prop → 0 ≤ m.t → m.t < 4 → Q (.ref p) H'
def spLCert (K : PySem.W.Frag) : Sp := fun vs H Q _ => ∃ (pw l : Addr) (ws : List Int) (ps : List Addr) (xs : List Lt) (h t : Int) (b : Option Str), vs = [.ref pw, .ref l, .int h, .int t, oS b] ∧ SqL K H pw (ws.map V.int) ∧ ws.length ≤ 16 ∧ H l = some (.lst (ps.map V.ref)) ∧ LsAt H ps xs ∧ xs.length ≤ 100 ∧
  0 ≤ t ∧ t ≤ 12 ∧ ∀ H', Same H H' → Q (.bl (certM ws xs h b t.toNat)) H'
def spLComm (K : PySem.W.Frag) : Sp := fun vs H Q _ => ∃ (pw l : Addr) (ws : List Int) (ps : List Addr) (xs : List Lt) (h t : Int) (b : Option Str), vs = [.ref pw, .ref l, .int h, .int t, oS b] ∧ SqL K H pw (ws.map V.int) ∧ ws.length ≤ 16 ∧ H l = some (.lst (ps.map V.ref)) ∧ LsAt H ps xs ∧ xs.length ≤ 100 ∧
  0 ≤ t ∧ t ≤ 12 ∧ OkS b ∧ OkL xs ∧ ∀ H', Same H H' → Q (.bl (commM ws xs h b t.toNat)) H'
def spLetters (K : PySem.W.Frag) : Sp := fun vs H Q _ => ∃ (cell count size : Int), vs = [.int cell, .int count, .int size] ∧ 0 ≤ count ∧ count ≤ 100 ∧ 0 < size ∧
  ∀ (p : Addr) (ps : List Addr) (xs : List Lt) (H' : Hp), Same H H' → H' p = some (.lst (ps.map V.ref)) → LsAt H' ps xs → xs.length = count.toNat → (∀ x ∈ xs, GoodLt size x) → H p = none → Q (.ref p) H'
def spPlanted (K : PySem.W.Frag) : Sp := fun vs H Q _ => ∃ (cell size : Int), vs = [.int cell, .int size] ∧ 0 < size ∧ size ≤ 16 ∧
  ∀ (p : Addr) (ps : List Addr) (xs : List Lt) (H' : Hp), Same H H' → H' p = some (.lst (ps.map V.ref)) → LsAt H' ps xs → xs.length ≤ 5 * size.toNat → (∀ x ∈ xs, GoodLt size x) → H p = none → Q (.ref p) H'
def spLift (K : PySem.W.Frag) : Sp := fun vs H Q _ => ∃ (p : Addr) (x : Lt) (h : Int), vs = [.ref p, .int h] ∧ LtAt H p x ∧ ∀ q H', Same H H' → LtAt H' q ⟨x.w, { x.m with h := h }⟩ → Q (.ref q) H'
def spCertP (K : PySem.W.Frag) (C : Addr) : Sp := fun vs H Q _ => ∃ (c l : Addr) (ws : List Int) (ps : List Addr) (xs : List Lt) (h t : Int) (b : Option Str), vs = [.ref c, .ref l, .int h, .int t, oS b] ∧ CommAt C H c ws ∧ GoodW ws ∧ H l = some (.lst (ps.map V.ref)) ∧ LsAt H ps xs ∧ xs.length ≤ 100 ∧
  0 ≤ t ∧ t ≤ 12 ∧ OkS b ∧ OkL xs ∧ ∀ H', Same H H' → Q (.bl (certM ws xs h b t.toNat)) H'
def spCommP (K : PySem.W.Frag) (C : Addr) : Sp := fun vs H Q _ => ∃ (c l : Addr) (ws : List Int) (ps : List Addr) (xs : List Lt) (h t : Int) (b : Option Str), vs = [.ref c, .ref l, .int h, .int t, oS b] ∧ CommAt C H c ws ∧ GoodW ws ∧ H l = some (.lst (ps.map V.ref)) ∧ LsAt H ps xs ∧ xs.length ≤ 100 ∧
  0 ≤ t ∧ t ≤ 12 ∧ OkS b ∧ OkL xs ∧ ∀ H', Same H H' → Q (.bl (commM ws xs h b t.toNat)) H'
def spLaw (K : PySem.W.Frag) : Sp := fun vs H Q _ => ∃ (a : Addr) (ns : List Int), vs = [.ref a] ∧ SqL K H a (ns.map V.int) ∧ ns.length ≤ 63 ∧ ∀ H', Q (.bl true) H'
def spFirst (K : PySem.W.Frag) : Sp := fun vs H Q _ => ∃ (p : Addr) (ws : List Int), vs = [.ref p] ∧ SqL K H p (ws.map V.int) ∧ GoodW ws ∧ ∀ H', Same H H' → Q .non H'
def spInit (K : PySem.W.Frag) (C : Addr) : Sp := fun vs H Q _ => ∃ (p dx l : Addr) (ws : List Int), vs = [.ref p, .ref l] ∧ H p = some (.ins C dx []) ∧ SqL K H l (ws.map V.int) ∧ GoodW ws ∧
  ∀ H' : Hp, CommAt C H' p ws → (∀ b o, H b = some o → b ≠ p → H' b = some o) → Q .non H'

/-! ### the court: charges -/
def chf (who : Int) (a1 b1 : Addr) : List (Str × V) := putF "second" (.ref b1) (putF "first" (.ref a1) (putF "who" (.int who) []))
def spChI (K : PySem.W.Frag) (C : Addr) : Sp := fun vs H Q _ => ∃ (p dx : Addr) (who : Int) (a1 b1 : Addr), vs = [.ref p, .int who, .ref a1, .ref b1] ∧ H p = some (.ins C dx []) ∧
  ∀ H' : Hp, H' p = some (.ins C dx (chf who a1 b1)) → (∀ b o, H b = some o → b ≠ p → H' b = some o) → Q .non H'
def ChAt (C : Addr) (H : Hp) (v : V) (who : Int) : Option (Lt × Lt) → Prop
  | none => v = .non
  | some r => ∃ p dx a1 b1, v = .ref p ∧ H p = some (.ins C dx (chf who a1 b1)) ∧ LtAt H a1 r.1 ∧ LtAt H b1 r.2
theorem ChAt.same {C : Addr} {H H' : Hp} {v : V} {who : Int} {r : Option (Lt × Lt)} (h : ChAt C H v who r) (s : Same H H') : ChAt C H' v who r := by
  cases r with
  | none => exact h
  | some r =>
    obtain ⟨p, dx, a, b, e, h1, h2, h3⟩ := h
    exact ⟨p, dx, a, b, e, s _ _ h1, h2.same s, h3.same s⟩
theorem ne_wf : ¬ (("who" : Str) = "first") := by decide +kernel
theorem ne_ws2 : ¬ (("who" : Str) = "second") := by decide +kernel
theorem ne_fs : ¬ (("first" : Str) = "second") := by decide +kernel
theorem chf_w (who : Int) (a1 b1 : Addr) : (chf who a1 b1).lookup ("who" : Str) = some (.int who) := by
  unfold chf
  rw [lookup_putF, if_neg ne_ws2, lookup_putF, if_neg ne_wf, lookup_putF, if_pos rfl]
theorem chf_f (who : Int) (a1 b1 : Addr) : (chf who a1 b1).lookup ("first" : Str) = some (.ref a1) := by
  unfold chf
  rw [lookup_putF, if_neg ne_fs, lookup_putF, if_pos rfl]
theorem chf_s (who : Int) (a1 b1 : Addr) : (chf who a1 b1).lookup ("second" : Str) = some (.ref b1) := by
  unfold chf
  rw [lookup_putF, if_pos rfl]
theorem fnd_yes {xs : List Lt} {n : Nat} {r : Lt × Lt} (h : due (ownOf xs (n : Int)) = some r) : fnd xs (n + 1) = fnd xs n ++ [(n : Int)] := by
  rw [fnd, h]
  rfl
theorem fnd_no {xs : List Lt} {n : Nat} (h : due (ownOf xs (n : Int)) = none) : fnd xs (n + 1) = fnd xs n := by
  rw [fnd, h]
  rfl
/-- the first of the earlier letters that clashes with x -/
def FcAt (v : V) (qs : List Addr) (own : List Lt) (x : Lt) : Prop :=
  (v = .non ∧ ∀ j, j < own.length → clashM (own.getD j default).m x.m = false) ∨
  ∃ j, j < own.length ∧ v = .ref (qs.getD j 0) ∧ clashM (own.getD j default).m x.m = true ∧ ∀ i, i < j → clashM (own.getD i default).m x.m = false
def spFc (K : PySem.W.Frag) : Sp := fun vs H Q _ => ∃ (l p : Addr) (qs : List Addr) (own : List Lt) (x : Lt), vs = [.ref l, .ref p] ∧ H l = some (.lst (qs.map V.ref)) ∧ LsAt H qs own ∧ LtAt H p x ∧ ∀ v H', Same H H' → FcAt v qs own x → Q v H'
def spCof (K : PySem.W.Frag) (C : Addr) : Sp := fun vs H Q _ => ∃ (l : Addr) (who : Int) (ps : List Addr) (xs : List Lt), vs = [.ref l, .int who] ∧ H l = some (.lst (ps.map V.ref)) ∧ LsAt H ps xs ∧ xs.length ≤ 900 ∧ ∀ v H', Same H H' → ChAt C H' v who (due (ownOf xs who)) → Q v H'
def spCharges (K : PySem.W.Frag) (C1 C2 : Addr) : Sp := fun vs H Q _ => ∃ (c l : Addr) (ws : List Int) (ps : List Addr) (xs : List Lt), vs = [.ref c, .ref l] ∧ CommAt C1 H c ws ∧ ws.length ≤ 16 ∧ H l = some (.lst (ps.map V.ref)) ∧ LsAt H ps xs ∧ xs.length ≤ 900 ∧
  ∀ (p : Addr) (cs : List Addr) H', Same H H' → H' p = some (.lst (cs.map V.ref)) → cs.length = (fnd xs ws.length).length → (∀ i, i < cs.length → ChAt C2 H' (.ref (cs.getD i 0)) ((fnd xs ws.length).getD i 0) (due (ownOf xs ((fnd xs ws.length).getD i 0)))) → Q (.ref p) H'
theorem row_app {own ys : List Lt} {a : Nat} (ha : a < own.length) : ∀ n, n ≤ own.length → rowDue (own ++ ys) a n = rowDue own a n
  | 0, _ => rfl
  | n + 1, hn => by
    rw [rowDue, rowDue, row_app ha n (Nat.le_of_lt hn), getD_left (show n < own.length from hn), getD_left ha]
theorem col_app {own ys : List Lt} : ∀ n, n ≤ own.length → colDue (own ++ ys) n = colDue own n
  | 0, _ => rfl
  | n + 1, hn => by
    rw [colDue, colDue, col_app n (Nat.le_of_lt hn), row_app (show n < own.length from hn) n (Nat.le_of_lt hn)]
theorem due_app {own ys : List Lt} {r : Lt × Lt} (h : due own = some r) : due (own ++ ys) = some r := by
  unfold due at h ⊢
  have e : colDue (own ++ ys) own.length = some r := by rw [col_app _ (Nat.le_refl _), h]
  have := col_mono e ys.length
  rwa [← List.length_append] at this
theorem row_last_no {own : List Lt} {x : Lt} (h : ∀ j, j < own.length → clashM (own.getD j default).m x.m = false) : ∀ n, n ≤ own.length → rowDue (own ++ [x]) own.length n = none
  | 0, _ => rfl
  | n + 1, hn => by
    refine row_no (row_last_no h n (Nat.le_of_lt hn)) ?_
    rw [getD_last, getD_left (show n < own.length from hn)]
    exact h n hn
theorem due_snoc_no {own : List Lt} {x : Lt} (d : due own = none) (h : ∀ j, j < own.length → clashM (own.getD j default).m x.m = false) : due (own ++ [x]) = none := by
  unfold due at d ⊢
  rw [List.length_append, List.length_singleton]
  refine col_no ?_ (row_last_no h _ (Nat.le_refl _))
  rw [col_app _ (Nat.le_refl _), d]
theorem row_last_before {own : List Lt} {x : Lt} {j : Nat} (hj : j ≤ own.length) (h : ∀ i, i < j → clashM (own.getD i default).m x.m = false) : ∀ n, n ≤ j → rowDue (own ++ [x]) own.length n = none
  | 0, _ => rfl
  | n + 1, hn => by
    refine row_no (row_last_before hj h n (Nat.le_of_lt hn)) ?_
    rw [getD_last, getD_left (show n < own.length by omega)]
    exact h n hn
theorem due_snoc_yes {own : List Lt} {x : Lt} {j : Nat} (d : due own = none) (hj : j < own.length) (c : clashM (own.getD j default).m x.m = true) (h : ∀ i, i < j → clashM (own.getD i default).m x.m = false) : due (own ++ [x]) = some (own.getD j default, x) := by
  have e : (own ++ [x]).getD own.length default = x := getD_last
  have e2 : (own ++ [x]).getD j default = own.getD j default := getD_left hj
  have := due_at (own := own ++ [x]) (a := own.length) (n := j) (by rw [List.length_append, List.length_singleton]; omega) hj (by rw [col_app _ (Nat.le_refl _)]; exact d) (row_last_before (Nat.le_of_lt hj) h j (Nat.le_refl _)) (by rw [e, e2]; exact c)
  rwa [e, e2] at this
theorem own_split (xs : List Lt) (who : Int) (i : Nat) : ownOf xs who = ownOf (xs.take i) who ++ ownOf (xs.drop i) who := by
  unfold ownOf
  rw [← List.filter_append, List.take_append_drop]


section
local macro_rules | `(tactic| walk_at "r1") => `(tactic| first
  | refine ⟨_, rfl, ?_⟩
  | refine ⟨_, _, rfl, rfl, (by show (0 : Int) < _; first | decide | omega), ?_⟩
  | refine ⟨_, _, rfl, rfl, (show CDiv _ _ from ⟨by decide, by decide⟩), ?_⟩
  | refine ⟨_, _, rfl, rfl, (show CMul _ _ from .inl ⟨by decide, by decide⟩), ?_⟩
  | refine ⟨_, _, rfl, rfl, (show CMul _ _ from .inr ⟨by decide, by decide⟩), ?_⟩
  | refine ⟨_, _, rfl, rfl, (show CPow _ _ from ⟨by decide, by decide, by decide⟩), ?_⟩
  | refine ⟨_, _, rfl, rfl, ?_⟩
  | refine ⟨_, _, _, _, rfl, rfl, SqT.of (by assumption), by first | exact at0 _ | exact at1 _ | exact at2 _ | exact at3 _ | exact at4 _ (by assumption), ?_⟩
  | refine ⟨scal_oS _ _, ?_⟩
  | refine .inl ⟨_, rfl, ?_⟩
  | refine ⟨rfl, ?_⟩)
local macro_rules | `(tactic| walk_at "rs") => `(tactic| repeat walk_at "r1")

variable {P : Program} {w : World} {K : PySem.W.Frag} {mg : Str → Option Value} {base : Heap} {a : Ads}
theorem getD_mem {zs : List Int} {i : Nat} (h : i < zs.length) : zs.getD i 0 ∈ zs := by
  rw [List.getD_eq_getElem?_getD, List.getElem?_eq_getElem h]
  exact List.getElem_mem h
theorem at_ints {zs : List Int} {i : Nat} (h : i < zs.length) : (zs.map V.int)[i]? = some (.int (zs.getD i 0)) := by
  rw [List.getElem?_map, List.getD_eq_getElem?_getD, List.getElem?_eq_getElem h]
  rfl

theorem ok_law_cell (T : Txt K mg a) : ∃ fd, FnOk P w K mg base CX0 1 a.d_law_cell fd ["script", "k"] (spCell K) ∧ Binds K fd ["script", "k"] [] := by
  obtain ⟨fd, F, b⟩ := T.d_law_cell.F
  refine ⟨fd, F.ok sc_law_cell (fun vs H Q E h => ?_) (fun cdv A outer s H vs Q E hr h => ?_), b⟩
  · obtain ⟨a, ns, k, rfl, _⟩ := h
    rfl
  · obtain ⟨l, ns, k, rfl, hS, hl, hk, q⟩ := h
    refine ⟨_, (pss_cons (ps_if (pt_cmpR op_lt (pv 1) (pe_callB call_len_seq (by rfl) T.n_len PySem.boot_len (pa_cons (pv 0) pa_nil)) (nomark _))
      (pss_one (ps_ret (pe_ix ix_list (pv 0) (pv 1) (fun _ _ => rfl))))
      pss_nil)
      (pss_one (ps_ret pe_int))), ?_⟩
    refine ⟨_, rfl, _, rfl, l, _, rfl, .inl hS, _, _, rfl, rfl, _, rfl, ?_⟩
    refine ite2 (fun hlt => ?_) (fun hge => ?_)
    · have hlt : k < ((ns.map V.int).length : Int) := of_decide_eq_true hlt
      rw [List.length_map] at hlt
      have hj : k.toNat < ns.length := by omega
      have e : ns.getD k.toNat 0 = ns[k.toNat] := by rw [List.getD_eq_getElem?_getD, List.getElem?_eq_getElem hj]; rfl
      rw [e] at q
      refine ⟨_, rfl, _, rfl, l, _, k, .int ns[k.toNat], rfl, rfl, hS, at_of (j := k.toNat) (by omega) (by rw [List.getElem?_map, List.getElem?_eq_getElem hj]; rfl), q⟩
    · have hge : ¬ k < ((ns.map V.int).length : Int) := fun e => hge (decide_eq_true e)
      rw [List.length_map] at hge
      have e : ns.getD k.toNat 0 = 0 := by rw [List.getD_eq_getElem?_getD, List.getElem?_eq_none (by omega)]; rfl
      rw [e] at q
      exact q

theorem ok_law_row (T : Txt K mg a) : ∃ fd, FnOk P w K mg base CX0 1 a.d_law_row fd ["cell", "count", "size"] (spRow K) ∧ Binds K fd ["cell", "count", "size"] [] := by
  obtain ⟨fd, F, b⟩ := T.d_law_row.F
  refine ⟨fd, F.ok sc_law_row (fun vs H Q E h => ?_) (fun cdv A outer s H vs Q E hr h => ?_), b⟩
  · obtain ⟨_, _, _, rfl, _⟩ := h
    rfl
  · obtain ⟨cell, count, size, rfl, c0, c1, z0, z1, k⟩ := h
    refine ⟨_, (pss_cons (ps_set (i := 3) sc_law_row.nd rfl (Or.inl rfl) (pv 0))
      (pss_cons (ps_set (i := 4) sc_law_row.nd rfl (Or.inl rfl) (pe_lst pa_nil))
      (pss_cons (ps_for PassesOwn.never rfl (pi_range1 rfl T.n_range (pa_cons (pv 1) pa_nil)) (pg_name (i := 5) sc_law_row.nd rfl (Or.inl rfl))
      (pss_one (ps_if (pt_cmpR op_ge (pv 0) (pe_op op_pow pe_int pe_int) (nomark _))
        (pss_cons (ps_expr (pe_bm PySem.F.plainAttrs_list PySem.F.slot_list_append PySem.F.type_list_append mt_append (pv 4) (pa_cons (pe_op op_mod (pe_callTy call_int1 (by rfl) T.n_int (by decide +kernel) (pa_cons (pv 3) pa_nil)) (pv 2)) pa_nil)))
          (pss_one (ps_set (i := 3) sc_law_row.nd rfl (Or.inl rfl) (pe_op op_fdivN (pv 3) (pv 2)))))
        (pss_cons (ps_set (i := 3) sc_law_row.nd rfl (Or.inl rfl) (pe_op op_mod (pe_callTy call_int1 (by rfl) T.n_int (by decide +kernel) (pa_cons (pe_op op_add (pe_op op_mul (pv 3) pe_int) pe_int) pa_nil)) pe_int))
          (pss_one (ps_expr (pe_bm PySem.F.plainAttrs_list PySem.F.slot_list_append PySem.F.type_list_append mt_append (pv 4) (pa_cons (pe_op op_mod (pe_op op_mod (pe_callTy call_int1 (by rfl) T.n_int (by decide +kernel) (pa_cons (pe_op op_add (pe_op op_mul (pv 3) pe_int) (pe_op op_mul (pv 5) pe_int)) pa_nil)) pe_int) (pv 2)) pa_nil))))))))
      (pss_one (ps_ret (pv 4)))))), ?_⟩
    walk_at "rs"
    refine ⟨(by show 0 ≤ sizeLine; decide), fun p hp => ?_⟩
    walk_at "rs"
    refine ⟨(by show -(2 ^ 62 : Int) ≤ _; omega), (by show _ < (2 ^ 62 : Int); omega), ?_⟩
    refine for_range (lo := 0) (n := count.toNat) (fun i σ H2 => ∃ (st : Int) (row : List Int) (v5 : Option V), σ = [some (.int cell), some (.int count), some (.int size), some (.int st), some (.ref p), v5] ∧ Same H H2 ∧
      H2 p = some (.lst (row.map V.int)) ∧ row.length = i ∧ ∀ x ∈ row, 0 ≤ x ∧ x < size) ⟨_, [], _, rfl, same_new hp, upd_same, rfl, fun x hx => nomatch hx⟩ ?_ ?_
    · rintro i σ H2 hi ⟨st, row, v5, rfl, s2, hrow, hlen, hb⟩
      have fit : (row.map V.int).length < sizeLine := by
        rw [List.length_map]
        exact small1000 (by omega)
      have grow : ∀ z : Int, 0 ≤ z → z < size → ∀ x ∈ row ++ [z], 0 ≤ x ∧ x < size := fun z h0 h1 x hx => by
        rcases List.mem_append.mp hx with hx | hx
        · exact hb x hx
        · rw [List.mem_singleton.mp hx]
          exact ⟨h0, h1⟩
      walk_at "rs"
      refine ite2 (fun c1 => ?_) (fun c1 => ?_)
      · walk_at "rs"
        refine ⟨.inl ⟨rfl, _, SqL.of hrow⟩, ?_⟩
        walk_at "rs"
        refine ⟨p, _, _, rfl, rfl, hrow, fit, ?_⟩
        walk_at "rs"
        refine ⟨(show CDivN _ _ from ⟨by omega, by omega⟩), ?_⟩
        exact ⟨_, row ++ [st % size], _, rfl, same_upd s2 hp, by rw [upd_same]; simp, by simp [hlen], grow _ (Int.emod_nonneg _ (by omega)) (Int.emod_lt_of_pos _ z0)⟩
      · walk_at "rs"
        refine ⟨.inl ⟨rfl, _, SqL.of hrow⟩, ?_⟩
        walk_at "rs"
        refine ⟨p, _, _, rfl, rfl, hrow, fit, ?_⟩
        exact ⟨_, row ++ [((st * 48271 + 12345) % 2147483647 * 69621 + (i : Int) * 7919) % 2147483647 % size], _, rfl, same_upd s2 hp, by rw [upd_same]; simp, by simp [hlen], grow _ (Int.emod_nonneg _ (by omega)) (Int.emod_lt_of_pos _ z0)⟩
    · rintro σ H2 ⟨st, row, v5, rfl, s2, hrow, hlen, hb⟩
      walk_at "rs"
      exact k p row H2 s2 hrow hlen hb hp

theorem ok_law_weights (T : Txt K mg a) : ∃ fd, FnOk P w K mg base CX0 2 a.d_law_weights fd ["cell", "most"] (spWeights K) ∧ Binds K fd ["cell", "most"] [] := by
  obtain ⟨fd, F, b⟩ := T.d_law_weights.F
  obtain ⟨fd_law_row, G_law_row, b_law_row⟩ := ok_law_row (P := P) (w := w) (base := base) T
  refine ⟨fd, F.ok sc_law_weights (fun vs H Q E h => ?_) (fun cdv A outer s H vs Q E hr h => ?_), b⟩
  · obtain ⟨_, _, rfl, _⟩ := h
    rfl
  · obtain ⟨cell, most, rfl, m0, m1, k⟩ := h
    refine ⟨_, (pss_cons (ps_set (i := 2) sc_law_weights.nd rfl (Or.inl rfl) (pe_op op_add pe_int (pe_op op_mod (pe_callTy call_int1 (by rfl) T.n_int (by decide +kernel) (pa_cons (pv 0) pa_nil)) (pv 1))))
      (pss_cons (ps_if (pt_cmpR op_eq (pe_op op_mod (pe_op op_fdiv (pv 0) pe_int) pe_int) pe_int (nomark _))
      (pss_one (ps_ret (pe_op op_rep (pe_lst (pa_cons pe_int pa_nil)) (pv 2))))
      pss_nil)
      (pss_one (ps_ret (pe_lc (own := [("value", 3)]) (g := (gName 3)) (tt := tYes) rfl sc_law_weights.nd (pi_list (pe_call G_law_row (hr.mono (by decide)) rfl T.d_law_row.g T.d_law_row.kp b_law_row .nil pass0 (pa_cons (pe_op op_fdiv (pv 0) pe_int) (pa_cons (pv 2) (pa_cons pe_int pa_nil))))) (blkOk_by (own := [("value", 3)]) (N := sc_law_weights_N) (sc := defScope s_law_weights) (by decide +kernel)) (fun _ _ _ _ _ => (pg_name (i := 3) sc_law_weights.nd rfl (Or.inl rfl))) (fun _ _ _ _ _ => pts_nil) (fun _ _ _ _ _ => (pe_op op_add pe_int (pv 3)))))))), ?_⟩
    have c0 : 0 ≤ cell % most := Int.emod_nonneg _ (by omega)
    have c1 : cell % most < most := Int.emod_lt_of_pos _ (by omega)
    walk_at "rs"
    refine ite2 (fun c2 => ?_) (fun c2 => ?_)
    · walk_at "rs"
      refine ⟨(by show 1 ≤ sizeLine; decide), fun p hp => ?_⟩
      walk_at "rs"
      refine ⟨p, _, _, rfl, rfl, upd_same, (by show -(2 ^ 63 : Int) ≤ 1 + cell % most; omega), (by show 1 + cell % most < (2 ^ 63 : Int); omega), (by rw [sizeLine_eq]; show 1 * (1 + cell % most).toNat ≤ _; omega), fun q hq => ?_⟩
      refine k q (List.replicate (1 + cell % most).toNat 1) _ (same_upd (same_new hp) (Same.free (same_new hp) hq)) (by rw [upd_same]; simp) ⟨by rw [List.length_replicate]; omega, by rw [List.length_replicate]; omega, fun x hx => ?_⟩ (by rw [List.length_replicate]; omega)
      rw [(List.mem_replicate.mp hx).2]
      decide
    · walk_at "rs"
      refine ⟨_, _, _, rfl, by omega, by omega, by decide, by decide, fun p row H1 s1 hrow hlen hb hp => ?_⟩
      refine ⟨p, rfl, ⟨_, SqL.of hrow⟩, fun D hD => ?_⟩
      have nDp : D ≠ p := (ne_of_none hrow hD).symm
      refine lc_list (K := K) (a := p) (xs := row.map V.int) (fun i H2 => Same H1 H2 ∧ H2 D = some (.lst (((row.take i).map (1 + ·)).map V.int))) ⟨same_new hD, upd_same⟩ (fun i H2 _ ⟨s2, _⟩ => SqL.of (s2 _ _ hrow)) ?_ ?_
      · rintro i x H2 hx ⟨s2, hd⟩
        have hi : i < row.length := by
          have e := (List.getElem?_eq_some_iff.mp hx).1
          rwa [List.length_map] at e
        rw [at_ints hi] at hx
        cases hx
        refine ⟨rfl, ?_⟩
        walk_at "rs"
        refine ⟨_, hd, by simp only [List.length_map, List.length_take]; exact small1000 (by omega), same_upd s2 hD, ?_⟩
        rw [upd_same, List.take_add_one, List.getElem?_eq_getElem hi, List.getD_eq_getElem?_getD, List.getElem?_eq_getElem hi]
        simp only [Option.toList_some, Option.getD_some, List.map_append, List.map_cons, List.map_nil]
      · rintro H2 ⟨s2, hd⟩
        have e : row.take (row.map V.int).length = row := by rw [List.length_map, List.take_length]
        rw [e] at hd
        refine k D _ H2 (fun b o z => s2 _ _ (s1 _ _ z)) hd ⟨by rw [List.length_map]; omega, by rw [List.length_map]; omega, fun x hx => ?_⟩ (by rw [List.length_map]; omega)
        obtain ⟨y, hy, rfl⟩ := List.mem_map.mp hx
        have := hb y hy
        omega

theorem ok_law_weight (T : Txt K mg a) : ∃ fd, FnOk P w K mg base CX0 1 a.d_law_weight fd ["weights", "members"] (spWeight K) ∧ Binds K fd ["weights", "members"] [] := by
  obtain ⟨fd, F, b⟩ := T.d_law_weight.F
  refine ⟨fd, F.ok sc_law_weight (fun vs H Q E h => ?_) (fun cdv A outer s H vs Q E hr h => ?_), b⟩
  · obtain ⟨_, _, _, _, rfl, _⟩ := h
    rfl
  · obtain ⟨p, q, ws, ms, rfl, hp, hq, hlen, k⟩ := h
    refine ⟨_, (pss_one (ps_ret (pe_callB (cr_sum rfl) (by rfl) T.n_sum (by decide +kernel) (pa_cons (pe_lc (own := [("k", 2)]) (g := (gName 2)) rfl sc_law_weight.nd (pi_range1 rfl T.n_range (pa_cons (pe_callB call_len_seq (by rfl) T.n_len PySem.boot_len (pa_cons (pv 0) pa_nil)) pa_nil)) (blkOk_by (own := [("k", 2)]) (N := sc_law_weight_N) (sc := defScope s_law_weight) (by decide +kernel)) (fun _ _ _ _ _ => (pg_name (i := 2) sc_law_weight.nd rfl (Or.inl rfl))) (fun _ _ _ _ _ => (pts_one (pt_cmpR (r := rIn K false) op_in_seq (pv 2) (pv 1) (by rfl)))) (fun _ _ _ _ _ => (pe_ix (r := rIxL K) ix_list (pv 0) (pv 2) (fun _ _ => rfl)))) pa_nil)))), ?_⟩
    walk_at "rs"
    refine ⟨p, _, rfl, .inl hp, ?_⟩
    walk_at "rs"
    have hN : ((ws.map V.int).length : Int) = ws.length := by rw [List.length_map]
    refine ⟨(by show -(2 ^ 62 : Int) ≤ _; omega), (by show _ < (2 ^ 62 : Int); omega), fun D hD => ?_⟩
    refine lc_range (lo := 0) (n := (((ws.map V.int).length : Int)).toNat) (fun i H2 => Same H H2 ∧ H2 D = some (.lst ((pick ws (fun k => decide (k ∈ ms)) i).map V.int))) ⟨same_new hD, upd_same⟩ ?_ ?_
    · rintro i H2 hi ⟨s2, hd⟩
      have hi' : i < ws.length := by omega
      have fit : ((pick ws (fun k => decide (k ∈ ms)) i).map V.int).length < sizeLine := by
        have := pick_len ws (fun k => decide (k ∈ ms)) i
        rw [List.length_map]
        exact small1000 (by omega)
      refine ⟨rfl, ?_⟩
      walk_at "rs"
      refine ⟨q, _, rfl, .inl (s2.seq hq), rfl, flat_ints ms, ?_⟩
      rw [if_neg Bool.false_ne_true, inV_ints]
      walk_at "rs"
      refine ite2 (fun c1 => ?_) (fun c1 => ?_)
      · walk_at "rs"
        refine ⟨p, _, _, .int (ws.getD i 0), rfl, rfl, s2.seq hp, at_of (j := i) (by omega) (at_ints hi'), ?_⟩
        refine ⟨_, hd, fit, same_upd s2 hD, ?_⟩
        rw [upd_same, pick]
        have c1' : decide ((i : Int) ∈ ms) = true := by simpa using c1
        rw [if_pos c1']
        simp
      · refine ⟨s2, ?_⟩
        have c1' : ¬ decide ((i : Int) ∈ ms) = true := by simpa using c1
        rw [hd, pick, if_neg c1']
    · rintro H2 ⟨s2, hd⟩
      rw [hN, Int.toNat_natCast] at hd
      walk_at "rs"
      exact ⟨D, _, rfl, SqL.of hd, k H2 s2⟩

theorem ok_first_wrong (T : Txt K mg a) : ∃ fd, FnOk P w K mg base CX0 1 a.d_first_wrong fd ["weights"] (spFirst K) ∧ Binds K fd ["weights"] [] := by
  obtain ⟨fd, F, b⟩ := T.d_first_wrong.F
  refine ⟨fd, F.ok sc_first_wrong (fun vs H Q E h => ?_) (fun cdv A outer s H vs Q E hr h => ?_), b⟩
  · obtain ⟨_, _, rfl, _⟩ := h
    rfl
  · obtain ⟨p, ws, rfl, hp, gw, k⟩ := h
    refine ⟨_, (pss_cons (ps_for PassesOwn.never rfl (pi_enum (by rfl) T.n_enumerate (pa_cons (pv 0) pa_nil)) (pg_tup rfl (pgs_cons (pg_name (i := 1) sc_first_wrong.nd rfl (Or.inl rfl)) (pgs_cons (pg_name (i := 2) sc_first_wrong.nd rfl (Or.inl rfl)) pgs_nil)))
      (pss_one (ps_if (PW.pt (pw_or (pt_cmpR op_ge (pv 1) (pe_glob (v := (.int 16)) rfl T.c_MOST_MEMBERS.choose_spec ⟨_, rfl⟩) (nomark _)) (pw_or (pt_cmpR op_lt (pv 2) pe_int (nomark _)) (pw_or1 (pt_cmpR op_gt (pv 2) (pe_glob (v := (.int 1000000000000)) rfl T.c_MOST_WEIGHT.choose_spec ⟨_, rfl⟩) (nomark _))))))
        (pss_one (ps_ret (pv 1)))
        pss_nil)))
      (pss_cons (ps_if (pt_cmpR op_eq (pe_callB call_len_seq (by rfl) T.n_len PySem.boot_len (pa_cons (pv 0) pa_nil)) pe_int (nomark _))
      (pss_one (ps_ret pe_int))
      pss_nil)
      (pss_one (ps_ret pe_non)))), ?_⟩
    walk_at "rs"
    refine ⟨p, _, rfl, hp, ?_⟩
    refine for_enumL (K := K) (a := p) (ys := ws.map V.int) (fun i σ H2 => ∃ v1 v2 : Option V, σ = [some (.ref p), v1, v2] ∧ Same H H2) ⟨_, _, rfl, Same.refl H⟩ (fun i σ H2 _ ⟨_, _, _, s2⟩ => s2.seq hp) ?_ ?_
    · rintro i y σ H2 q hy ⟨v1, v2, rfl, s2⟩ hq
      have hi : i < ws.length := by
        have e := (List.getElem?_eq_some_iff.mp hy).1
        rwa [List.length_map] at e
      rw [at_ints hi] at hy
      cases hy
      have g1 := gw.2.2 _ (getD_mem hi)
      have g2 := gw.2.1
      walk_at "rs"
      refine ⟨q, _, rfl, SqT.of upd_same, rfl, ?_⟩
      refine ⟨_, _, rfl, _, _, rfl, rfl, ?_⟩
      walk_at "rs"
      refine ite2 (fun c1 => ?_) (fun c1 => ?_)
      · exfalso
        have := of_decide_eq_true c1
        omega
      walk_at "rs"
      refine ite2 (fun c2 => ?_) (fun c2 => ?_)
      · exfalso
        have := of_decide_eq_true c2
        omega
      walk_at "rs"
      refine ite2 (fun c3 => ?_) (fun c3 => ?_)
      · exfalso
        have := of_decide_eq_true c3
        omega
      exact ⟨_, _, rfl, same_upd s2 (s2.free hq)⟩
    · rintro σ H2 ⟨v1, v2, rfl, s2⟩
      walk_at "rs"
      refine ⟨p, _, rfl, .inl (s2.seq hp), ?_⟩
      walk_at "rs"
      refine ite2 (fun c1 => ?_) (fun c1 => ?_)
      · exfalso
        have g0 := gw.1
        simp at c1
        simp [c1] at g0
      exact k H2 s2
theorem ok_Committee_init (T : Txt K mg a) : ∃ fd, FnOk P w K mg base CX0 2 a.d_Committee_init fd ["self", "weights"] (spInit K a.C_Committee) ∧ Binds K fd ["self", "weights"] [] := by
  obtain ⟨fd, F, b⟩ := T.d_Committee_init.F
  obtain ⟨fd_first_wrong, G_first_wrong, b_first_wrong⟩ := ok_first_wrong (P := P) (w := w) (base := base) T
  refine ⟨fd, F.ok sc_Committee_init (fun vs H Q E h => ?_) (fun cdv A outer s H vs Q E hr h => ?_), b⟩
  · obtain ⟨_, _, _, _, rfl, _⟩ := h
    rfl
  · obtain ⟨p, dx, l, ws, rfl, hp, hl, gw, k⟩ := h
    refine ⟨_, (pss_cons (ps_set (i := 2) sc_Committee_init.nd rfl (Or.inl rfl) (pe_call G_first_wrong (hr.mono (by decide)) rfl T.d_first_wrong.g T.d_first_wrong.kp b_first_wrong .nil pass0 (pa_cons (pv 1) pa_nil)))
      (pss_cons (ps_if (pt_cmpR op_notN (pv 2) pe_non (nomark _))
      (pss_one ps_never)
      pss_nil)
      (pss_cons (ps_fld (pv 0) (pe_callTy call_tuple_of (by rfl) T.n_tuple (by decide +kernel) (pa_cons (pv 1) pa_nil)) rfl)
      (pss_cons (ps_fld (pv 0) (pe_callB call_len_seq (by rfl) T.n_len PySem.boot_len (pa_cons (pe_fld (pv 0) rfl) pa_nil)) rfl)
      (pss_one (ps_fld (pv 0) (pe_callB (cr_sumT rfl) (by rfl) T.n_sum (by decide +kernel) (pa_cons (pe_fld (pv 0) rfl) pa_nil)) rfl)))))), ?_⟩
    walk_at "rs"
    refine ⟨l, ws, rfl, hl, gw, fun H1 s1 => ?_⟩
    walk_at "rs"
    have hp1 := s1 _ _ hp
    refine ⟨l, _, rfl, .inl ⟨s1.seq hl, fun t ht => ?_⟩⟩
    have npt : p ≠ t := ne_of_none hp1 ht
    have hp2 : (upd H1 t (.tup (ws.map V.int))) p = some (.ins a.C_Committee dx []) := by rw [upd_ne npt]; exact hp1
    walk_at "rs"
    refine ⟨p, _, dx, [], rfl, hp2, T.cl_Committee, T.a_Committee_weights, (by show 0 < 1000; decide), ?_⟩
    have ht3 : ∀ o : HO, (upd (upd H1 t (.tup (ws.map V.int))) p o) t = some (.tup (ws.map V.int)) := fun o => by rw [upd_ne npt.symm, upd_same]
    walk_at "rs"
    refine ⟨p, _, dx, _, .ref t, rfl, upd_same, T.cl_Committee, T.a_Committee_weights, by rw [lookup_putF, if_pos rfl], ?_⟩
    walk_at "rs"
    refine ⟨t, _, rfl, .inr (SqT.of (ht3 _)), ?_⟩
    walk_at "rs"
    refine ⟨p, _, dx, _, rfl, upd_same, T.cl_Committee, T.a_Committee_size, (by show 1 < 1000; decide), ?_⟩
    rw [upd_upd]
    walk_at "rs"
    refine ⟨p, _, dx, _, .ref t, rfl, upd_same, T.cl_Committee, T.a_Committee_weights, by rw [lookup_putF, if_neg ne_ws, lookup_putF, if_pos rfl], ?_⟩
    walk_at "rs"
    refine ⟨t, ws, rfl, SqT.of (ht3 _), ?_⟩
    walk_at "rs"
    refine ⟨p, _, dx, _, rfl, upd_same, T.cl_Committee, T.a_Committee_total, (Nat.lt_of_le_of_lt (length_putF _ _ _) (Nat.lt_of_le_of_lt (Nat.add_le_add_right (length_putF _ _ _) 1) (by show 2 < 1000; decide))), ?_⟩
    rw [upd_upd, List.length_map]
    exact k _ ⟨dx, t, upd_same, ht3 _⟩ fun b o e hb => by
      rw [upd_ne hb, upd_ne (ne_of_none (s1 _ _ e) ht)]
      exact s1 _ _ e

theorem ok_law_clash (T : Txt K mg a) : ∃ fd, FnOk P w K mg base CX0 1 a.d_law_clash fd ["one", "other"] (spClash K) ∧ Binds K fd ["one", "other"] [] := by
  obtain ⟨fd, F, b⟩ := T.d_law_clash.F
  refine ⟨fd, F.ok sc_law_clash (fun vs H Q E h => ?_) (fun cdv A outer s H vs Q E hr h => ?_), b⟩
  · obtain ⟨_, _, _, _, rfl, _⟩ := h
    rfl
  · obtain ⟨p, q, m, n, rfl, hp, hq, k⟩ := h
    have k0 : Q (.bl (clashM m n)) H := k _ (Same.refl H)
    clear k
    refine ⟨_, (pss_cons (ps_if (PW.pt (pw_or (pt_cmpR op_ne (pe_ix ix_tup (pv 0) pe_int (fun _ _ => rfl)) (pe_ix ix_tup (pv 1) pe_int (fun _ _ => rfl)) (nomark _)) (pw_or (pt_cmpR op_eq (pe_ix ix_tup (pv 0) pe_int (fun _ _ => rfl)) pe_str (nomark _)) (pw_or1 (pt_cmpR op_eq (pe_ix ix_tup (pv 1) pe_int (fun _ _ => rfl)) pe_str (nomark _))))))
      (pss_one (ps_ret pe_bl))
      pss_nil)
      (pss_cons (ps_if (pt_cmpR op_eq (pe_ix ix_tup (pv 0) pe_int (fun _ _ => rfl)) (pe_ix ix_tup (pv 1) pe_int (fun _ _ => rfl)) (nomark _))
      (pss_one (ps_ret (pe_and (pe_cmpR op_eq (pe_ix ix_tup (pv 0) pe_int (fun _ _ => rfl)) (pe_ix ix_tup (pv 1) pe_int (fun _ _ => rfl)) (nomark _)) (pe_one (pe_cmpR op_ne (pe_ix ix_tup (pv 0) pe_int (fun _ _ => rfl)) (pe_ix ix_tup (pv 1) pe_int (fun _ _ => rfl)) (nomark _))))))
      pss_nil)
      (pss_cons (ps_set (i := 2) sc_law_clash.nd rfl (Or.inl rfl) (pv 0))
      (pss_cons (ps_set (i := 3) sc_law_clash.nd rfl (Or.inl rfl) (pv 1))
      (pss_cons (ps_if (pt_cmpR op_eq (pe_ix ix_tup (pv 0) pe_int (fun _ _ => rfl)) pe_str (nomark _))
      (pss_cons (ps_set (i := 2) sc_law_clash.nd rfl (Or.inl rfl) (pv 1))
        (pss_one (ps_set (i := 3) sc_law_clash.nd rfl (Or.inl rfl) (pv 0))))
      pss_nil)
      (pss_cons (ps_if (PW.pt (pw_or (pt_cmpR op_isN (pe_ix ix_tup (pv 2) pe_int (fun _ _ => rfl)) pe_non (nomark _)) (pw_or (pt_cmpR op_isN (pe_ix ix_tup (pv 3) pe_int (fun _ _ => rfl)) pe_non (nomark _)) (pw_or (pt_cmpR op_eq (pe_ix ix_tup (pv 2) pe_int (fun _ _ => rfl)) (pe_ix ix_tup (pv 3) pe_int (fun _ _ => rfl)) (nomark _)) (pw_or1 (pt_cmpR op_le (pe_ix ix_tup (pv 3) pe_int (fun _ _ => rfl)) (pe_ix ix_tup (pv 2) pe_int (fun _ _ => rfl)) (nomark _)))))))
      (pss_one (ps_ret pe_bl))
      pss_nil)
      (pss_one (ps_ret (pe_or (pe_cmpR op_isN (pe_ix ix_tup (pv 3) pe_int (fun _ _ => rfl)) pe_non (nomark _)) (pe_one (pe_cmpR op_lt (pe_ix ix_tup (pv 3) pe_int (fun _ _ => rfl)) (pe_ix ix_tup (pv 2) pe_int (fun _ _ => rfl)) (nomark _)))))))))))), ?_⟩
    walk_at "rs"
    refine ite2 (fun c1 => ?_) (fun c1 => ?_) <;> simp only [dec_int, Bool.not_eq_true', beq_eq_false_iff_ne, Bool.not_eq_false', Bool.not_eq_true, beq_iff_eq, ne_eq, Decidable.not_not] at c1
    · rw [show clashM m n = false from if_pos c1] at k0
      exact k0
    walk_at "rs"
    refine ite2 (fun c2 => ?_) (fun c2 => ?_) <;> simp only [kprop, decide_eq_true_iff] at c2
    · rw [show clashM m n = false by
        unfold clashM abandM
        rw [if_neg (fun z => z c1)]
        by_cases e : m.k = n.k
        · rw [if_pos e, c2]
          rfl
        · rw [if_neg e, c2]
          simp] at k0
      exact k0
    walk_at "rs"
    refine ite2 (fun c3 => ?_) (fun c3 => ?_) <;> simp only [kprop, decide_eq_true_iff] at c3
    · rw [show clashM m n = false by
        unfold clashM abandM
        rw [if_neg (fun z => z c1)]
        by_cases e : m.k = n.k
        · rw [if_pos e, e, c3]
          rfl
        · rw [if_neg e, c3]
          simp] at k0
      exact k0
    walk_at "rs"
    refine ite2 (fun c4 => ?_) (fun c4 => ?_) <;> simp only [dec_kd, decide_eq_true_iff] at c4
    · unfold clashM at k0
      rw [if_neg (fun z => z c1), if_pos c4, decide_eq_true c2, Bool.true_and] at k0
      walk_at "rs"
      refine ite2 (fun c5 => ?_) (fun c5 => ?_) <;> simp only [dec_int, beq_iff_eq] at c5
      · rw [decide_eq_true c5, Bool.true_and] at k0
        walk_at "rs"
        rw [show decide (m.b ≠ n.b) = (!decide (oS m.b = oS n.b)) by rw [dec_oS, decide_not]] at k0
        exact k0
      · rw [decide_eq_false c5, Bool.false_and] at k0
        exact k0
    · unfold clashM at k0
      rw [if_neg (fun z => z c1), if_neg c4] at k0
      walk_at "rs"
      refine ite2 (fun c5 => ?_) (fun c5 => ?_) <;> simp only [kpre, decide_eq_true_iff] at c5
      · have cn : n.k = .com := by
          cases e : n.k with
          | prop => exact absurd e c3
          | pre => exact absurd (c5.trans e.symm) c4
          | com => rfl
        rw [show abandM m n = false from if_neg (fun z => by rw [c5] at z; cases z.1), Bool.false_or] at k0
        walk_at "rs"
        refine ite2 (fun d1 => ?_) (fun d1 => ?_) <;> simp only [koSn, decide_eq_true_iff] at d1
        · rw [show abandM n m = false from if_neg (fun z => z.2.2.1 d1)] at k0
          exact k0
        walk_at "rs"
        refine ite2 (fun d2 => ?_) (fun d2 => ?_) <;> simp only [koSn, decide_eq_true_iff] at d2
        · rw [show abandM n m = false from if_neg (fun z => z.2.2.2.1 d2)] at k0
          exact k0
        walk_at "rs"
        refine ite2 (fun d3 => ?_) (fun d3 => ?_) <;> simp only [koS, decide_eq_true_iff] at d3
        · rw [show abandM n m = false from if_neg (fun z => z.2.2.2.2.1 d3)] at k0
          exact k0
        walk_at "rs"
        refine ite2 (fun d4 => ?_) (fun d4 => ?_) <;> simp only [decide_eq_true_iff] at d4
        · rw [show abandM n m = false from if_neg (fun z => by have := z.2.2.2.2.2; omega)] at k0
          exact k0
        rw [show abandM n m = (match m.l with | none => true | some l => decide (l < n.t)) from if_pos ⟨by assumption, by assumption, d1, d2, d3, by omega⟩] at k0
        walk_at "rs"
        refine ite2 (fun d5 => ?_) (fun d5 => ?_) <;> simp only [koIn, decide_eq_true_iff] at d5
        · rw [d5] at k0
          exact k0
        · cases hnl : m.l with
          | none => exact absurd hnl d5
          | some l =>
            rw [hnl] at k0
            refine ⟨_, rfl, _, _, _, _, rfl, rfl, SqT.of (by assumption), (at4 m (by assumption)).trans (by rw [hnl]), ?_⟩
            walk_at "rs"
            exact k0
      · have cm : m.k = .com := by
          cases e : m.k with
          | prop => exact absurd e c2
          | pre => exact absurd e c5
          | com => rfl
        have cn : n.k = .pre := by
          cases e : n.k with
          | prop => exact absurd e c3
          | pre => rfl
          | com => exact absurd (cm.trans e.symm) c4
        rw [show abandM n m = false from if_neg (fun z => by rw [cn] at z; cases z.1), Bool.or_false] at k0
        walk_at "rs"
        refine ite2 (fun d1 => ?_) (fun d1 => ?_) <;> simp only [koSn, decide_eq_true_iff] at d1
        · rw [show abandM m n = false from if_neg (fun z => z.2.2.1 d1)] at k0
          exact k0
        walk_at "rs"
        refine ite2 (fun d2 => ?_) (fun d2 => ?_) <;> simp only [koSn, decide_eq_true_iff] at d2
        · rw [show abandM m n = false from if_neg (fun z => z.2.2.2.1 d2)] at k0
          exact k0
        walk_at "rs"
        refine ite2 (fun d3 => ?_) (fun d3 => ?_) <;> simp only [koS, decide_eq_true_iff] at d3
        · rw [show abandM m n = false from if_neg (fun z => z.2.2.2.2.1 d3)] at k0
          exact k0
        walk_at "rs"
        refine ite2 (fun d4 => ?_) (fun d4 => ?_) <;> simp only [decide_eq_true_iff] at d4
        · rw [show abandM m n = false from if_neg (fun z => by have := z.2.2.2.2.2; omega)] at k0
          exact k0
        rw [show abandM m n = (match n.l with | none => true | some l => decide (l < m.t)) from if_pos ⟨by assumption, by assumption, d1, d2, d3, by omega⟩] at k0
        walk_at "rs"
        refine ite2 (fun d5 => ?_) (fun d5 => ?_) <;> simp only [koIn, decide_eq_true_iff] at d5
        · rw [d5] at k0
          exact k0
        · cases hnl : n.l with
          | none => exact absurd hnl d5
          | some l =>
            rw [hnl] at k0
            refine ⟨_, rfl, _, _, _, _, rfl, rfl, SqT.of (by assumption), (at4 n (by assumption)).trans (by rw [hnl]), ?_⟩
            walk_at "rs"
            exact k0

theorem ok_law_statement (T : Txt K mg a) : ∃ fd, FnOk P w K mg base CX0 1 a.d_law_statement fd ["digit", "height"] (spStat K) ∧ Binds K fd ["digit", "height"] [] := by
  obtain ⟨fd, F, b⟩ := T.d_law_statement.F
  refine ⟨fd, F.ok sc_law_statement (fun vs H Q E h => ?_) (fun cdv A outer s H vs Q E hr h => ?_), b⟩
  · obtain ⟨_, _, rfl, _⟩ := h
    rfl
  · obtain ⟨d, ht, rfl, k⟩ := h
    refine ⟨_, (pss_cons (ps_set (i := 2) sc_law_statement.nd rfl (Or.inl rfl) (pe_ix ix_tup (pe_tup (pa_cons pe_str (pa_cons pe_str (pa_cons pe_str (pa_cons pe_str (pa_cons pe_non pa_nil)))))) (pe_op op_mod (pe_callTy call_int1 (by rfl) T.n_int (by decide +kernel) (pa_cons (pv 0) pa_nil)) pe_int) (fun _ _ => rfl)))
      (pss_cons (ps_set (i := 3) sc_law_statement.nd rfl (Or.inl rfl) (pe_op op_mod (pe_op op_fdiv (pv 0) pe_int) pe_int))
      (pss_cons (ps_if (pt_cmpR op_eq (pe_op op_mod (pe_op op_fdiv (pv 0) pe_int) pe_int) pe_int (nomark _))
      (pss_one (ps_ret (pe_tup (pa_cons pe_str (pa_cons (pv 1) (pa_cons (pv 3) (pa_cons (pv 2) pa_nil)))))))
      pss_nil)
      (pss_cons (ps_set (i := 4) sc_law_statement.nd rfl (Or.inl rfl) pe_non)
      (pss_cons (ps_if (PW.pt (pw_and (pt_cmpR op_notN (pv 2) pe_non (nomark _)) (pw_and (pt_cmpR op_gt (pv 3) pe_int (nomark _)) (pw_and1 (pt_cmpR op_eq (pe_op op_mod (pe_op op_fdiv (pv 0) pe_int) pe_int) pe_int (nomark _))))))
      (pss_one (ps_set (i := 4) sc_law_statement.nd rfl (Or.inl rfl) (pe_op op_mod (pe_op op_fdiv (pv 0) pe_int) (pv 3))))
      pss_nil)
      (pss_one (ps_ret (pe_tup (pa_cons pe_str (pa_cons (pv 1) (pa_cons (pv 3) (pa_cons (pv 2) (pa_cons (pv 4) pa_nil))))))))))))), ?_⟩
    walk_at "rs"
    refine ⟨(by show 5 ≤ sizeLine; decide), fun p1 hp1 => ?_⟩
    obtain ⟨b1, hb1, ob1⟩ := pick5 (i := d % 5) (Int.emod_nonneg _ (by decide)) (Int.emod_lt_of_pos _ (by decide))
    have s1 : Same H (upd H p1 (.tup [V.str "a", V.str "b", V.str "a", V.str "b", V.non])) := same_new hp1
    have t0 : 0 ≤ d / 5 % 4 := Int.emod_nonneg _ (by decide)
    have t4 : d / 5 % 4 < 4 := Int.emod_lt_of_pos _ (by decide)
    walk_at "rs"
    refine ⟨p1, _, _, _, rfl, rfl, SqT.of upd_same, hb1, ?_⟩
    walk_at "rs"
    refine ite2 (fun c1 => ?_) (fun c1 => ?_)
    · walk_at "rs"
      refine ⟨(by show 4 ≤ sizeLine; decide), fun q hq => ?_⟩
      exact k q ⟨.com, _, _, b1, none⟩ _ (s1.trans (same_new hq)) upd_same ob1 rfl (fun z => nomatch z) t0 t4
    walk_at "rs"
    refine ite2 (fun c2 => ?_) (fun c2 => ?_)
    · walk_at "rs"
      refine ite2 (fun c3 => ?_) (fun c3 => ?_)
      · have c3' := of_decide_eq_true c3
        walk_at "rs"
        refine ite2 (fun c4 => ?_) (fun c4 => ?_)
        · walk_at "rs"
          refine ⟨(by show 5 ≤ sizeLine; decide), fun q hq => ?_⟩
          exact k q ⟨.pre, _, _, b1, some _⟩ _ (s1.trans (same_new hq)) upd_same ob1 rfl (fun z => nomatch z) t0 t4
        · walk_at "rs"
          refine ⟨(by show 5 ≤ sizeLine; decide), fun q hq => ?_⟩
          exact k q ⟨.pre, _, _, b1, none⟩ _ (s1.trans (same_new hq)) upd_same ob1 rfl (fun z => nomatch z) t0 t4
      · walk_at "rs"
        refine ⟨(by show 5 ≤ sizeLine; decide), fun q hq => ?_⟩
        exact k q ⟨.pre, _, _, b1, none⟩ _ (s1.trans (same_new hq)) upd_same ob1 rfl (fun z => nomatch z) t0 t4
    · walk_at "rs"
      refine ⟨(by show 5 ≤ sizeLine; decide), fun q hq => ?_⟩
      exact k q ⟨.pre, _, _, b1, none⟩ _ (s1.trans (same_new hq)) upd_same ob1 rfl (fun z => nomatch z) t0 t4

theorem ok_law_certified (T : Txt K mg a) : ∃ fd, FnOk P w K mg base CX0 2 a.d_law_certified fd ["weights", "letters", "height", "turn", "block"] (spLCert K) ∧ Binds K fd ["weights", "letters", "height", "turn", "block"] [] := by
  obtain ⟨fd, F, b⟩ := T.d_law_certified.F
  obtain ⟨fd_law_weight, G_law_weight, b_law_weight⟩ := ok_law_weight (P := P) (w := w) (base := base) T
  refine ⟨fd, F.ok sc_law_certified (fun vs H Q E h => ?_) (fun cdv A outer s H vs Q E hr h => ?_), b⟩
  · obtain ⟨_, _, _, _, _, _, _, _, rfl, _⟩ := h
    rfl
  · obtain ⟨pw, l, ws, ps, xs, ht, tn, bb, rfl, hw, wl, hl, hx, few, t0, t12, k⟩ := h
    refine ⟨_, (pss_cons (ps_set (i := 5) sc_law_certified.nd rfl (Or.inl rfl) (pe_lst (pa_cons pe_non pa_nil)))
      (pss_cons (ps_for PassesOwn.never rfl (pi_range1 rfl T.n_range (pa_cons (pe_op op_add (pv 3) pe_int) pa_nil)) (pg_name (i := 6) sc_law_certified.nd rfl (Or.inl rfl))
      (pss_cons (ps_set (i := 7) sc_law_certified.nd rfl (Or.inl rfl) (pe_lst pa_nil))
        (pss_cons (ps_for PassesOwn.never rfl (pi_list (pv 1)) (pg_name (i := 8) sc_law_certified.nd rfl (Or.inl rfl))
        (pss_cons (ps_set (i := 9) sc_law_certified.nd rfl (Or.inl rfl) (pe_ix ix_tup (pv 8) pe_int (fun _ _ => rfl)))
          (pss_one (ps_if (PW.pt (pw_and (pt_cmpR op_eq (pe_ix ix_tup (pv 9) pe_int (fun _ _ => rfl)) pe_str (nomark _)) (pw_and (pt_cmpR op_eq (pe_ix ix_tup (pv 9) pe_int (fun _ _ => rfl)) (pv 2) (nomark _)) (pw_and (pt_cmpR op_eq (pe_ix ix_tup (pv 9) pe_int (fun _ _ => rfl)) (pv 6) (nomark _)) (pw_and1 (pt_cmpR op_eq (pe_ix ix_tup (pv 9) pe_int (fun _ _ => rfl)) (pv 4) (nomark _)))))))
          (pss_one (ps_if (PW.pt (pw_and (pt_cmpR op_in_seq (pe_ix ix_tup (pv 9) pe_int (fun _ _ => rfl)) (pv 5) (by rfl)) (pw_and1 (PW.pt (pw_or (pt_cmpR op_isN (pe_ix ix_tup (pv 9) pe_int (fun _ _ => rfl)) pe_non (nomark _)) (pw_or1 (pt_cmpR op_lt (pe_ix ix_tup (pv 9) pe_int (fun _ _ => rfl)) (pv 6) (nomark _))))))))
            (pss_one (ps_expr (pe_bm PySem.F.plainAttrs_list PySem.F.slot_list_append PySem.F.type_list_append mt_append (pv 7) (pa_cons (pe_ix ix_tup (pv 8) pe_int (fun _ _ => rfl)) pa_nil))))
            pss_nil))
          pss_nil))))
        (pss_cons (ps_set (i := 10) sc_law_certified.nd rfl (Or.inl rfl) (pe_cmpR op_gt (pe_op op_mul pe_int (pe_call G_law_weight (hr.mono (by decide)) rfl T.d_law_weight.g T.d_law_weight.kp b_law_weight .nil pass0 (pa_cons (pv 0) (pa_cons (pv 7) pa_nil)))) (pe_op op_mul pe_int (pe_callB (cr_sum rfl) (by rfl) T.n_sum (by decide +kernel) (pa_cons (pv 0) pa_nil))) (nomark _)))
        (pss_cons (ps_if (pt_cmpR op_eq (pv 6) (pv 3) (nomark _))
        (pss_one (ps_ret (pv 10)))
        pss_nil)
        (pss_one (ps_if (pt_val (pv 10))
        (pss_one (ps_expr (pe_bm PySem.F.plainAttrs_list PySem.F.slot_list_append PySem.F.type_list_append mt_append (pv 5) (pa_cons (pv 6) pa_nil))))
        pss_nil)))))))
      (pss_one (ps_ret pe_bl)))), ?_⟩
    walk_at "rs"
    refine ⟨(by show 1 ≤ sizeLine; decide), fun pn hpn => ?_⟩
    walk_at "rs"
    refine ⟨(by show -(2 ^ 62 : Int) ≤ _; omega), (by show _ < (2 ^ 62 : Int); omega), ?_⟩
    refine for_range (lo := 0) (n := (tn + 1).toNat) (fun i σ H2 => ∃ v6 v7 v8 v9 v10 : Option V, σ = [some (.ref pw), some (.ref l), some (.int ht), some (.int tn), some (oS bb), some (.ref pn), v6, v7, v8, v9, v10] ∧ (i : Int) ≤ tn ∧ Same H H2 ∧ H2 pn = some (.lst (lnV (lns ws xs ht bb i))))
      ⟨_, _, _, _, _, rfl, by omega, same_new hpn, upd_same⟩ ?_ ?_
    · rintro i σ H2 hi ⟨v6, v7, v8, v9, v10, rfl, hit, s2, hn2⟩
      have e0 : (0 : Int) + (i : Int) = (i : Int) := Int.zero_add _
      rw [e0]
      have ll := lns_len ws xs ht bb i
      generalize eL : lns ws xs ht bb i = L at hn2 ll
      have hl2 := s2 _ _ hl
      have hx2 := hx.same s2
      walk_at "rs"
      refine ⟨(by show 0 ≤ sizeLine; decide), fun pm hpm => ?_⟩
      have s23 : Same H2 (upd H2 pm (.lst [])) := same_new hpm
      walk_at "rs"
      refine ⟨⟨_, SqL.of (s23 _ _ hl2)⟩, for_list (K := K) (a := l) (xs := ps.map V.ref) (fun j σ H3 => ∃ v8 v9 : Option V, σ = [some (.ref pw), some (.ref l), some (.int ht), some (.int tn), some (oS bb), some (.ref pn), some (.int (i : Int)), some (.ref pm), v8, v9, v10] ∧ Same H2 H3 ∧ H3 pm = some (.lst ((memM (xs.take j) ht i bb L).map V.int)))
        ⟨_, _, rfl, s23, upd_same⟩ (fun j σ H3 _ ⟨_, _, _, s3, _⟩ => SqL.of (s3 _ _ hl2)) ?_ ?_⟩
      · rintro j y σ H3 hy ⟨v8, v9, rfl, s3, hm3⟩
        have hj : j < ps.length := by
          have e := (List.getElem?_eq_some_iff.mp hy).1
          rwa [List.length_map] at e
        have hj' : j < xs.length := by
          rw [← hx.1]
          exact hj
        rw [at_refs hj] at hy
        cases hy
        obtain ⟨q, hp, hq⟩ := (hx2.2 j hj').same s3
        have ex : ∃ x, xs.getD j default = x := ⟨_, rfl⟩
        obtain ⟨x, ex⟩ := ex
        rw [ex] at hp hq
        have ml := mem_len (xs.take j) ht i bb L
        rw [List.length_take] at ml
        have no : cnt ht i bb L x = false → ∃ v8 v9 : Option V, [some (V.ref pw), some (.ref l), some (.int ht), some (.int tn), some (oS bb), some (.ref pn), some (.int (i : Int)), some (.ref pm), some (.ref (ps.getD j 0)), some (.ref q), v10] = [some (.ref pw), some (.ref l), some (.int ht), some (.int tn), some (oS bb), some (.ref pn), some (.int (i : Int)), some (.ref pm), v8, v9, v10] ∧ Same H2 H3 ∧ H3 pm = some (.lst ((memM (xs.take (j + 1)) ht i bb L).map V.int)) := fun c => ⟨_, _, rfl, s3, by
          rw [mem_no hj' (by rw [ex]; exact c)]
          exact hm3⟩
        walk_at "rs"
        refine ⟨_, _, _, _, rfl, rfl, SqT.of hp, rfl, ?_⟩
        walk_at "rs"
        refine ite2 (fun c1 => ?_) (fun c1 => ?_) <;> simp only [kpre, decide_eq_true_iff] at c1
        · walk_at "rs"
          refine ite2 (fun c2 => ?_) (fun c2 => ?_) <;> simp only [dec_int, beq_iff_eq] at c2
          · walk_at "rs"
            refine ite2 (fun c3 => ?_) (fun c3 => ?_) <;> simp only [dec_int, beq_iff_eq] at c3
            · walk_at "rs"
              refine ite2 (fun c4 => ?_) (fun c4 => ?_) <;> simp only [dec_oS, decide_eq_true_iff] at c4
              · have cT := cnt_t (L := L) ⟨c1, c2, c3, c4⟩
                have hn3 := s3 _ _ hn2
                have yes : cnt ht i bb L x = true → ∃ v8 v9 : Option V, [some (V.ref pw), some (.ref l), some (.int ht), some (.int tn), some (oS bb), some (.ref pn), some (.int (i : Int)), some (.ref pm), some (.ref (ps.getD j 0)), some (.ref q), v10] = [some (.ref pw), some (.ref l), some (.int ht), some (.int tn), some (oS bb), some (.ref pn), some (.int (i : Int)), some (.ref pm), v8, v9, v10] ∧ Same H2 (upd H3 pm (.lst ((memM (xs.take j) ht i bb L).map V.int ++ [V.int x.w]))) ∧
                    (upd H3 pm (.lst ((memM (xs.take j) ht i bb L).map V.int ++ [V.int x.w]))) pm = some (.lst ((memM (xs.take (j + 1)) ht i bb L).map V.int)) := fun c => ⟨_, _, rfl, same_upd s3 hpm, by
                  rw [upd_same, mem_yes hj' (by rw [ex]; exact c), ex]
                  simp⟩
                have fit : ((memM (xs.take j) ht i bb L).map V.int).length < sizeLine := by
                  rw [List.length_map]
                  exact small1000 (by omega)
                obtain ⟨xw, xk, xh, xt, xb, xl⟩ := x
                cases (show xk = .pre from c1)
                walk_at "rs"
                cases xl with
                | none =>
                  refine ⟨pn, _, rfl, .inl (SqL.of hn3), rfl, flat_lnV L, ?_⟩
                  walk_at "rs"
                  refine ⟨.inl ⟨rfl, _, SqL.of hm3⟩, ?_⟩
                  walk_at "rs"
                  refine ⟨_, _, _, _, rfl, rfl, SqT.of hp, rfl, ?_⟩
                  walk_at "rs"
                  refine ⟨pm, _, _, rfl, rfl, hm3, fit, ?_⟩
                  exact yes cT
                | some l0 =>
                  refine ⟨pn, _, rfl, .inl (SqL.of hn3), rfl, flat_lnV L, ?_⟩
                  rw [if_neg Bool.false_ne_true, inV_lnV (some l0)]
                  walk_at "rs"
                  refine ite2 (fun c5 => ?_) (fun c5 => ?_)
                  · have c5 : decide (l0 ∈ L) = true := c5
                    walk_at "rs"
                    refine ite2 (fun c6 => ?_) (fun c6 => ?_)
                    · walk_at "rs"
                      refine ⟨.inl ⟨rfl, _, SqL.of hm3⟩, ?_⟩
                      walk_at "rs"
                      refine ⟨_, _, _, _, rfl, rfl, SqT.of hp, rfl, ?_⟩
                      walk_at "rs"
                      refine ⟨pm, _, _, rfl, rfl, hm3, fit, ?_⟩
                      exact yes (cT.trans (show (decide (l0 ∈ L) && decide (l0 < (i : Int))) = true by rw [c5, c6]; rfl))
                    · exact no (cT.trans (show (decide (l0 ∈ L) && decide (l0 < (i : Int))) = false by rw [Bool.eq_false_iff.mpr c6, Bool.and_false]))
                  · exact no (cT.trans (show (decide (l0 ∈ L) && decide (l0 < (i : Int))) = false by rw [Bool.eq_false_iff.mpr (show ¬ decide (l0 ∈ L) = true from c5), Bool.false_and]))
              · exact no (cnt_f fun y => c4 y.2.2.2)
            · exact no (cnt_f fun y => c3 y.2.2.1)
          · exact no (cnt_f fun y => c2 y.2.1)
        · exact no (cnt_f fun y => c1 y.1)
      · rintro σ H3 ⟨v8, v9, rfl, s3, hm3⟩
        rw [List.length_map, hx.1, List.take_length] at hm3
        have hw3 := (s2.trans s3).seq hw
        have hn3 := s3 _ _ hn2
        walk_at "rs"
        refine ⟨pw, pm, ws, _, rfl, hw3, SqL.of hm3, wl, fun H4 s4 => ?_⟩
        walk_at "rs"
        refine ⟨pw, ws, rfl, s4.seq hw3, ?_⟩
        walk_at "rs"
        have cert : certM ws xs ht bb i = decide (2 * ws.sum < 3 * wOf ws (memM xs ht i bb L)) := by
          unfold certM
          rw [eL]
          rfl
        refine ite2 (fun c1 => ?_) (fun c1 => ?_) <;> simp only [dec_int, beq_iff_eq] at c1
        · walk_at "rs"
          have kk := k H4 (fun b o y => s4 _ _ (s3 _ _ (s2 _ _ y)))
          rw [show tn.toNat = i by omega, cert] at kk
          exact kk
        walk_at "rs"
        refine ite2 (fun c2 => ?_) (fun c2 => ?_)
        · walk_at "rs"
          refine ⟨.inl ⟨rfl, _, SqL.of (s4 _ _ hn3)⟩, ?_⟩
          walk_at "rs"
          refine ⟨pn, _, _, rfl, rfl, s4 _ _ hn3, by show (lnV L).length < sizeLine; rw [lnV, List.length_cons, List.length_map]; exact small1000 (by omega), ?_⟩
          refine ⟨_, _, _, _, _, rfl, by omega, same_upd (fun b o y => s4 _ _ (s3 _ _ (s2 _ _ y))) hpn, ?_⟩
          rw [upd_same, lns_yes (cert.trans c2), eL, lnV_snoc]
        · refine ⟨_, _, _, _, _, rfl, by omega, fun b o y => s4 _ _ (s3 _ _ (s2 _ _ y)), ?_⟩
          rw [s4 _ _ hn3, lns_no (fun y => c2 (cert.symm.trans y)), eL]
    · rintro σ H2 ⟨v6, v7, v8, v9, v10, rfl, hit, s2, hn2⟩
      exfalso
      omega

theorem ok_law_committed (T : Txt K mg a) : ∃ fd, FnOk P w K mg base CX0 3 a.d_law_committed fd ["weights", "letters", "height", "turn", "block"] (spLComm K) ∧ Binds K fd ["weights", "letters", "height", "turn", "block"] [] := by
  obtain ⟨fd, F, b⟩ := T.d_law_committed.F
  obtain ⟨fd_law_certified, G_law_certified, b_law_certified⟩ := ok_law_certified (P := P) (w := w) (base := base) T
  obtain ⟨fd_law_weight, G_law_weight, b_law_weight⟩ := ok_law_weight (P := P) (w := w) (base := base) T
  refine ⟨fd, F.ok sc_law_committed (fun vs H Q E h => ?_) (fun cdv A outer s H vs Q E hr h => ?_), b⟩
  · obtain ⟨_, _, _, _, _, _, _, _, rfl, _⟩ := h
    rfl
  · obtain ⟨pw, l, ws, ps, xs, ht, tn, bb, rfl, hw, wl, hl, hx, few, t0, t12, ob, okl, k⟩ := h
    refine ⟨_, (pss_cons (ps_set (i := 5) sc_law_committed.nd rfl (Or.inl rfl) (pe_lst pa_nil))
      (pss_cons (ps_for PassesOwn.never rfl (pi_list (pv 1)) (pg_name (i := 6) sc_law_committed.nd rfl (Or.inl rfl))
      (pss_one (ps_if (pt_cmpR (op_eqD hr.units) (pe_ix ix_tup (pv 6) pe_int (fun _ _ => rfl)) (pe_tup (pa_cons pe_str (pa_cons (pv 2) (pa_cons (pv 3) (pa_cons (pv 4) pa_nil))))) (nomark _))
        (pss_one (ps_expr (pe_bm PySem.F.plainAttrs_list PySem.F.slot_list_append PySem.F.type_list_append mt_append (pv 5) (pa_cons (pe_ix ix_tup (pv 6) pe_int (fun _ _ => rfl)) pa_nil))))
        pss_nil)))
      (pss_cons (ps_if (pt_cmpR op_le (pe_op op_mul pe_int (pe_call G_law_weight (hr.mono (by decide)) rfl T.d_law_weight.g T.d_law_weight.kp b_law_weight .nil pass0 (pa_cons (pv 0) (pa_cons (pv 5) pa_nil)))) (pe_op op_mul pe_int (pe_callB (cr_sum rfl) (by rfl) T.n_sum (by decide +kernel) (pa_cons (pv 0) pa_nil))) (nomark _))
      (pss_one (ps_ret pe_bl))
      pss_nil)
      (pss_one (ps_ret (pe_call G_law_certified (hr.mono (by decide)) rfl T.d_law_certified.g T.d_law_certified.kp b_law_certified .nil pass0 (pa_cons (pv 0) (pa_cons (pv 1) (pa_cons (pv 2) (pa_cons (pv 3) (pa_cons (pv 4) pa_nil))))))))))), ?_⟩
    walk_at "rs"
    refine ⟨(by show 0 ≤ sizeLine; decide), fun pm hpm => ?_⟩
    have s1 : Same H (upd H pm (.lst [])) := same_new hpm
    walk_at "rs"
    refine ⟨⟨_, SqL.of (s1 _ _ hl)⟩, for_list (K := K) (a := l) (xs := ps.map V.ref) (fun j σ H3 => ∃ v6 : Option V, σ = [some (.ref pw), some (.ref l), some (.int ht), some (.int tn), some (oS bb), some (.ref pm), v6] ∧ Same H H3 ∧ H3 pm = some (.lst ((comS (xs.take j) ht tn bb).map V.int)))
      ⟨_, rfl, s1, upd_same⟩ (fun j σ H3 _ ⟨_, _, s3, _⟩ => SqL.of (s3 _ _ hl)) ?_ ?_⟩
    · rintro j y σ H3 hy ⟨v6, rfl, s3, hm3⟩
      have hj : j < ps.length := by
        have e := (List.getElem?_eq_some_iff.mp hy).1
        rwa [List.length_map] at e
      have hj' : j < xs.length := by
        rw [← hx.1]
        exact hj
      rw [at_refs hj] at hy
      cases hy
      obtain ⟨q, hp, hq⟩ := (hx.2 j hj').same s3
      have ox := okl _ (getD_mem2 (d := default) hj')
      obtain ⟨x, ex⟩ : ∃ x, xs.getD j default = x := ⟨_, rfl⟩
      rw [ex] at hp hq ox
      have ml := com_len (xs.take j) ht tn bb
      rw [List.length_take] at ml
      walk_at "rs"
      refine ⟨_, _, _, _, rfl, rfl, SqT.of hp, rfl, ?_⟩
      walk_at "rs"
      refine ⟨(by show 4 ≤ sizeLine; decide), fun t ht1 => ?_⟩
      have s4 : Same H3 (upd H3 t (.tup [V.str "precommit", V.int ht, V.int tn, oS bb])) := same_new ht1
      have hq' : SmAt (upd H3 t (.tup [V.str "precommit", V.int ht, V.int tn, oS bb])) q x.m := s4 _ _ hq
      have ht' : (upd H3 t (.tup [V.str "precommit", V.int ht, V.int tn, oS bb])) t = some (.tup (Sm.vals ⟨.com, ht, tn, bb, none⟩)) := upd_same
      refine ⟨_, _, dp_sm hq', dp_sm ht', shaped_sm _ ox, shaped_sm ⟨.com, ht, tn, bb, none⟩ ob, ?_⟩
      rw [eqv_com]
      walk_at "rs"
      refine ite2 (fun c1 => ?_) (fun c1 => ?_)
      · have c1 := of_decide_eq_true c1
        walk_at "rs"
        refine ⟨.inl ⟨rfl, _, SqL.of (s4 _ _ hm3)⟩, ?_⟩
        walk_at "rs"
        refine ⟨_, _, _, _, rfl, rfl, SqT.of (s4 _ _ hp), rfl, ?_⟩
        walk_at "rs"
        refine ⟨pm, _, _, rfl, rfl, s4 _ _ hm3, by rw [List.length_map]; exact small1000 (by omega), ?_⟩
        exact ⟨_, rfl, same_upd (s3.trans s4) hpm, by
          rw [upd_same, com_yes hj' (by rw [ex]; exact c1), ex]
          simp⟩
      · have c1 : ¬ _ := fun y => c1 (decide_eq_true y)
        exact ⟨_, rfl, s3.trans s4, by
          rw [com_no hj' (by rw [ex]; exact c1)]
          exact s4 _ _ hm3⟩
    · rintro σ H3 ⟨v6, rfl, s3, hm3⟩
      rw [List.length_map, hx.1, List.take_length] at hm3
      have hw3 := s3.seq hw
      walk_at "rs"
      refine ⟨pw, pm, ws, _, rfl, hw3, SqL.of hm3, wl, fun H4 s4 => ?_⟩
      walk_at "rs"
      refine ⟨pw, ws, rfl, s4.seq hw3, ?_⟩
      walk_at "rs"
      unfold commM at k
      have te : ((tn.toNat : Nat) : Int) = tn := by omega
      rw [te] at k
      refine ite2 (fun c1 => ?_) (fun c1 => ?_)
      · walk_at "rs"
        have kk := k H4 (fun b o y => s4 _ _ (s3 _ _ y))
        have c2 := of_decide_eq_true c1
        rw [show qrm ws (comS xs ht tn bb) = false from decide_eq_false (by omega), Bool.false_and] at kk
        exact kk
      walk_at "rs"
      have c2 : ¬ 3 * wOf ws (comS xs ht tn bb) ≤ 2 * ws.sum := fun y => c1 (decide_eq_true y)
      rw [show qrm ws (comS xs ht tn bb) = true from decide_eq_true (by omega), Bool.true_and] at k
      exact ⟨pw, l, ws, ps, xs, ht, tn, bb, rfl, s4.seq hw3, wl, s4 _ _ (s3 _ _ hl), (hx.same s3).same s4, few, t0, t12, fun H5 s5 => k H5 (fun b o y => s5 _ _ (s4 _ _ (s3 _ _ y)))⟩

theorem ok_law_letters (T : Txt K mg a) : ∃ fd, FnOk P w K mg base CX0 2 a.d_law_letters fd ["cell", "count", "size"] (spLetters K) ∧ Binds K fd ["cell", "count", "size"] [] := by
  obtain ⟨fd, F, b⟩ := T.d_law_letters.F
  obtain ⟨fd_law_row, G_law_row, b_law_row⟩ := ok_law_row (P := P) (w := w) (base := base) T
  obtain ⟨fd_law_statement, G_law_statement, b_law_statement⟩ := ok_law_statement (P := P) (w := w) (base := base) T
  refine ⟨fd, F.ok sc_law_letters (fun vs H Q E h => ?_) (fun cdv A outer s H vs Q E hr h => ?_), b⟩
  · obtain ⟨_, _, _, rfl, _⟩ := h
    rfl
  · obtain ⟨cell, count, size, rfl, c0, c1, z0, k⟩ := h
    refine ⟨_, (pss_cons (ps_set (i := 3) sc_law_letters.nd rfl (Or.inl rfl) (pe_call G_law_row (hr.mono (by decide)) rfl T.d_law_row.g T.d_law_row.kp b_law_row .nil pass0 (pa_cons (pv 0) (pa_cons (pe_op op_mul pe_int (pv 1)) (pa_cons pe_int pa_nil)))))
      (pss_cons (ps_set (i := 4) sc_law_letters.nd rfl (Or.inl rfl) (pe_lst pa_nil))
      (pss_cons (ps_for PassesOwn.never rfl (pi_range1 rfl T.n_range (pa_cons (pv 1) pa_nil)) (pg_name (i := 5) sc_law_letters.nd rfl (Or.inl rfl))
      (pss_one (ps_expr (pe_bm PySem.F.plainAttrs_list PySem.F.slot_list_append PySem.F.type_list_append mt_append (pv 4) (pa_cons (pe_tup (pa_cons (pe_op op_mod (pe_callTy call_int1 (by rfl) T.n_int (by decide +kernel) (pa_cons (pe_ix ix_list (pv 3) (pe_op op_mul pe_int (pv 5)) (fun _ _ => rfl)) pa_nil)) (pv 2)) (pa_cons (pe_call G_law_statement (hr.mono (by decide)) rfl T.d_law_statement.g T.d_law_statement.kp b_law_statement .nil pass0 (pa_cons (pe_ix ix_list (pv 3) (pe_op op_add (pe_op op_mul pe_int (pv 5)) pe_int) (fun _ _ => rfl)) (pa_cons pe_int pa_nil))) pa_nil))) pa_nil)))))
      (pss_one (ps_ret (pv 4)))))), ?_⟩
    walk_at "rs"
    refine ⟨_, _, _, rfl, by omega, by omega, by decide, by decide, fun pd row H1 s1 hrow rlen hb hpd => ?_⟩
    walk_at "rs"
    refine ⟨(by show 0 ≤ sizeLine; decide), fun pl hpl => ?_⟩
    have I0 : PL H (upd H1 pl (.lst [])) pl size 0 [] [] := PL.start s1 hpl
    have hrow0 : (upd H1 pl (.lst [])) pd = some (.lst (row.map V.int)) := (same_new hpl) _ _ hrow
    walk_at "rs"
    refine ⟨(by show -(2 ^ 62 : Int) ≤ _; omega), (by show _ < (2 ^ 62 : Int); omega), ?_⟩
    refine for_range (lo := 0) (n := count.toNat) (fun i σ H2 => ∃ v5 : Option V, σ = [some (.int cell), some (.int count), some (.int size), some (.ref pd), some (.ref pl), v5] ∧ ∃ ps xs, PL H H2 pl size i ps xs ∧ xs.length = i ∧ H2 pd = some (.lst (row.map V.int)))
      ⟨_, rfl, [], [], I0, rfl, hrow0⟩ ?_ ?_
    · rintro i σ H2 hi ⟨v5, rfl, ps, xs, I, hlen, hrow2⟩
      have e0 : (0 : Int) + (i : Int) = (i : Int) := Int.zero_add _
      rw [e0]
      walk_at "rs"
      refine ⟨.inl ⟨rfl, _, SqL.of I.at'⟩, ?_⟩
      walk_at "rs"
      refine ⟨pd, _, _, .int (row.getD (2 * i) 0), rfl, rfl, SqL.of hrow2, at_of (j := 2 * i) (by show (2 : Int) * (i : Int) = _; omega) (at_ints (by omega)), ?_⟩
      walk_at "rs"
      refine ⟨pd, _, _, .int (row.getD (2 * i + 1) 0), rfl, rfl, SqL.of hrow2, at_of (j := 2 * i + 1) (by show (2 : Int) * (i : Int) + 1 = _; omega) (at_ints (by omega)), ?_⟩
      refine ⟨_, _, rfl, fun q m H3 s3 hq om hh hk t0 t4 => ?_⟩
      walk_at "rs"
      refine ⟨(by show 2 ≤ sizeLine; decide), fun t ht => ?_⟩
      have s4 : Same H3 (upd H3 t (.tup [V.int (row.getD (2 * i) 0 % size), V.ref q])) := same_new ht
      have I4 := (I.go s3).go s4
      have hlt : LtAt (upd H3 t (.tup [V.int (row.getD (2 * i) 0 % size), V.ref q])) t ⟨row.getD (2 * i) 0 % size, m⟩ := ⟨q, upd_same, s4 _ _ hq⟩
      refine ⟨pl, _, _, rfl, rfl, I4.at', I4.fit (by omega), ?_⟩
      refine ⟨_, rfl, _, _, I4.push hlt ⟨om, Int.emod_nonneg _ (by omega), Int.emod_lt_of_pos _ z0, hh, hk, t0, t4⟩, by simp; omega, ?_⟩
      rw [upd_ne (ne_of_none hrow hpl)]
      exact s4 _ _ (s3 _ _ hrow2)
    · rintro σ H2 ⟨v5, rfl, ps, xs, I, hlen, hrow2⟩
      walk_at "rs"
      exact k pl ps xs H2 I.same I.at' I.ls hlen I.good I.free

theorem ok_law_planted (T : Txt K mg a) : ∃ fd, FnOk P w K mg base CX0 2 a.d_law_planted fd ["cell", "size"] (spPlanted K) ∧ Binds K fd ["cell", "size"] [] := by
  obtain ⟨fd, F, b⟩ := T.d_law_planted.F
  obtain ⟨fd_law_row, G_law_row, b_law_row⟩ := ok_law_row (P := P) (w := w) (base := base) T
  refine ⟨fd, F.ok sc_law_planted (fun vs H Q E h => ?_) (fun cdv A outer s H vs Q E hr h => ?_), b⟩
  · obtain ⟨_, _, rfl, _⟩ := h
    rfl
  · obtain ⟨cell, size, rfl, z0, z16, kk⟩ := h
    refine ⟨_, (pss_cons (ps_set (i := 2) sc_law_planted.nd rfl (Or.inl rfl) (pe_call G_law_row (hr.mono (by decide)) rfl T.d_law_row.g T.d_law_row.kp b_law_row .nil pass0 (pa_cons (pv 0) (pa_cons (pe_op op_add (pe_op op_mul pe_int (pv 1)) pe_int) (pa_cons pe_int pa_nil)))))
      (pss_cons (ps_set (i := 3) sc_law_planted.nd rfl (Or.inl rfl) (pe_lst pa_nil))
      (pss_cons (ps_set (i := 4) sc_law_planted.nd rfl (Or.inl rfl) (pe_op op_mod (pe_callTy call_int1 (by rfl) T.n_int (by decide +kernel) (pa_cons (pe_ix ix_list (pv 2) pe_int (fun _ _ => rfl)) pa_nil)) pe_int))
      (pss_cons (ps_set (i := 5) sc_law_planted.nd rfl (Or.inl rfl) (pe_op op_add (pv 4) (pe_op op_mod (pe_callTy call_int1 (by rfl) T.n_int (by decide +kernel) (pa_cons (pe_ix ix_list (pv 2) pe_int (fun _ _ => rfl)) pa_nil)) pe_int)))
      (pss_cons (ps_set (i := 6) sc_law_planted.nd rfl (Or.inl rfl) (pe_op op_mod (pe_callTy call_int1 (by rfl) T.n_int (by decide +kernel) (pa_cons (pe_ix ix_list (pv 2) pe_int (fun _ _ => rfl)) pa_nil)) pe_int))
      (pss_cons (ps_for PassesOwn.never rfl (pi_range1 rfl T.n_range (pa_cons (pv 1) pa_nil)) (pg_name (i := 7) sc_law_planted.nd rfl (Or.inl rfl))
      (C8.pss_cut (ps_if (pt_cmpR op_ne (pe_op op_mod (pe_callTy call_int1 (by rfl) T.n_int (by decide +kernel) (pa_cons (pe_ix ix_list (pv 2) (pe_op op_add pe_int (pv 7)) (fun _ _ => rfl)) pa_nil)) pe_int) pe_int (nomark _))
        (pss_cons (ps_expr (pe_bm PySem.F.plainAttrs_list PySem.F.slot_list_append PySem.F.type_list_append mt_append (pv 3) (pa_cons (pe_tup (pa_cons (pv 7) (pa_cons (pe_tup (pa_cons pe_str (pa_cons pe_int (pa_cons (pv 4) (pa_cons pe_str (pa_cons pe_non pa_nil)))))) pa_nil))) pa_nil)))
          (pss_one (ps_expr (pe_bm PySem.F.plainAttrs_list PySem.F.slot_list_append PySem.F.type_list_append mt_append (pv 3) (pa_cons (pe_tup (pa_cons (pv 7) (pa_cons (pe_tup (pa_cons pe_str (pa_cons pe_int (pa_cons (pv 4) (pa_cons pe_str pa_nil))))) pa_nil))) pa_nil)))))
        pss_nil)
        (pss_one (ps_if (pt_cmpR op_ne (pe_op op_mod (pe_callTy call_int1 (by rfl) T.n_int (by decide +kernel) (pa_cons (pe_ix ix_list (pv 2) (pe_op op_add (pe_op op_add pe_int (pv 1)) (pv 7)) (fun _ _ => rfl)) pa_nil)) pe_int) pe_int (nomark _))
        (C8.pss_cut (ps_if (PW.pt (pw_and (pt_cmpR op_gt (pv 5) (pv 4) (nomark _)) (pw_and1 (pt_cmpR op_eq (pv 6) pe_int (nomark _)))))
          (pss_cons (ps_expr (pe_bm PySem.F.plainAttrs_list PySem.F.slot_list_append PySem.F.type_list_append mt_append (pv 3) (pa_cons (pe_tup (pa_cons (pv 7) (pa_cons (pe_tup (pa_cons pe_str (pa_cons pe_int (pa_cons (pv 4) (pa_cons pe_str (pa_cons pe_non pa_nil)))))) pa_nil))) pa_nil)))
            (pss_one (ps_expr (pe_bm PySem.F.plainAttrs_list PySem.F.slot_list_append PySem.F.type_list_append mt_append (pv 3) (pa_cons (pe_tup (pa_cons (pv 7) (pa_cons (pe_tup (pa_cons pe_str (pa_cons pe_int (pa_cons (pv 5) (pa_cons pe_str (pa_cons (pv 4) pa_nil)))))) pa_nil))) pa_nil)))))
          (pss_one (ps_expr (pe_bm PySem.F.plainAttrs_list PySem.F.slot_list_append PySem.F.type_list_append mt_append (pv 3) (pa_cons (pe_tup (pa_cons (pv 7) (pa_cons (pe_tup (pa_cons pe_str (pa_cons pe_int (pa_cons (pv 5) (pa_cons pe_str (pa_cons pe_non pa_nil)))))) pa_nil))) pa_nil)))))
          (pss_one (ps_expr (pe_bm PySem.F.plainAttrs_list PySem.F.slot_list_append PySem.F.type_list_append mt_append (pv 3) (pa_cons (pe_tup (pa_cons (pv 7) (pa_cons (pe_tup (pa_cons pe_str (pa_cons pe_int (pa_cons (pv 5) (pa_cons pe_str pa_nil))))) pa_nil))) pa_nil)))))
        pss_nil))))
      (pss_one (ps_ret (pv 3))))))))), ?_⟩
    walk_at "rs"
    refine ⟨_, _, _, rfl, by omega, by omega, by decide, by decide, fun pd row H1 s1 hrow rlen hb hpd => ?_⟩
    walk_at "rs"
    refine ⟨(by show 0 ≤ sizeLine; decide), fun pl hpl => ?_⟩
    have I0 : PL H (upd H1 pl (.lst [])) pl size 0 [] [] := PL.start s1 hpl
    have npd := ne_of_none hrow hpl
    have hrow0 : (upd H1 pl (.lst [])) pd = some (.lst (row.map V.int)) := (same_new hpl) _ _ hrow
    walk_at "rs"
    refine ⟨pd, _, _, .int (row.getD 0 0), rfl, rfl, SqL.of hrow0, at_of (j := 0) rfl (at_ints (by omega)), ?_⟩
    walk_at "rs"
    refine ⟨pd, _, _, .int (row.getD 1 0), rfl, rfl, SqL.of hrow0, at_of (j := 1) rfl (at_ints (by omega)), ?_⟩
    walk_at "rs"
    refine ⟨pd, _, _, .int (row.getD 2 0), rfl, rfl, SqL.of hrow0, at_of (j := 2) rfl (at_ints (by omega)), ?_⟩
    walk_at "rs"
    refine ⟨(by show -(2 ^ 62 : Int) ≤ _; omega), (by show _ < (2 ^ 62 : Int); omega), ?_⟩
    have y0 : 0 ≤ row.getD 0 0 % 3 := Int.emod_nonneg _ (by decide)
    have y3 : row.getD 0 0 % 3 < 3 := Int.emod_lt_of_pos _ (by decide)
    have d0 : 0 ≤ row.getD 1 0 % 2 := Int.emod_nonneg _ (by decide)
    have d2 : row.getD 1 0 % 2 < 2 := Int.emod_lt_of_pos _ (by decide)
    refine for_range (lo := 0) (n := size.toNat) (fun i σ H2 => ∃ v7 : Option V, σ = [some (.int cell), some (.int size), some (.ref pd), some (.ref pl), some (.int (row.getD 0 0 % 3)), some (.int (row.getD 0 0 % 3 + row.getD 1 0 % 2)), some (.int (row.getD 2 0 % 3)), v7] ∧ ∃ ps xs, PL H H2 pl size (5 * i) ps xs ∧ H2 pd = some (.lst (row.map V.int))) ⟨_, rfl, [], [], I0, hrow0⟩ ?_ ?_
    · rintro k σ H2 hi ⟨v7, rfl, ps, xs, I, hrow2⟩
      have e0 : (0 : Int) + (k : Int) = (k : Int) := Int.zero_add _
      rw [e0]
      walk_at "rs"
      refine ⟨fun σ' H' => σ' = [some (.int cell), some (.int size), some (.ref pd), some (.ref pl), some (.int (row.getD 0 0 % 3)), some (.int (row.getD 0 0 % 3 + row.getD 1 0 % 2)), some (.int (row.getD 2 0 % 3)), some (.int (k : Int))] ∧ ∃ ps xs, PL H H' pl size (5 * k + 2) ps xs ∧ H' pd = some (.lst (row.map V.int)), ?_, ?_⟩
      · walk_at "rs"
        refine ⟨pd, _, _, .int (row.getD (8 + k) 0), rfl, rfl, SqL.of hrow2, at_of (j := 8 + k) (by show (8 : Int) + (k : Int) = _; omega) (at_ints (by omega)), ?_⟩
        walk_at "rs"
        refine ite2 (fun c1 => ?_) (fun c1 => ?_)
        · walk_at "rs"
          refine ⟨.inl ⟨rfl, _, SqL.of I.at'⟩, ?_⟩
          walk_at "rs"
          refine ⟨(by show 5 ≤ sizeLine; decide), fun qI1 hqI1 => ?_⟩
          refine ⟨(by show 2 ≤ sizeLine; decide), fun tI1 htI1 => ?_⟩
          obtain ⟨ltI1, sI1⟩ := lt_new (w := (k : Int)) (m := ⟨.pre, 0, row.getD 0 0 % 3, some "a", none⟩) hqI1 rfl htI1
          have JI1 := I.go sI1
          refine ⟨pl, _, _, rfl, rfl, JI1.at', JI1.fit (by omega), ?_⟩
          have I1 := JI1.push ltI1 ⟨okA, (by show (0 : Int) ≤ (k : Int); omega), (by show (k : Int) < size; omega), rfl, fun z => (nomatch z), (by show (0 : Int) ≤ row.getD 0 0 % 3; omega), (by show row.getD 0 0 % 3 < (4 : Int); omega)⟩
          walk_at "rs"
          refine ⟨.inl ⟨rfl, _, SqL.of I1.at'⟩, ?_⟩
          walk_at "rs"
          refine ⟨(by show 4 ≤ sizeLine; decide), fun qI2 hqI2 => ?_⟩
          refine ⟨(by show 2 ≤ sizeLine; decide), fun tI2 htI2 => ?_⟩
          obtain ⟨ltI2, sI2⟩ := lt_new (w := (k : Int)) (m := ⟨.com, 0, row.getD 0 0 % 3, some "a", none⟩) hqI2 rfl htI2
          have JI2 := I1.go sI2
          refine ⟨pl, _, _, rfl, rfl, JI2.at', JI2.fit (by omega), ?_⟩
          have I2 := JI2.push ltI2 ⟨okA, (by show (0 : Int) ≤ (k : Int); omega), (by show (k : Int) < size; omega), rfl, fun z => (nomatch z), (by show (0 : Int) ≤ row.getD 0 0 % 3; omega), (by show row.getD 0 0 % 3 < (4 : Int); omega)⟩
          walk_at "rs"
          exact ⟨_, _, I2.more (by omega), upd_row npd (sI2 _ _ (upd_row npd (sI1 _ _ hrow2)))⟩
        · exact ⟨rfl, _, _, I.more (by omega), hrow2⟩
      · clear I hrow2
        rintro σ' H3 ⟨rfl, ps, xs, I, hrow2⟩
        walk_at "rs"
        refine ⟨pd, _, _, .int (row.getD (8 + size.toNat + k) 0), rfl, rfl, SqL.of hrow2, at_of (j := 8 + size.toNat + k) (by show (8 : Int) + size + (k : Int) = _; omega) (at_ints (by omega)), ?_⟩
        walk_at "rs"
        refine ite2 (fun c1 => ?_) (fun c1 => ?_)
        · walk_at "rs"
          refine ⟨fun σ' H' => σ' = [some (.int cell), some (.int size), some (.ref pd), some (.ref pl), some (.int (row.getD 0 0 % 3)), some (.int (row.getD 0 0 % 3 + row.getD 1 0 % 2)), some (.int (row.getD 2 0 % 3)), some (.int (k : Int))] ∧ ∃ ps xs, PL H H' pl size (5 * k + 4) ps xs ∧ H' pd = some (.lst (row.map V.int)), ?_, ?_⟩
          · walk_at "rs"
            refine ite2 (fun c2 => ?_) (fun c2 => ?_)
            · walk_at "rs"
              refine ite2 (fun c3 => ?_) (fun c3 => ?_)
              · walk_at "rs"
                refine ⟨.inl ⟨rfl, _, SqL.of I.at'⟩, ?_⟩
                walk_at "rs"
                refine ⟨(by show 5 ≤ sizeLine; decide), fun qI1 hqI1 => ?_⟩
                refine ⟨(by show 2 ≤ sizeLine; decide), fun tI1 htI1 => ?_⟩
                obtain ⟨ltI1, sI1⟩ := lt_new (w := (k : Int)) (m := ⟨.pre, 0, row.getD 0 0 % 3, some "b", none⟩) hqI1 rfl htI1
                have JI1 := I.go sI1
                refine ⟨pl, _, _, rfl, rfl, JI1.at', JI1.fit (by omega), ?_⟩
                have I1 := JI1.push ltI1 ⟨okB, (by show (0 : Int) ≤ (k : Int); omega), (by show (k : Int) < size; omega), rfl, fun z => (nomatch z), (by show (0 : Int) ≤ row.getD 0 0 % 3; omega), (by show row.getD 0 0 % 3 < (4 : Int); omega)⟩
                walk_at "rs"
                refine ⟨.inl ⟨rfl, _, SqL.of I1.at'⟩, ?_⟩
                walk_at "rs"
                refine ⟨(by show 5 ≤ sizeLine; decide), fun qI2 hqI2 => ?_⟩
                refine ⟨(by show 2 ≤ sizeLine; decide), fun tI2 htI2 => ?_⟩
                obtain ⟨ltI2, sI2⟩ := lt_new (w := (k : Int)) (m := ⟨.pre, 0, row.getD 0 0 % 3 + row.getD 1 0 % 2, some "b", some (row.getD 0 0 % 3)⟩) hqI2 rfl htI2
                have JI2 := I1.go sI2
                refine ⟨pl, _, _, rfl, rfl, JI2.at', JI2.fit (by omega), ?_⟩
                have I2 := JI2.push ltI2 ⟨okB, (by show (0 : Int) ≤ (k : Int); omega), (by show (k : Int) < size; omega), rfl, fun z => (nomatch z), (by show (0 : Int) ≤ row.getD 0 0 % 3 + row.getD 1 0 % 2; omega), (by show row.getD 0 0 % 3 + row.getD 1 0 % 2 < (4 : Int); omega)⟩
                walk_at "rs"
                exact ⟨_, _, I2.more (by omega), upd_row npd (sI2 _ _ (upd_row npd (sI1 _ _ hrow2)))⟩
              · walk_at "rs"
                refine ⟨.inl ⟨rfl, _, SqL.of I.at'⟩, ?_⟩
                walk_at "rs"
                refine ⟨(by show 5 ≤ sizeLine; decide), fun qI1 hqI1 => ?_⟩
                refine ⟨(by show 2 ≤ sizeLine; decide), fun tI1 htI1 => ?_⟩
                obtain ⟨ltI1, sI1⟩ := lt_new (w := (k : Int)) (m := ⟨.pre, 0, row.getD 0 0 % 3 + row.getD 1 0 % 2, some "b", none⟩) hqI1 rfl htI1
                have JI1 := I.go sI1
                refine ⟨pl, _, _, rfl, rfl, JI1.at', JI1.fit (by omega), ?_⟩
                have I1 := JI1.push ltI1 ⟨okB, (by show (0 : Int) ≤ (k : Int); omega), (by show (k : Int) < size; omega), rfl, fun z => (nomatch z), (by show (0 : Int) ≤ row.getD 0 0 % 3 + row.getD 1 0 % 2; omega), (by show row.getD 0 0 % 3 + row.getD 1 0 % 2 < (4 : Int); omega)⟩
                walk_at "rs"
                exact ⟨_, _, I1.more (by omega), upd_row npd (sI1 _ _ hrow2)⟩
            · walk_at "rs"
              refine ⟨.inl ⟨rfl, _, SqL.of I.at'⟩, ?_⟩
              walk_at "rs"
              refine ⟨(by show 5 ≤ sizeLine; decide), fun qI1 hqI1 => ?_⟩
              refine ⟨(by show 2 ≤ sizeLine; decide), fun tI1 htI1 => ?_⟩
              obtain ⟨ltI1, sI1⟩ := lt_new (w := (k : Int)) (m := ⟨.pre, 0, row.getD 0 0 % 3 + row.getD 1 0 % 2, some "b", none⟩) hqI1 rfl htI1
              have JI1 := I.go sI1
              refine ⟨pl, _, _, rfl, rfl, JI1.at', JI1.fit (by omega), ?_⟩
              have I1 := JI1.push ltI1 ⟨okB, (by show (0 : Int) ≤ (k : Int); omega), (by show (k : Int) < size; omega), rfl, fun z => (nomatch z), (by show (0 : Int) ≤ row.getD 0 0 % 3 + row.getD 1 0 % 2; omega), (by show row.getD 0 0 % 3 + row.getD 1 0 % 2 < (4 : Int); omega)⟩
              walk_at "rs"
              exact ⟨_, _, I1.more (by omega), upd_row npd (sI1 _ _ hrow2)⟩
          · clear I hrow2
            rintro σ' H4 ⟨rfl, ps, xs, I, hrow2⟩
            walk_at "rs"
            refine ⟨.inl ⟨rfl, _, SqL.of I.at'⟩, ?_⟩
            walk_at "rs"
            refine ⟨(by show 4 ≤ sizeLine; decide), fun qI1 hqI1 => ?_⟩
            refine ⟨(by show 2 ≤ sizeLine; decide), fun tI1 htI1 => ?_⟩
            obtain ⟨ltI1, sI1⟩ := lt_new (w := (k : Int)) (m := ⟨.com, 0, row.getD 0 0 % 3 + row.getD 1 0 % 2, some "b", none⟩) hqI1 rfl htI1
            have JI1 := I.go sI1
            refine ⟨pl, _, _, rfl, rfl, JI1.at', JI1.fit (by omega), ?_⟩
            have I1 := JI1.push ltI1 ⟨okB, (by show (0 : Int) ≤ (k : Int); omega), (by show (k : Int) < size; omega), rfl, fun z => (nomatch z), (by show (0 : Int) ≤ row.getD 0 0 % 3 + row.getD 1 0 % 2; omega), (by show row.getD 0 0 % 3 + row.getD 1 0 % 2 < (4 : Int); omega)⟩
            walk_at "rs"
            exact ⟨_, _, I1.more (by omega), upd_row npd (sI1 _ _ hrow2)⟩
        · exact ⟨_, rfl, _, _, I.more (by omega), hrow2⟩
    · rintro σ H2 ⟨v7, rfl, ps, xs, I, hrow2⟩
      walk_at "rs"
      exact kk pl ps xs H2 I.same I.at' I.ls I.few I.good I.free

theorem hu65 {k : Nat} {A : Around} (r : Room k A) : A.units + 65 < cLine := by
  have := r.un
  omega
theorem LsAt.app {H : Hp} {ps qs : List Addr} {xs ys : List Lt} (h : LsAt H ps xs) (e : LsAt H qs ys) : LsAt H (ps ++ qs) (xs ++ ys) := by
  refine ⟨by rw [List.length_append, List.length_append, h.1, e.1], fun i hi => ?_⟩
  rw [List.length_append] at hi
  rcases Nat.lt_or_ge i xs.length with z | z
  · rw [getD_left (by rw [h.1]; exact z), getD_left z]
    exact h.2 i z
  · have z' : ps.length ≤ i := by rw [h.1]; exact z
    rw [List.getD_eq_getElem?_getD, List.getD_eq_getElem?_getD, List.getElem?_append_right z', List.getElem?_append_right z, ← List.getD_eq_getElem?_getD, ← List.getD_eq_getElem?_getD, h.1]
    exact e.2 _ (by omega)
theorem good_pos {ws : List Int} (gw : GoodW ws) (k : Nat) : 0 ≤ ws.getD k 0 := by
  rcases Nat.lt_or_ge k ws.length with h | h
  · have := gw.2.2 _ (getD_mem h)
    omega
  · rw [List.getD_eq_getElem?_getD, List.getElem?_eq_none h]
    exact Int.le_refl _
/-- the committed blocks that were found -/
def ComOk (ws : List Int) (xs : List Lt) (co : List Str) : Prop := co.Nodup ∧ ∀ b ∈ co, (b = "a" ∨ b = "b") ∧ ∃ t : Nat, commM ws xs 0 (some b) t = true
theorem ComOk.nil {ws : List Int} {xs : List Lt} : ComOk ws xs [] := ⟨List.nodup_nil, fun b h => nomatch h⟩
theorem ComOk.few {ws : List Int} {xs : List Lt} : ∀ {co : List Str}, ComOk ws xs co → co.length ≤ 2
  | [], _ => by decide
  | [x], _ => by show 1 ≤ 2; decide
  | [x, y], _ => Nat.le_refl _
  | x :: y :: z :: r, c => by
    exfalso
    have nd := c.1
    simp only [List.nodup_cons, List.mem_cons, not_or] at nd
    have hx := (c.2 x (by simp)).1
    have hy := (c.2 y (by simp)).1
    have hz := (c.2 z (by simp)).1
    rcases hx with rfl | rfl
    · rcases hy with rfl | rfl
      · exact nd.1.1 rfl
      · rcases hz with rfl | rfl
        · exact nd.1.2.1 rfl
        · exact nd.2.1.1 rfl
    · rcases hy with rfl | rfl
      · rcases hz with rfl | rfl
        · exact nd.2.1.1 rfl
        · exact nd.1.2.1 rfl
      · exact nd.1.1 rfl
theorem ComOk.snoc {ws : List Int} {xs : List Lt} {co : List Str} {b : Str} (c : ComOk ws xs co) (n : b ∉ co) (hb : b = "a" ∨ b = "b") (h : ∃ t : Nat, commM ws xs 0 (some b) t = true) : ComOk ws xs (co ++ [b]) := by
  refine ⟨List.nodup_append.mpr ⟨c.1, List.nodup_cons.mpr ⟨fun h => (nomatch h), List.nodup_nil⟩, fun x hx y hy e => ?_⟩, fun x hx => ?_⟩
  · rw [List.mem_singleton.mp hy] at e
    exact n (e ▸ hx)
  · rcases List.mem_append.mp hx with hx | hx
    · exact c.2 x hx
    · rw [List.mem_singleton.mp hx]
      exact ⟨hb, h⟩
theorem flat_strs : ∀ co : List Str, (co.map V.str).all flatV = true
  | [] => rfl
  | x :: co => by
    rw [List.map_cons, List.all_cons, flat_strs co]
    rfl
theorem inV_strs (b : Str) : ∀ co : List Str, inV (.str b) (co.map V.str) = decide (b ∈ co)
  | [] => by simp [inV]
  | x :: co => by
    have ih := inV_strs b co
    have e : inV (.str b) (V.str x :: co.map V.str) = (eqV (.str x) (.str b) || inV (.str b) (co.map V.str)) := rfl
    rw [List.map_cons, e, ih]
    show ((x == b) || decide (b ∈ co)) = _
    by_cases h : x = b
    · subst h
      rw [beq_self_eq_true, Bool.true_or, decide_eq_true List.mem_cons_self]
    · rw [beq_eq_false_iff_ne.mpr h, Bool.false_or]
      exact decide_eq_decide.mpr ⟨fun m => List.mem_cons_of_mem _ m, fun m => (List.mem_cons.mp m).resolve_left fun z => h z.symm⟩
theorem ComOk.two {ws : List Int} {xs : List Lt} {co : List Str} (pos : ∀ k : Nat, 0 ≤ ws.getD k 0) (c : ComOk ws xs co) (h : co.length = 2) : ws.sum < 3 * wOf ws (fnd xs ws.length) := by
  match co, h, c with
  | [b1, b2], _, c =>
    have ne : b1 ≠ b2 := by
      have := c.1
      simp at this
      exact this
    obtain ⟨_, t, h1⟩ := c.2 b1 List.mem_cons_self
    obtain ⟨_, u, h2⟩ := c.2 b2 (List.mem_cons_of_mem _ List.mem_cons_self)
    exact safety pos ne h1 h2
theorem ok_is_vote (T : Txt K mg a) : ∃ fd, FnOk P w K mg base CX0 1 a.d_is_vote fd ["statement"] (spVote K) ∧ Binds K fd ["statement"] [] := by
  obtain ⟨fd, F, b⟩ := T.d_is_vote.F
  refine ⟨fd, F.ok sc_is_vote (fun vs H Q E h => ?_) (fun cdv A outer s H vs Q E hr h => ?_), b⟩
  · obtain ⟨p, m, rfl, _⟩ := h
    rfl
  · obtain ⟨p, m, rfl, hp, k⟩ := h
    refine ⟨_, (pss_one (ps_ret (pe_cmpR op_in_seq (pe_ix ix_tup (pv 0) (pe_glob (v := (.int 0)) rfl T.c_KIND.choose_spec ⟨_, rfl⟩) (fun _ _ => rfl)) (pe_tup (pa_cons pe_str (pa_cons pe_str pa_nil))) (by rfl)))), ?_⟩
    refine ⟨_, rfl, p, _, _, _, rfl, rfl, SqT.of hp, at0 m, (by show 2 ≤ sizeLine; decide), fun t ht => ?_⟩
    refine ⟨t, _, rfl, .inr (SqT.of upd_same), rfl, rfl, ?_⟩
    have e : inV (V.str m.k.s) [V.str "prevote", V.str "precommit"] = decide (m.k ≠ .prop) := by
      cases hk : m.k <;> decide +kernel
    show Q (.bl (inV (V.str m.k.s) [V.str "prevote", V.str "precommit"])) _
    rw [e]
    exact k _ (same_new ht)
theorem ok_abandons (T : Txt K mg a) : ∃ fd, FnOk P w K mg base CX0 1 a.d_abandons fd ["one", "other"] (spAband K) ∧ Binds K fd ["one", "other"] [] := by
  obtain ⟨fd, F, b⟩ := T.d_abandons.F
  refine ⟨fd, F.ok sc_abandons (fun vs H Q E h => ?_) (fun cdv A outer s H vs Q E hr h => ?_), b⟩
  · obtain ⟨_, _, _, _, rfl, _⟩ := h
    rfl
  · obtain ⟨p, q, m, n, rfl, hp, hq, k⟩ := h
    have k0 : Q (.bl (abandM m n)) H := k _ (Same.refl H)
    refine ⟨_, (pss_cons (ps_if (PW.pt (pw_or (pt_cmpR op_ne (pe_ix ix_tup (pv 0) (pe_glob (v := (.int 0)) rfl T.c_KIND.choose_spec ⟨_, rfl⟩) (fun _ _ => rfl)) pe_str (nomark _)) (pw_or1 (pt_cmpR op_ne (pe_ix ix_tup (pv 1) (pe_glob (v := (.int 0)) rfl T.c_KIND.choose_spec ⟨_, rfl⟩) (fun _ _ => rfl)) pe_str (nomark _)))))
      (pss_one (ps_ret pe_bl))
      pss_nil)
      (pss_cons (ps_if (PW.pt (pw_or (pt_cmpR op_isN (pe_ix ix_tup (pv 0) (pe_glob (v := (.int 3)) rfl T.c_BLOCK.choose_spec ⟨_, rfl⟩) (fun _ _ => rfl)) pe_non (nomark _)) (pw_or1 (pt_cmpR op_isN (pe_ix ix_tup (pv 1) (pe_glob (v := (.int 3)) rfl T.c_BLOCK.choose_spec ⟨_, rfl⟩) (fun _ _ => rfl)) pe_non (nomark _)))))
      (pss_one (ps_ret pe_bl))
      pss_nil)
      (pss_cons (ps_if (PW.pt (pw_or (pt_cmpR op_eq (pe_ix ix_tup (pv 0) (pe_glob (v := (.int 3)) rfl T.c_BLOCK.choose_spec ⟨_, rfl⟩) (fun _ _ => rfl)) (pe_ix ix_tup (pv 1) (pe_glob (v := (.int 3)) rfl T.c_BLOCK.choose_spec ⟨_, rfl⟩) (fun _ _ => rfl)) (nomark _)) (pw_or1 (pt_cmpR op_ge (pe_ix ix_tup (pv 0) (pe_glob (v := (.int 2)) rfl T.c_TURN.choose_spec ⟨_, rfl⟩) (fun _ _ => rfl)) (pe_ix ix_tup (pv 1) (pe_glob (v := (.int 2)) rfl T.c_TURN.choose_spec ⟨_, rfl⟩) (fun _ _ => rfl)) (nomark _)))))
      (pss_one (ps_ret pe_bl))
      pss_nil)
      (pss_one (ps_ret (pe_or (pe_cmpR op_isN (pe_ix ix_tup (pv 1) (pe_glob (v := (.int 4)) rfl T.c_LEAN.choose_spec ⟨_, rfl⟩) (fun _ _ => rfl)) pe_non (nomark _)) (pe_one (pe_cmpR op_lt (pe_ix ix_tup (pv 1) (pe_glob (v := (.int 4)) rfl T.c_LEAN.choose_spec ⟨_, rfl⟩) (fun _ _ => rfl)) (pe_ix ix_tup (pv 0) (pe_glob (v := (.int 2)) rfl T.c_TURN.choose_spec ⟨_, rfl⟩) (fun _ _ => rfl)) (nomark _))))))))), ?_⟩
    walk_at "rs"
    refine ite2 (fun c1 => ?_) (fun c1 => ?_) <;> simp only [kcom, Bool.not_eq_true', decide_eq_false_iff_not, decide_eq_true_iff, Decidable.not_not] at c1
    · rw [show abandM m n = false from if_neg (fun z => c1 z.1)] at k0
      exact k0
    walk_at "rs"
    refine ite2 (fun c2 => ?_) (fun c2 => ?_) <;> simp only [kpre, Bool.not_eq_true', decide_eq_false_iff_not, decide_eq_true_iff, Decidable.not_not] at c2
    · rw [show abandM m n = false from if_neg (fun z => c2 z.2.1)] at k0
      exact k0
    walk_at "rs"
    refine ite2 (fun c3 => ?_) (fun c3 => ?_) <;> simp only [koSn, decide_eq_true_iff] at c3
    · rw [show abandM m n = false from if_neg (fun z => z.2.2.1 c3)] at k0
      exact k0
    walk_at "rs"
    refine ite2 (fun c4 => ?_) (fun c4 => ?_) <;> simp only [koSn, decide_eq_true_iff] at c4
    · rw [show abandM m n = false from if_neg (fun z => z.2.2.2.1 c4)] at k0
      exact k0
    walk_at "rs"
    refine ite2 (fun c5 => ?_) (fun c5 => ?_) <;> simp only [koS, decide_eq_true_iff] at c5
    · rw [show abandM m n = false from if_neg (fun z => z.2.2.2.2.1 c5)] at k0
      exact k0
    walk_at "rs"
    refine ite2 (fun c6 => ?_) (fun c6 => ?_) <;> simp only [decide_eq_true_iff] at c6
    · rw [show abandM m n = false from if_neg (fun z => by have := z.2.2.2.2.2; omega)] at k0
      exact k0
    have e : abandM m n = (match n.l with | none => true | some l => decide (l < m.t)) := if_pos ⟨c1, c2, c3, c4, c5, by omega⟩
    rw [e] at k0
    clear e
    walk_at "rs"
    refine ite2 (fun c7 => ?_) (fun c7 => ?_) <;> simp only [koIn, decide_eq_true_iff] at c7
    · rw [c7] at k0
      exact k0
    · cases hnl : n.l with
      | none => exact absurd hnl c7
      | some l =>
        rw [hnl] at k0
        refine ⟨_, rfl, _, _, _, _, rfl, rfl, SqT.of hq, (at4 n c2).trans (by rw [hnl]), ?_⟩
        walk_at "rs"
        exact k0
theorem ok_clash (T : Txt K mg a) : ∃ fd, FnOk P w K mg base CX0 2 a.d_clash fd ["one", "other"] (spClash K) ∧ Binds K fd ["one", "other"] [] := by
  obtain ⟨fd, F, b⟩ := T.d_clash.F
  obtain ⟨fd_abandons, G_abandons, b_abandons⟩ := ok_abandons (P := P) (w := w) (base := base) T
  obtain ⟨fd_is_vote, G_is_vote, b_is_vote⟩ := ok_is_vote (P := P) (w := w) (base := base) T
  refine ⟨fd, F.ok sc_clash (fun vs H Q E h => ?_) (fun cdv A outer s H vs Q E hr h => ?_), b⟩
  · obtain ⟨_, _, _, _, rfl, _⟩ := h
    rfl
  · obtain ⟨p, q, m, n, rfl, hp, hq, k⟩ := h
    refine ⟨_, (pss_cons (ps_if (pt_cmpR op_ne (pe_ix ix_tup (pv 0) (pe_glob (v := (.int 1)) rfl T.c_HEIGHT.choose_spec ⟨_, rfl⟩) (fun _ _ => rfl)) (pe_ix ix_tup (pv 1) (pe_glob (v := (.int 1)) rfl T.c_HEIGHT.choose_spec ⟨_, rfl⟩) (fun _ _ => rfl)) (nomark _))
      (pss_one (ps_ret pe_bl))
      pss_nil)
      (pss_cons (ps_if (pt_cmpR op_eq (pe_ix ix_tup (pv 0) (pe_glob (v := (.int 0)) rfl T.c_KIND.choose_spec ⟨_, rfl⟩) (fun _ _ => rfl)) (pe_ix ix_tup (pv 1) (pe_glob (v := (.int 0)) rfl T.c_KIND.choose_spec ⟨_, rfl⟩) (fun _ _ => rfl)) (nomark _))
      (pss_one (ps_ret (pe_and (pe_call G_is_vote (hr.mono (by decide)) rfl T.d_is_vote.g T.d_is_vote.kp b_is_vote .nil pass0 (pa_cons (pv 0) pa_nil)) (pe_and (pe_cmpR op_eq (pe_ix ix_tup (pv 0) (pe_glob (v := (.int 2)) rfl T.c_TURN.choose_spec ⟨_, rfl⟩) (fun _ _ => rfl)) (pe_ix ix_tup (pv 1) (pe_glob (v := (.int 2)) rfl T.c_TURN.choose_spec ⟨_, rfl⟩) (fun _ _ => rfl)) (nomark _)) (pe_one (pe_cmpR op_ne (pe_ix ix_tup (pv 0) (pe_glob (v := (.int 3)) rfl T.c_BLOCK.choose_spec ⟨_, rfl⟩) (fun _ _ => rfl)) (pe_ix ix_tup (pv 1) (pe_glob (v := (.int 3)) rfl T.c_BLOCK.choose_spec ⟨_, rfl⟩) (fun _ _ => rfl)) (nomark _)))))))
      pss_nil)
      (pss_one (ps_ret (pe_or (pe_call G_abandons (hr.mono (by decide)) rfl T.d_abandons.g T.d_abandons.kp b_abandons .nil pass0 (pa_cons (pv 0) (pa_cons (pv 1) pa_nil))) (pe_one (pe_call G_abandons (hr.mono (by decide)) rfl T.d_abandons.g T.d_abandons.kp b_abandons .nil pass0 (pa_cons (pv 1) (pa_cons (pv 0) pa_nil))))))))), ?_⟩
    unfold clashM at k
    walk_at "rs"
    refine ite2 (fun c1 => ?_) (fun c1 => ?_) <;> simp only [dec_int, Bool.not_eq_true', beq_eq_false_iff_ne, Bool.not_eq_false', Bool.not_eq_true, beq_iff_eq, ne_eq, Decidable.not_not] at c1
    · rw [if_pos c1] at k
      exact k _ (Same.refl H)
    rw [if_neg (fun z => z c1)] at k
    walk_at "rs"
    refine ite2 (fun c2 => ?_) (fun c2 => ?_) <;> simp only [dec_kd, decide_eq_true_iff] at c2
    · rw [if_pos c2] at k
      walk_at "rs"
      refine ⟨p, m, rfl, hp, fun H' s1 => ?_⟩
      have hp' : SmAt H' p m := s1 _ _ hp
      have hq' : SmAt H' q n := s1 _ _ hq
      walk_at "rs"
      refine ite2 (fun c3 => ?_) (fun c3 => ?_)
      · rw [c3, Bool.true_and] at k
        walk_at "rs"
        refine ite2 (fun c4 => ?_) (fun c4 => ?_) <;> simp only [dec_int, beq_iff_eq] at c4
        · rw [decide_eq_true c4, Bool.true_and] at k
          walk_at "rs"
          have k' := k H' s1
          rw [show decide (m.b ≠ n.b) = (!decide (oS m.b = oS n.b)) by rw [dec_oS, decide_not]] at k'
          exact k'
        · rw [decide_eq_false c4, Bool.false_and] at k
          exact k H' s1
      · rw [Bool.eq_false_iff.mpr c3, Bool.false_and] at k
        exact k H' s1
    · rw [if_neg c2] at k
      walk_at "rs"
      refine ⟨p, q, m, n, rfl, hp, hq, fun H' s1 => ?_⟩
      have hp' : SmAt H' p m := s1 _ _ hp
      have hq' : SmAt H' q n := s1 _ _ hq
      walk_at "rs"
      refine ite2 (fun c3 => ?_) (fun c3 => ?_)
      · rw [c3, Bool.true_or] at k
        exact k H' s1
      · rw [Bool.eq_false_iff.mpr c3, Bool.false_or] at k
        walk_at "rs"
        exact ⟨q, p, n, m, rfl, hq', hp', fun H2 s2 => k H2 (s1.trans s2)⟩

theorem ok_Charge_init (T : Txt K mg a) : ∃ fd, FnOk P w K mg base CX0 1 a.d_Charge_init fd ["self", "who", "first", "second"] (spChI K a.C_Charge) ∧ Binds K fd ["self", "who", "first", "second"] [] := by
  obtain ⟨fd, F, b⟩ := T.d_Charge_init.F
  refine ⟨fd, F.ok sc_Charge_init (fun vs H Q E h => ?_) (fun cdv A outer s H vs Q E hr h => ?_), b⟩
  · obtain ⟨_, _, _, _, _, rfl, _⟩ := h
    rfl
  · obtain ⟨p, dx, who, a1, b1, rfl, hp, k⟩ := h
    refine ⟨_, (pss_cons (ps_fld (pv 0) (pv 1) rfl)
      (pss_cons (ps_fld (pv 0) (pv 2) rfl)
      (pss_one (ps_fld (pv 0) (pv 3) rfl)))), ?_⟩
    walk_at "rs"
    refine ⟨p, _, dx, [], rfl, hp, T.cl_Charge, T.a_Charge_who, (by show 0 < 1000; decide), ?_⟩
    walk_at "rs"
    refine ⟨p, _, dx, _, rfl, upd_same, T.cl_Charge, T.a_Charge_first, (by show 1 < 1000; decide), ?_⟩
    rw [upd_upd]
    walk_at "rs"
    refine ⟨p, _, dx, _, rfl, upd_same, T.cl_Charge, T.a_Charge_second, (Nat.lt_of_le_of_lt (length_putF _ _ _) (Nat.lt_of_le_of_lt (Nat.add_le_add_right (length_putF _ _ _) 1) (by show 2 < 1000; decide))), ?_⟩
    rw [upd_upd]
    exact k _ upd_same fun b o e hb => by
      rw [upd_ne hb]
      exact e
theorem ok_first_clash (T : Txt K mg a) : ∃ fd, FnOk P w K mg base CX0 3 a.d_first_clash fd ["earlier", "letter"] (spFc K) ∧ Binds K fd ["earlier", "letter"] [] := by
  obtain ⟨fd, F, b⟩ := T.d_first_clash.F
  obtain ⟨fd_clash, G_clash, b_clash⟩ := ok_clash (P := P) (w := w) (base := base) T
  refine ⟨fd, F.ok sc_first_clash (fun vs H Q E h => ?_) (fun cdv A outer s H vs Q E hr h => ?_), b⟩
  · obtain ⟨_, _, _, _, _, rfl, _⟩ := h
    rfl
  · obtain ⟨l, p, qs, own, x, rfl, hl, hq, hx, k⟩ := h
    obtain ⟨px, hpx, hmx⟩ := id hx
    refine ⟨_, (pss_cons (ps_for PassesOwn.never rfl (pi_list (pv 0)) (pg_name (i := 2) sc_first_clash.nd rfl (Or.inl rfl))
      (pss_one (ps_if (pt_val (pe_call G_clash (hr.mono (by decide)) rfl T.d_clash.g T.d_clash.kp b_clash .nil pass0 (pa_cons (pe_ix ix_tup (pv 2) pe_int (fun _ _ => rfl)) (pa_cons (pe_ix ix_tup (pv 1) pe_int (fun _ _ => rfl)) pa_nil))))
        (pss_one (ps_ret (pv 2)))
        pss_nil)))
      (pss_one (ps_ret pe_non))), ?_⟩
    walk_at "rs"
    refine ⟨⟨_, SqL.of hl⟩, for_list (K := K) (a := l) (xs := qs.map V.ref) (fun i σ H2 => ∃ v2 : Option V, σ = [some (.ref l), some (.ref p), v2] ∧ Same H H2 ∧ ∀ j, j < i → clashM (own.getD j default).m x.m = false) ⟨_, rfl, Same.refl H, fun j h => absurd h (Nat.not_lt_zero _)⟩ (fun i σ H2 _ ⟨_, _, s2, _⟩ => SqL.of (s2 _ _ hl)) ?_ ?_⟩
    · rintro i y σ H2 hy ⟨v2, rfl, s2, hno⟩
      have hi : i < qs.length := by
        have e := (List.getElem?_eq_some_iff.mp hy).1
        rwa [List.length_map] at e
      have hi' : i < own.length := by
        rw [← hq.1]
        exact hi
      rw [at_refs hi] at hy
      cases hy
      have hli := (hq.2 i hi').same s2
      obtain ⟨pi, hpi, hmi⟩ := id hli
      walk_at "rs"
      refine ⟨_, _, _, _, rfl, rfl, SqT.of hpi, rfl, ?_⟩
      walk_at "rs"
      refine ⟨_, _, _, _, rfl, rfl, SqT.of (s2 _ _ hpx), rfl, ?_⟩
      walk_at "rs"
      refine ⟨pi, px, _, _, rfl, hmi, s2 _ _ hmx, fun H5 s5 => ?_⟩
      walk_at "rs"
      refine ite2 (fun c1 => ?_) (fun c1 => ?_)
      · walk_at "rs"
        exact k _ _ (s2.trans s5) (.inr ⟨i, hi', rfl, c1, hno⟩)
      · refine ⟨_, rfl, s2.trans s5, fun j hj => ?_⟩
        rcases Nat.lt_or_ge j i with z | z
        · exact hno j z
        · have : j = i := by omega
          rw [this]
          simpa using c1
    · rintro σ H2 ⟨v2, rfl, s2, hno⟩
      walk_at "rs"
      exact k _ _ s2 (.inl ⟨rfl, fun j hj => hno j (by rw [List.length_map, hq.1]; exact hj)⟩)
theorem ok_charge_of (T : Txt K mg a) : ∃ fd, FnOk P w K mg base CX0 4 a.d_charge_of fd ["letters", "who"] (spCof K a.C_Charge) ∧ Binds K fd ["letters", "who"] [] := by
  obtain ⟨fd, F, b⟩ := T.d_charge_of.F
  obtain ⟨fd_first_clash, G_first_clash, b_first_clash⟩ := ok_first_clash (P := P) (w := w) (base := base) T
  obtain ⟨fd_Charge_init, G_Charge_init, b_Charge_init⟩ := ok_Charge_init (P := P) (w := w) (base := base) T
  refine ⟨fd, F.ok sc_charge_of (fun vs H Q E h => ?_) (fun cdv A outer s H vs Q E hr h => ?_), b⟩
  · obtain ⟨_, _, _, _, rfl, _⟩ := h
    rfl
  · obtain ⟨l, who, ps, xs, rfl, hl, hx, few, k⟩ := h
    refine ⟨_, (pss_cons (ps_set (i := 2) sc_charge_of.nd rfl (Or.inl rfl) (pe_lst pa_nil))
      (pss_cons (ps_for PassesOwn.never rfl (pi_list (pv 0)) (pg_name (i := 3) sc_charge_of.nd rfl (Or.inl rfl))
      (pss_one (ps_if (pt_cmpR op_eq (pe_ix ix_tup (pv 3) pe_int (fun _ _ => rfl)) (pv 1) (nomark _))
        (pss_cons (ps_set (i := 4) sc_charge_of.nd rfl (Or.inl rfl) (pe_call G_first_clash (hr.mono (by decide)) rfl T.d_first_clash.g T.d_first_clash.kp b_first_clash .nil pass0 (pa_cons (pv 2) (pa_cons (pv 3) pa_nil))))
          (pss_cons (ps_if (pt_cmpR op_notN (pv 4) pe_non (nomark _))
          (pss_one (ps_ret (pe_make T.m_Charge G_Charge_init (hr.mono (by decide)) (by rfl) T.g_Charge b_Charge_init .nil pass0 (pa_cons (pv 1) (pa_cons (pv 4) (pa_cons (pv 3) pa_nil))))))
          pss_nil)
          (pss_one (ps_expr (pe_bm PySem.F.plainAttrs_list PySem.F.slot_list_append PySem.F.type_list_append mt_append (pv 2) (pa_cons (pv 3) pa_nil))))))
        pss_nil)))
      (pss_one (ps_ret pe_non)))), ?_⟩
    walk_at "rs"
    refine ⟨(by show 0 ≤ sizeLine; decide), fun D hD => ?_⟩
    walk_at "rs"
    have s0 : Same H (upd H D (.lst [])) := same_new hD
    refine ⟨⟨_, SqL.of (s0 _ _ hl)⟩, for_list (K := K) (a := l) (xs := ps.map V.ref) (fun i σ H2 => ∃ v3 v4 : Option V, σ = [some (.ref l), some (.int who), some (.ref D), v3, v4] ∧ Same H H2 ∧ ∃ qs, H2 D = some (.lst (qs.map V.ref)) ∧ LsAt H2 qs (ownOf (xs.take i) who) ∧ due (ownOf (xs.take i) who) = none)
      ⟨_, _, rfl, s0, [], upd_same, LsAt.nil, rfl⟩ (fun i σ H2 _ ⟨_, _, _, s2, _⟩ => SqL.of (s2 _ _ hl)) ?_ ?_⟩
    · rintro i y σ H2 hy ⟨v3, v4, rfl, s2, qs, hd, hqs, hdue⟩
      have hi : i < ps.length := by
        have e := (List.getElem?_eq_some_iff.mp hy).1
        rwa [List.length_map] at e
      have hi' : i < xs.length := by
        rw [← hx.1]
        exact hi
      rw [at_refs hi] at hy
      cases hy
      have hlt := (hx.2 i hi').same s2
      obtain ⟨q, hp, hq⟩ := id hlt
      have ql : qs.length ≤ 900 := by
        have := own_len (xs.take i) who
        rw [hqs.1]
        rw [List.length_take] at this
        omega
      walk_at "rs"
      refine ⟨_, _, _, _, rfl, rfl, SqT.of hp, rfl, ?_⟩
      walk_at "rs"
      refine ite2 (fun c1 => ?_) (fun c1 => ?_) <;> simp only [dec_int, beq_iff_eq] at c1
      · walk_at "rs"
        refine ⟨D, _, qs, _, _, rfl, hd, hqs, hlt, fun v H3 s3 hv => ?_⟩
        have hd3 := s3 _ _ hd
        have hqs3 := hqs.same s3
        have hlt3 := hlt.same s3
        rcases hv with ⟨rfl, hno⟩ | ⟨j, hj, rfl, hc, hno⟩
        · walk_at "rs"
          refine ⟨.inl ⟨rfl, _, SqL.of hd3⟩, ?_⟩
          walk_at "rs"
          refine ⟨D, _, _, rfl, rfl, hd3, by rw [List.length_map]; exact small1000 (by omega), ?_⟩
          refine ⟨_, _, rfl, same_upd (s2.trans s3) hD, qs ++ [ps.getD i 0], by rw [upd_same]; simp, ?_, ?_⟩
          · rw [own_yes hi' c1]
            exact (hqs3.snoc hlt3).upd hd3
          · rw [own_yes hi' c1]
            exact due_snoc_no hdue hno
        · walk_at "rs"
          intro y1 dy1 nx1 ndx1 nex1
          refine ⟨y1, dy1, who, _, _, rfl, upd_same, fun J1 hc1 kp1 => ⟨rfl, ?_⟩⟩
          have sm1 : Same H3 J1 := Same.made nx1 ndx1 kp1
          have e : due (ownOf xs who) = some ((ownOf (xs.take i) who).getD j default, xs.getD i default) := by
            rw [own_split xs who (i + 1)]
            refine due_app ?_
            rw [own_yes hi' c1]
            exact due_snoc_yes hdue hj hc hno
          refine k _ _ ((s2.trans s3).trans sm1) ?_
          rw [e]
          exact ⟨y1, dy1, _, _, rfl, hc1, (hqs3.2 j hj).same sm1, hlt3.same sm1⟩
      · exact ⟨_, _, rfl, s2, qs, hd, by rw [own_no hi' c1]; exact hqs, by rw [own_no hi' c1]; exact hdue⟩
    · rintro σ H2 ⟨v3, v4, rfl, s2, qs, hd, hqs, hdue⟩
      rw [List.length_map, hx.1, List.take_length] at hdue
      walk_at "rs"
      refine k _ _ s2 ?_
      rw [hdue]
      rfl
theorem at_vals {vs : List V} {i : Nat} (h : i < vs.length) : vs[i]? = some (vs.getD i .non) := by
  rw [List.getD_eq_getElem?_getD, List.getElem?_eq_getElem h]
  rfl
theorem ChAt.upd {C : Addr} {H : Hp} {v : V} {who : Int} {r : Option (Lt × Lt)} {l : Addr} {ys : List V} {o : HO} (h : ChAt C H v who r) (hl : H l = some (.lst ys)) : ChAt C (upd H l o) v who r := by
  cases r with
  | none => exact h
  | some r =>
    obtain ⟨p, dx, a, b, e, h1, h2, h3⟩ := h
    refine ⟨p, dx, a, b, e, ?_, h2.upd hl, h3.upd hl⟩
    rw [upd_ne (fun z => by rw [z, hl] at h1; cases h1)]
    exact h1
theorem ok_charges (T : Txt K mg a) : ∃ fd, FnOk P w K mg base CX0 5 a.d_charges fd ["committee", "letters"] (spCharges K a.C_Committee a.C_Charge) ∧ Binds K fd ["committee", "letters"] [] := by
  obtain ⟨fd, F, b⟩ := T.d_charges.F
  obtain ⟨fd_charge_of, G_charge_of, b_charge_of⟩ := ok_charge_of (P := P) (w := w) (base := base) T
  refine ⟨fd, F.ok sc_charges (fun vs H Q E h => ?_) (fun cdv A outer s H vs Q E hr h => ?_), b⟩
  · obtain ⟨_, _, _, _, _, rfl, _⟩ := h
    rfl
  · obtain ⟨c, l, ws, ps, xs, rfl, hc, hw, hl, hx, few, k⟩ := h
    obtain ⟨dx, t, hcp, hct⟩ := id hc
    refine ⟨_, (pss_cons (ps_setLc (i := 2) (own := [("who", 3)]) (g := (gName 3)) (tt := tYes) rfl sc_charges.nd rfl rfl (sw_true rfl rfl rfl (by decide +kernel)) (pi_range1 rfl T.n_range (pa_cons (pe_fld (pv 0) rfl) pa_nil)) (blkOk_by (own := [("who", 3)]) (N := sc_charges_N) (sc := defScope s_charges) (by decide +kernel)) (fun _ _ _ _ _ => (pg_name (i := 3) sc_charges.nd rfl (Or.inl rfl))) (fun _ _ _ _ _ => pts_nil) (fun _ _ _ _ _ => (pe_call G_charge_of (hr.mono (by decide)) rfl T.d_charge_of.g T.d_charge_of.kp b_charge_of .nil pass0 (pa_cons (pv 1) (pa_cons (pv 3) pa_nil)))))
      (pss_one (ps_ret (pe_lc (own := [("charge", 4)]) (g := (gName 4)) rfl sc_charges.nd (pi_list (pv 2)) (blkOk_by (own := [("charge", 4)]) (N := sc_charges_N) (sc := defScope s_charges) (by decide +kernel)) (fun _ _ _ _ _ => (pg_name (i := 4) sc_charges.nd rfl (Or.inl rfl))) (fun _ _ _ _ _ => (pts_one (pt_cmpR op_notN (pv 4) pe_non (nomark _)))) (fun _ _ _ _ _ => (pv 4)))))), ?_⟩
    walk_at "rs"
    refine ⟨c, _, dx, _, .int ws.length, rfl, hcp, T.cl_Committee, T.a_Committee_size, cfs_s _ _, ?_⟩
    walk_at "rs"
    refine ⟨(by show -(2 ^ 62 : Int) ≤ _; omega), (by show _ < (2 ^ 62 : Int); omega), fun D hD => ?_⟩
    refine lc_range (lo := 0) (n := ((ws.length : Int)).toNat) (fun i H2 => Same H H2 ∧ ∃ vs : List V, H2 D = some (.lst vs) ∧ vs.length = i ∧ ∀ j, j < i → ChAt a.C_Charge H2 (vs.getD j .non) (j : Int) (due (ownOf xs (j : Int)))) ⟨same_new hD, [], upd_same, rfl, fun j hj => absurd hj (Nat.not_lt_zero _)⟩ ?_ ?_
    · rintro i H2 hi ⟨s2, vs, hd, hv, hch⟩
      have e0 : (0 : Int) + (i : Int) = (i : Int) := Int.zero_add _
      rw [e0]
      refine ⟨rfl, ?_⟩
      walk_at "rs"
      refine ⟨l, _, ps, xs, rfl, s2 _ _ hl, hx.same s2, few, fun v H3 s3 hv3 => ?_⟩
      have hd3 := s3 _ _ hd
      refine ⟨_, hd3, by rw [hv]; exact small1000 (by omega), same_upd (s2.trans s3) hD, vs ++ [v], upd_same, by rw [List.length_append, hv]; rfl, fun j hj => ?_⟩
      rcases Nat.lt_or_ge j i with z | z
      · rw [getD_left (by omega)]
        exact ((hch j z).same s3).upd hd3
      · have ej : j = i := by omega
        subst ej
        have : (vs ++ [v]).getD j V.non = v := by rw [← hv, getD_last]
        rw [this]
        exact hv3.upd hd3
    · rintro H2 ⟨s2, vs, hd, hv, hch⟩
      rw [Int.toNat_natCast] at hv hch
      walk_at "rs"
      refine ⟨⟨_, SqL.of hd⟩, fun D2 hD2 => ?_⟩
      have s02 := same_new (o := .lst []) hD2
      refine lc_list (K := K) (a := D) (xs := vs) (fun i H3 => Same H2 H3 ∧ ∃ cs : List Addr, H3 D2 = some (.lst (cs.map V.ref)) ∧ cs.length = (fnd xs i).length ∧ ∀ j, j < cs.length → ChAt a.C_Charge H3 (.ref (cs.getD j 0)) ((fnd xs i).getD j 0) (due (ownOf xs ((fnd xs i).getD j 0)))) ⟨s02, [], upd_same, rfl, fun j hj => absurd hj (Nat.not_lt_zero _)⟩ (fun i H3 _ ⟨s3, _⟩ => SqL.of (s3 _ _ hd)) ?_ ?_
      · rintro i y H3 hy ⟨s3, cs, hd3, hcs, hch3⟩
        have hi : i < vs.length := (List.getElem?_eq_some_iff.mp hy).1
        rw [at_vals hi] at hy
        cases hy
        have hci := (hch i (by omega)).same s3
        have fl := fnd_len xs i
        refine ⟨rfl, ?_⟩
        walk_at "rs"
        generalize ed : due (ownOf xs (i : Int)) = r at hci
        generalize vs.getD i V.non = v at hci ⊢
        cases r with
        | none =>
          cases (show v = .non from hci)
          walk_at "rs"
          refine ⟨s3, cs, hd3, by rw [fnd_no ed]; exact hcs, ?_⟩
          rw [fnd_no ed]
          exact hch3
        | some r =>
          have hci2 := hci
          obtain ⟨pd, dd, ad, bd, rfl, _⟩ := hci2
          walk_at "rs"
          refine ⟨_, hd3, by rw [List.length_map]; exact small1000 (by omega), same_upd s3 hD2, cs ++ [pd], by rw [upd_same]; simp, by rw [fnd_yes ed, List.length_append, List.length_append, hcs]; rfl, fun j hj => ?_⟩
          rw [fnd_yes ed]
          rw [List.length_append, List.length_singleton] at hj
          rcases Nat.lt_or_ge j cs.length with z | z
          · rw [getD_left z, getD_left (by omega)]
            exact (hch3 j z).upd hd3
          · have ej : j = cs.length := by omega
            have e1 : (cs ++ [pd]).getD j 0 = pd := by rw [ej, getD_last]
            have e2 : (fnd xs i ++ [(i : Int)]).getD j 0 = (i : Int) := by rw [ej, hcs, getD_last]
            rw [e1, e2, ed]
            exact hci.upd hd3
      · rintro H3 ⟨s3, cs, hd3, hcs, hch3⟩
        rw [hv] at hcs hch3
        walk_at "rs"
        exact k D2 cs H3 (s2.trans s3) hd3 hcs hch3

theorem ok_law {f : Addr} {fd : FuncData} (F : Fun K "law" "law" s_law f fd) (T : Txt K mg a) : FnOk P w K mg base CX0 6 f fd ["script"] (spLaw K) := by
  obtain ⟨fd_law_weights, G_law_weights, b_law_weights⟩ := ok_law_weights (P := P) (w := w) (base := base) T
  obtain ⟨fd_law_planted, G_law_planted, b_law_planted⟩ := ok_law_planted (P := P) (w := w) (base := base) T
  obtain ⟨fd_charges, G_charges, b_charges⟩ := ok_charges (P := P) (w := w) (base := base) T
  obtain ⟨fd_law_cell, G_law_cell, b_law_cell⟩ := ok_law_cell (P := P) (w := w) (base := base) T
  obtain ⟨fd_law_letters, G_law_letters, b_law_letters⟩ := ok_law_letters (P := P) (w := w) (base := base) T
  obtain ⟨fd_Committee_init, G_Committee_init, b_Committee_init⟩ := ok_Committee_init (P := P) (w := w) (base := base) T
  obtain ⟨fd_law_clash, G_law_clash, b_law_clash⟩ := ok_law_clash (P := P) (w := w) (base := base) T
  obtain ⟨fd_law_committed, G_law_committed, b_law_committed⟩ := ok_law_committed (P := P) (w := w) (base := base) T
  obtain ⟨fd_law_weight, G_law_weight, b_law_weight⟩ := ok_law_weight (P := P) (w := w) (base := base) T
  refine F.ok sc_law (fun vs H Q E h => ?_) (fun cdv A outer s H vs Q E hr h => ?_)
  · obtain ⟨_, _, rfl, _⟩ := h
    rfl
  · obtain ⟨l, ns, rfl, hS, hl, k⟩ := h
    refine ⟨_, (pss_cons (ps_set (i := 1) sc_law.nd rfl (Or.inl rfl) (pe_call G_law_weights (hr.mono (by decide)) rfl T.d_law_weights.g T.d_law_weights.kp b_law_weights .nil pass0 (pa_cons (pe_call G_law_cell (hr.mono (by decide)) rfl T.d_law_cell.g T.d_law_cell.kp b_law_cell .nil pass0 (pa_cons (pv 0) (pa_cons pe_int pa_nil))) (pa_cons pe_int pa_nil))))
      (pss_cons (ps_set (i := 2) sc_law.nd rfl (Or.inl rfl) (pe_call G_law_planted (hr.mono (by decide)) rfl T.d_law_planted.g T.d_law_planted.kp b_law_planted .nil pass0 (pa_cons (pe_call G_law_cell (hr.mono (by decide)) rfl T.d_law_cell.g T.d_law_cell.kp b_law_cell .nil pass0 (pa_cons (pv 0) (pa_cons pe_int pa_nil))) (pa_cons (pe_callB call_len_seq (by rfl) T.n_len PySem.boot_len (pa_cons (pv 1) pa_nil)) pa_nil))))
      (pss_cons (ps_set (i := 2) sc_law.nd rfl (Or.inl rfl) (pe_op op_cat (pv 2) (pe_call G_law_letters (hr.mono (by decide)) rfl T.d_law_letters.g T.d_law_letters.kp b_law_letters .nil pass0 (pa_cons (pe_call G_law_cell (hr.mono (by decide)) rfl T.d_law_cell.g T.d_law_cell.kp b_law_cell .nil pass0 (pa_cons (pv 0) (pa_cons pe_int pa_nil))) (pa_cons (pe_op op_mod (pe_callTy call_int1 (by rfl) T.n_int (by decide +kernel) (pa_cons (pe_call G_law_cell (hr.mono (by decide)) rfl T.d_law_cell.g T.d_law_cell.kp b_law_cell .nil pass0 (pa_cons (pv 0) (pa_cons pe_int pa_nil))) pa_nil)) pe_int) (pa_cons (pe_callB call_len_seq (by rfl) T.n_len PySem.boot_len (pa_cons (pv 1) pa_nil)) pa_nil))))))
      (C8.pss_cut (ps_if (pt_cmpR op_eq (pe_op op_mod (pe_op op_fdiv (pe_call G_law_cell (hr.mono (by decide)) rfl T.d_law_cell.g T.d_law_cell.kp b_law_cell .nil pass0 (pa_cons (pv 0) (pa_cons pe_int pa_nil))) pe_int) pe_int) pe_int (nomark _))
      (pss_one (ps_set (i := 2) sc_law.nd rfl (Or.inl rfl) (pe_call G_law_letters (hr.mono (by decide)) rfl T.d_law_letters.g T.d_law_letters.kp b_law_letters .nil pass0 (pa_cons (pe_call G_law_cell (hr.mono (by decide)) rfl T.d_law_cell.g T.d_law_cell.kp b_law_cell .nil pass0 (pa_cons (pv 0) (pa_cons pe_int pa_nil))) (pa_cons pe_int (pa_cons (pe_callB call_len_seq (by rfl) T.n_len PySem.boot_len (pa_cons (pv 1) pa_nil)) pa_nil))))))
      pss_nil)
      (pss_cons (ps_set (i := 3) sc_law.nd rfl (Or.inl rfl) (pe_call G_charges (hr.mono (by decide)) rfl T.d_charges.g T.d_charges.kp b_charges .nil pass0 (pa_cons (pe_make T.m_Committee G_Committee_init (hr.mono (by decide)) (by rfl) T.g_Committee b_Committee_init .nil pass0 (pa_cons (pe_callTy call_list_of (by rfl) T.n_list (by decide +kernel) (pa_cons (pv 1) pa_nil)) pa_nil)) (pa_cons (pe_callTy call_list_of (by rfl) T.n_list (by decide +kernel) (pa_cons (pv 2) pa_nil)) pa_nil))))
      (pss_cons (ps_set (i := 4) sc_law.nd rfl (Or.inl rfl) (pe_lst pa_nil))
      (pss_cons (ps_for PassesOwn.never rfl (pi_list (pv 3)) (pg_name (i := 5) sc_law.nd rfl (Or.inl rfl))
      (pss_cons (ps_if (PW.pt (pw_or (pt_cmpR (op_notInD (hu65 hr)) (pe_fld (pv 5) rfl) (pv 2) (by rfl)) (pw_or (pt_cmpR (op_notInD (hu65 hr)) (pe_fld (pv 5) rfl) (pv 2) (by rfl)) (pw_or1 (pt_cmpR op_in_seq (pe_fld (pv 5) rfl) (pv 4) (by rfl))))))
        (pss_one (ps_ret pe_bl))
        pss_nil)
        (pss_cons (ps_if (PW.pt (pw_or (pt_cmpR op_ne (pe_ix ix_tup (pe_fld (pv 5) rfl) pe_int (fun _ _ => rfl)) (pe_fld (pv 5) rfl) (nomark _)) (pw_or1 (pt_cmpR op_ne (pe_ix ix_tup (pe_fld (pv 5) rfl) pe_int (fun _ _ => rfl)) (pe_fld (pv 5) rfl) (nomark _)))))
        (pss_one (ps_ret pe_bl))
        pss_nil)
        (pss_cons (ps_if (pt_not (pt_val (pe_call G_law_clash (hr.mono (by decide)) rfl T.d_law_clash.g T.d_law_clash.kp b_law_clash .nil pass0 (pa_cons (pe_ix ix_tup (pe_fld (pv 5) rfl) pe_int (fun _ _ => rfl)) (pa_cons (pe_ix ix_tup (pe_fld (pv 5) rfl) pe_int (fun _ _ => rfl)) pa_nil)))))
        (pss_one (ps_ret pe_bl))
        pss_nil)
        (pss_one (ps_expr (pe_bm PySem.F.plainAttrs_list PySem.F.slot_list_append PySem.F.type_list_append mt_append (pv 4) (pa_cons (pe_fld (pv 5) rfl) pa_nil))))))))
      (pss_cons (ps_set (i := 6) sc_law.nd rfl (Or.inl rfl) (pe_lst pa_nil))
      (pss_cons (ps_for PassesOwn.never rfl (pi_tup (pe_tup (pa_cons pe_str (pa_cons pe_str pa_nil)))) (pg_name (i := 7) sc_law.nd rfl (Or.inl rfl))
      (pss_one (ps_for PassesOwn.never rfl (pi_range1 rfl T.n_range (pa_cons pe_int pa_nil)) (pg_name (i := 8) sc_law.nd rfl (Or.inl rfl))
        (pss_one (ps_if (PW.pt (pw_and (pt_val (pe_call G_law_committed (hr.mono (by decide)) rfl T.d_law_committed.g T.d_law_committed.kp b_law_committed .nil pass0 (pa_cons (pv 1) (pa_cons (pv 2) (pa_cons pe_int (pa_cons (pv 8) (pa_cons (pv 7) pa_nil))))))) (pw_and1 (pt_cmpR op_notIn_seq (pv 7) (pv 6) (by rfl)))))
          (pss_one (ps_expr (pe_bm PySem.F.plainAttrs_list PySem.F.slot_list_append PySem.F.type_list_append mt_append (pv 6) (pa_cons (pv 7) pa_nil))))
          pss_nil)))))
      (pss_cons (ps_if (pt_cmpR op_eq (pe_callB call_len_seq (by rfl) T.n_len PySem.boot_len (pa_cons (pv 6) pa_nil)) pe_int (nomark _))
      (pss_one (ps_ret (pe_cmpR op_gt (pe_op op_mul pe_int (pe_call G_law_weight (hr.mono (by decide)) rfl T.d_law_weight.g T.d_law_weight.kp b_law_weight .nil pass0 (pa_cons (pv 1) (pa_cons (pv 4) pa_nil)))) (pe_callB (cr_sum rfl) (by rfl) T.n_sum (by decide +kernel) (pa_cons (pv 1) pa_nil)) (nomark _))))
      pss_nil)
      (pss_one (ps_ret pe_bl)))))))))))), ?_⟩
    walk_at "rs"
    refine ⟨l, ns, 0, rfl, hS, hl, by decide, ?_⟩
    walk_at "rs"
    refine ⟨_, _, rfl, by decide, by decide, fun pw ws H1 s1 hw1 gw w6 => ?_⟩
    have w6' : ws.length ≤ 6 := w6
    have hS1 := s1.seq hS
    walk_at "rs"
    refine ⟨l, ns, 1, rfl, hS1, hl, by decide, ?_⟩
    walk_at "rs"
    refine ⟨pw, _, rfl, .inl (SqL.of hw1), ?_⟩
    walk_at "rs"
    have wpos := gw.1
    have hN : ((ws.map V.int).length : Int) = ws.length := by rw [List.length_map]
    refine ⟨_, _, rfl, by omega, by omega, fun p2 ps2 xs2 H2 s2 hp2 hx2 len2 good2 _ => ?_⟩
    have hS2 := s2.seq hS1
    have hw2 := s2 _ _ hw1
    walk_at "rs"
    refine ⟨l, ns, 2, rfl, hS2, hl, by decide, ?_⟩
    walk_at "rs"
    refine ⟨l, ns, 3, rfl, hS2, hl, by decide, ?_⟩
    walk_at "rs"
    refine ⟨pw, _, rfl, .inl (SqL.of hw2), ?_⟩
    walk_at "rs"
    have q0 : 0 ≤ ns.getD (Int.toNat 3) 0 % 13 := Int.emod_nonneg _ (by decide)
    have q13 : ns.getD (Int.toNat 3) 0 % 13 < 13 := Int.emod_lt_of_pos _ (by decide)
    refine ⟨_, _, _, rfl, q0, by omega, by omega, fun p3 ps3 xs3 H3 s3 hp3 hx3 len3 good3 _ => ?_⟩
    have hp23 := s3 _ _ hp2
    have hx23 := hx2.same s3
    have a1 := hx3.1
    have a2 := hx2.1
    have hS3 := s3.seq hS2
    have hw3 := s3 _ _ hw2
    walk_at "rs"
    refine ⟨p2, p3, _, _, rfl, rfl, hp23, hp3, by rw [List.length_map, List.length_map, sizeLine_eq]; omega, fun p4 hp4 => ?_⟩
    have s4 : Same H3 (upd H3 p4 (.lst (ps2.map V.ref ++ ps3.map V.ref))) := same_new hp4
    have hp4' : (upd H3 p4 (.lst (ps2.map V.ref ++ ps3.map V.ref))) p4 = some (.lst ((ps2 ++ ps3).map V.ref)) := by
      rw [upd_same]
      simp
    have hx4 := (hx23.same s4).app (hx3.same s4)
    have hS4 := s4.seq hS3
    have hw4 := s4 _ _ hw3
    generalize upd H3 p4 (.lst (ps2.map V.ref ++ ps3.map V.ref)) = H4 at s4 hp4' hx4 hS4 hw4 ⊢
    walk_at "rs"
    refine ⟨fun σ' H' => ∃ (p : Addr) (ps : List Addr) (xs : List Lt), σ' = [some (.ref l), some (.ref pw), some (.ref p), none, none, none, none, none, none] ∧ Same H4 H' ∧ H' p = some (.lst (ps.map V.ref)) ∧ LsAt H' ps xs ∧ xs.length ≤ 63 ∧ ∀ x ∈ xs, GoodLt ws.length x, ?_, ?_⟩
    · walk_at "rs"
      refine ⟨l, ns, 3, rfl, hS4, hl, by decide, ?_⟩
      walk_at "rs"
      refine ite2 (fun c1 => ?_) (fun c1 => ?_)
      · walk_at "rs"
        refine ⟨l, ns, 2, rfl, hS4, hl, by decide, ?_⟩
        walk_at "rs"
        refine ⟨pw, _, rfl, .inl (SqL.of hw4), ?_⟩
        walk_at "rs"
        refine ⟨_, _, _, rfl, by decide, by decide, by omega, fun p5 ps5 xs5 H5 s5 hp5 hx5 len5 good5 _ => ?_⟩
        exact ⟨p5, ps5, xs5, rfl, s5, hp5, hx5, by rw [len5]; decide, by rw [hN] at good5; exact good5⟩
      · refine ⟨p4, ps2 ++ ps3, xs2 ++ xs3, rfl, Same.refl H4, hp4', hx4, by simp; omega, fun x hx => ?_⟩
        rw [hN] at good2 good3
        rcases List.mem_append.mp hx with hx | hx
        · exact good2 x hx
        · exact good3 x hx
    · rintro σ' H5 ⟨p5, ps5, xs5, rfl, s5, hp5, hx5, len5, good5⟩
      have hS5 := s5.seq hS4
      have hw5 := s5 _ _ hw4
      have ok5 : OkL xs5 := fun x hx => (good5 x hx).1
      walk_at "rs"
      refine ⟨pw, _, rfl, .inl (SqL.of hw5), fun q6 hq6 => ?_⟩
      have sq : Same H5 (upd H5 q6 (.lst (ws.map V.int))) := same_new hq6
      intro x dx nx ndx nex
      have sm : Same (upd H5 q6 (.lst (ws.map V.int))) (upd (upd (upd H5 q6 (.lst (ws.map V.int))) dx (.own x)) x (.ins a.C_Committee dx [])) := same_upd (same_new ndx) nx
      refine ⟨x, dx, q6, ws, rfl, upd_same, SqL.of (sm _ _ upd_same), gw, fun H6 hc kp => ⟨rfl, ?_⟩⟩
      have s6 : Same H5 H6 := sq.trans (Same.made nx ndx kp)
      walk_at "rs"
      refine ⟨p5, _, rfl, .inl (SqL.of (s6 _ _ hp5)), fun q7 hq7 => ?_⟩
      have s7 : Same H6 (upd H6 q7 (.lst (ps5.map V.ref))) := same_new hq7
      refine ⟨x, q7, ws, ps5, xs5, rfl, hc.same s7, by omega, upd_same, (hx5.same s6).same s7, (by omega), fun pt cs H8 s8 ht8 clen hch => ?_⟩
      have s58 : Same H5 H8 := fun b o y => s8 _ _ (s7 _ _ (s6 _ _ y))
      have hw8 := s58 _ _ hw5
      have hp8 := s58 _ _ hp5
      have hx8 := hx5.same s58
      have fdue := fnd_due xs5 ws.length
      have fl := fnd_len xs5 ws.length
      have nd := fnd_nodup xs5 ws.length
      generalize eF : fnd xs5 ws.length = F at clen hch fdue fl nd
      walk_at "rs"
      refine ⟨(by show 0 ≤ sizeLine; decide), fun pm hpm => ?_⟩
      have s9 : Same H8 (upd H8 pm (.lst [])) := same_new hpm
      walk_at "rs"
      refine ⟨⟨_, SqL.of (s9 _ _ ht8)⟩, for_list (K := K) (a := pt) (xs := cs.map V.ref) (fun i σ H9 => ∃ v5 : Option V, σ = [some (.ref l), some (.ref pw), some (.ref p5), some (.ref pt), some (.ref pm), v5, none, none, none] ∧ Same H8 H9 ∧ H9 pm = some (.lst ((F.take i).map V.int)))
        ⟨_, rfl, s9, upd_same⟩ (fun i σ H9 _ ⟨_, _, s10, _⟩ => SqL.of (s10 _ _ ht8)) ?_ ?_⟩
      · rintro i y σ H9 hy ⟨v5, rfl, s10, hm⟩
        have hi : i < cs.length := by
          have e := (List.getElem?_eq_some_iff.mp hy).1
          rwa [List.length_map] at e
        rw [at_refs hi] at hy
        cases hy
        have hiF : i < F.length := by omega
        have hdu := (fdue _ (getD_mem hiF)).2.2
        have hch9 := (hch i hi).same s10
        generalize ew : F.getD i 0 = who at hdu hch9
        obtain ⟨⟨f1, g1⟩, ed⟩ := Option.isSome_iff_exists.mp hdu
        obtain ⟨m1, m2, cl⟩ := due_ok ed
        obtain ⟨n1, w1⟩ := own_mem m1
        obtain ⟨n2, w2⟩ := own_mem m2
        rw [ed] at hch9
        obtain ⟨pc, dc, ac, bc, e1, hpc, hfc, hgc⟩ := hch9
        have e1 := V.ref.inj e1
        subst e1
        walk_at "rs"
        have n3 : who ∉ F.take i := by
          rw [← ew]
          exact nodup_take nd hiF
        obtain ⟨qf, hpf, hmf⟩ := id hfc
        obtain ⟨qg, hpg, hmg⟩ := id hgc
        refine ⟨_, _, dc, _, .ref ac, rfl, hpc, T.cl_Charge, T.a_Charge_first, chf_f _ _ _, ?_⟩
        walk_at "rs"
        refine ⟨_, _, dp_lt hfc, .lst (SqL.of (s10 _ _ hp8)) (dp_lts (hx8.same s10)), shaped_lt (ok5 _ n1), shaped_lts ok5, ?_⟩
        rw [any_lt n1 (ok5 _ n1)]
        walk_at "rs"
        refine ⟨_, _, dc, _, .ref bc, rfl, hpc, T.cl_Charge, T.a_Charge_second, chf_s _ _ _, ?_⟩
        walk_at "rs"
        refine ⟨_, _, dp_lt hgc, .lst (SqL.of (s10 _ _ hp8)) (dp_lts (hx8.same s10)), shaped_lt (ok5 _ n2), shaped_lts ok5, ?_⟩
        rw [any_lt n2 (ok5 _ n2)]
        walk_at "rs"
        refine ⟨_, _, dc, _, .int who, rfl, hpc, T.cl_Charge, T.a_Charge_who, chf_w _ _ _, ?_⟩
        walk_at "rs"
        refine ⟨pm, _, rfl, .inl (SqL.of hm), rfl, flat_ints _, ?_⟩
        rw [if_neg Bool.false_ne_true, inV_ints, decide_eq_false n3]
        walk_at "rs"
        refine ⟨_, _, dc, _, .ref ac, rfl, hpc, T.cl_Charge, T.a_Charge_first, chf_f _ _ _, ?_⟩
        walk_at "rs"
        refine ⟨_, _, _, _, rfl, rfl, SqT.of hpf, rfl, ?_⟩
        walk_at "rs"
        refine ⟨_, _, dc, _, .int who, rfl, hpc, T.cl_Charge, T.a_Charge_who, chf_w _ _ _, ?_⟩
        walk_at "rs"
        refine ite2 (fun c => ?_) (fun c => ?_)
        · exfalso
          simp [w1] at c
        walk_at "rs"
        refine ⟨_, _, dc, _, .ref bc, rfl, hpc, T.cl_Charge, T.a_Charge_second, chf_s _ _ _, ?_⟩
        walk_at "rs"
        refine ⟨_, _, _, _, rfl, rfl, SqT.of hpg, rfl, ?_⟩
        walk_at "rs"
        refine ⟨_, _, dc, _, .int who, rfl, hpc, T.cl_Charge, T.a_Charge_who, chf_w _ _ _, ?_⟩
        walk_at "rs"
        refine ite2 (fun c => ?_) (fun c => ?_)
        · exfalso
          simp [w2] at c
        walk_at "rs"
        refine ⟨_, _, dc, _, .ref ac, rfl, hpc, T.cl_Charge, T.a_Charge_first, chf_f _ _ _, ?_⟩
        walk_at "rs"
        refine ⟨_, _, _, _, rfl, rfl, SqT.of hpf, rfl, ?_⟩
        walk_at "rs"
        refine ⟨_, _, dc, _, .ref bc, rfl, hpc, T.cl_Charge, T.a_Charge_second, chf_s _ _ _, ?_⟩
        walk_at "rs"
        refine ⟨_, _, _, _, rfl, rfl, SqT.of hpg, rfl, ?_⟩
        walk_at "rs"
        refine ⟨qf, qg, _, _, rfl, hmf, hmg, fun HA sA => ?_⟩
        rw [cl]
        walk_at "rs"
        have hpc := sA _ _ hpc
        have hm := sA _ _ hm
        refine ⟨.inl ⟨rfl, _, SqL.of hm⟩, ?_⟩
        walk_at "rs"
        refine ⟨_, _, dc, _, .int who, rfl, hpc, T.cl_Charge, T.a_Charge_who, chf_w _ _ _, ?_⟩
        walk_at "rs"
        refine ⟨pm, _, _, rfl, rfl, hm, by rw [List.length_map, List.length_take]; exact small1000 (by omega), ?_⟩
        refine ⟨_, rfl, same_upd (s10.trans sA) hpm, ?_⟩
        rw [upd_same, take_succ_getD (d := 0) hiF, ew]
        simp
      · rintro σ H9 ⟨v5, rfl, s10, hm⟩
        rw [List.length_map, clen, List.take_length] at hm
        refine ⟨(by show 0 ≤ sizeLine; decide), fun pq hpq => ?_⟩
        have sq9 : Same H9 (upd H9 pq (.lst [])) := same_new hpq
        refine ⟨(by show 2 ≤ sizeLine; decide), fun tp htp => ?_⟩
        have st9 := same_new (o := .tup [V.str "a", V.str "b"]) htp
        have hq0 := st9 _ _ (upd_same : (upd H9 pq (.lst [])) pq = some (.lst []))
        have ht0 := (upd_same : (upd (upd H9 pq (.lst [])) tp (.tup [V.str "a", V.str "b"])) tp = _)
        have s9t := sq9.trans st9
        generalize upd (upd H9 pq (.lst [])) tp (.tup [V.str "a", V.str "b"]) = HT at s9t hq0 ht0 ⊢
        refine ⟨tp, rfl, ⟨_, SqT.of ht0⟩, for_tup (K := K) (a := tp) (xs := [V.str "a", V.str "b"]) (fun _ σ HU => ∃ (v7 v8 : Option V) (co : List Str), σ = [some (.ref l), some (.ref pw), some (.ref p5), some (.ref pt), some (.ref pm), v5, some (.ref pq), v7, v8] ∧ Same H9 HU ∧ HU tp = some (.tup [V.str "a", V.str "b"]) ∧ HU pq = some (.lst (co.map V.str)) ∧ ComOk ws xs5 co)
          ⟨_, _, [], rfl, s9t, ht0, hq0, ComOk.nil⟩ (fun _ _ _ _ ⟨_, _, _, _, _, h, _⟩ => SqT.of h) ?_ ?_⟩
        · rintro j y σ HU hy ⟨v7, v8, co, rfl, s11, ht1, hq1, cok⟩
          obtain ⟨bb, rfl, hbb, ob⟩ : ∃ bb : Str, y = V.str bb ∧ (bb = "a" ∨ bb = "b") ∧ OkS (some bb) := by
            match j, hy with
            | 0, hy =>
              cases hy
              exact ⟨_, rfl, .inl rfl, okA⟩
            | 1, hy =>
              cases hy
              exact ⟨_, rfl, .inr rfl, okB⟩
            | j + 2, hy => simp at hy
          walk_at "rs"
          refine ⟨(by decide), (by decide), ?_⟩
          refine for_range (lo := 0) (n := (4 : Int).toNat) (fun i σ HV => ∃ (v8 : Option V) (co : List Str), σ = [some (.ref l), some (.ref pw), some (.ref p5), some (.ref pt), some (.ref pm), v5, some (.ref pq), some (.str bb), v8] ∧ Same H9 HV ∧ HV tp = some (.tup [V.str "a", V.str "b"]) ∧ HV pq = some (.lst (co.map V.str)) ∧ ComOk ws xs5 co)
            ⟨_, co, rfl, s11, ht1, hq1, cok⟩ ?_ ?_
          · clear ht1 hq1 cok s11
            rintro i σ HV hi ⟨v8, co, rfl, s11, ht1, hq1, cok⟩
            have i4 : i < 4 := hi
            have e0 : (0 : Int) + (i : Int) = (i : Int) := Int.zero_add _
            rw [e0]
            walk_at "rs"
            refine ⟨pw, p5, ws, ps5, xs5, 0, _, some bb, rfl, SqL.of (s11 _ _ (s10 _ _ hw8)), by omega, s11 _ _ (s10 _ _ hp8), (hx8.same s10).same s11, by omega, by omega, by omega, ob, ok5, fun HW sW => ?_⟩
            have cm : commM ws xs5 0 (some bb) ((i : Int)).toNat = commM ws xs5 0 (some bb) i := by rw [Int.toNat_natCast]
            walk_at "rs"
            refine ite2 (fun c1 => ?_) (fun c1 => ?_)
            · walk_at "rs"
              refine ⟨pq, _, rfl, .inl (SqL.of (sW _ _ hq1)), rfl, flat_strs co, ?_⟩
              rw [if_pos rfl, inV_strs]
              walk_at "rs"
              refine ite2 (fun c2 => ?_) (fun c2 => ?_)
              · walk_at "rs"
                refine ⟨.inl ⟨rfl, _, SqL.of (sW _ _ hq1)⟩, ?_⟩
                walk_at "rs"
                have fw := cok.few
                refine ⟨pq, _, _, rfl, rfl, sW _ _ hq1, by rw [List.length_map]; exact small1000 (by omega), ?_⟩
                refine ⟨_, co ++ [bb], rfl, same_upd (s11.trans sW) hpq, ?_, by rw [upd_same]; simp, cok.snoc (by simpa using c2) hbb ⟨i, cm.symm.trans c1⟩⟩
                rw [upd_ne (ne_lst (sW _ _ ht1) (sW _ _ hq1))]
                exact sW _ _ ht1
              · exact ⟨_, co, rfl, s11.trans sW, sW _ _ ht1, sW _ _ hq1, cok⟩
            · exact ⟨_, co, rfl, s11.trans sW, sW _ _ ht1, sW _ _ hq1, cok⟩
          · rintro σ HV ⟨v8, co, rfl, s11, ht1, hq1, cok⟩
            exact ⟨_, _, co, rfl, s11, ht1, hq1, cok⟩
        · rintro σ HU ⟨v7, v8, co, rfl, s11, ht1, hq1, cok⟩
          walk_at "rs"
          refine ⟨pq, _, rfl, .inl (SqL.of hq1), ?_⟩
          walk_at "rs"
          refine ite2 (fun c1 => ?_) (fun c1 => ?_)
          · simp only [dec_int, beq_iff_eq, List.length_map] at c1
            have th := cok.two (good_pos gw) (by omega)
            rw [eF] at th
            walk_at "rs"
            refine ⟨pw, pm, ws, F, rfl, SqL.of (s11 _ _ (s10 _ _ hw8)), SqL.of (s11 _ _ hm), by omega, fun HX sX => ?_⟩
            walk_at "rs"
            refine ⟨pw, ws, rfl, SqL.of (sX _ _ (s11 _ _ (s10 _ _ hw8))), ?_⟩
            walk_at "rs"
            have kk := k HX
            rw [← decide_eq_true th] at kk
            exact kk
          walk_at "rs"
          exact k HU
end

theorem all_mk {l : PySem.W.OpenLaw} {w : World} {K : PySem.W.Frag} {h : Heap} {mg : Str → Option Value} {fa : Addr} (X : K.In h) (G : h.Ns mainGlobals mg) (hfa : mg "law" = some (.ref fa))
    {t_KIND : Tok} {t_HEIGHT : Tok} {t_TURN : Tok} {t_BLOCK : Tok} {t_LEAN : Tok} {t_MOST_MEMBERS : Tok} {t_MOST_WEIGHT : Tok} {C_Committee : Addr} {C_Charge : Addr} {f_is_vote : Addr} {od_is_vote an_is_vote : Option Addr} {sl_is_vote : Array (Option Value)} {oc_is_vote kV_is_vote dc_is_vote pm_is_vote cd_is_vote ct_is_vote : Value} {f_abandons : Addr} {od_abandons an_abandons : Option Addr} {sl_abandons : Array (Option Value)} {oc_abandons kV_abandons dc_abandons pm_abandons cd_abandons ct_abandons : Value} {f_clash : Addr} {od_clash an_clash : Option Addr} {sl_clash : Array (Option Value)} {oc_clash kV_clash dc_clash pm_clash cd_clash ct_clash : Value} {f_Charge_init : Addr} {od_Charge_init an_Charge_init : Option Addr} {sl_Charge_init : Array (Option Value)} {oc_Charge_init kV_Charge_init dc_Charge_init pm_Charge_init cd_Charge_init ct_Charge_init : Value} {f_first_clash : Addr} {od_first_clash an_first_clash : Option Addr} {sl_first_clash : Array (Option Value)} {oc_first_clash kV_first_clash dc_first_clash pm_first_clash cd_first_clash ct_first_clash : Value} {f_charge_of : Addr} {od_charge_of an_charge_of : Option Addr} {sl_charge_of : Array (Option Value)} {oc_charge_of kV_charge_of dc_charge_of pm_charge_of cd_charge_of ct_charge_of : Value} {f_law_cell : Addr} {od_law_cell an_law_cell : Option Addr} {sl_law_cell : Array (Option Value)} {oc_law_cell kV_law_cell dc_law_cell pm_law_cell cd_law_cell ct_law_cell : Value} {f_law_row : Addr} {od_law_row an_law_row : Option Addr} {sl_law_row : Array (Option Value)} {oc_law_row kV_law_row dc_law_row pm_law_row cd_law_row ct_law_row : Value} {f_law_weights : Addr} {od_law_weights an_law_weights : Option Addr} {sl_law_weights : Array (Option Value)} {oc_law_weights kV_law_weights dc_law_weights pm_law_weights cd_law_weights ct_law_weights : Value} {f_law_weight : Addr} {od_law_weight an_law_weight : Option Addr} {sl_law_weight : Array (Option Value)} {oc_law_weight kV_law_weight dc_law_weight pm_law_weight cd_law_weight ct_law_weight : Value} {f_law_clash : Addr} {od_law_clash an_law_clash : Option Addr} {sl_law_clash : Array (Option Value)} {oc_law_clash kV_law_clash dc_law_clash pm_law_clash cd_law_clash ct_law_clash : Value} {f_law_certified : Addr} {od_law_certified an_law_certified : Option Addr} {sl_law_certified : Array (Option Value)} {oc_law_certified kV_law_certified dc_law_certified pm_law_certified cd_law_certified ct_law_certified : Value} {f_law_committed : Addr} {od_law_committed an_law_committed : Option Addr} {sl_law_committed : Array (Option Value)} {oc_law_committed kV_law_committed dc_law_committed pm_law_committed cd_law_committed ct_law_committed : Value} {f_law_statement : Addr} {od_law_statement an_law_statement : Option Addr} {sl_law_statement : Array (Option Value)} {oc_law_statement kV_law_statement dc_law_statement pm_law_statement cd_law_statement ct_law_statement : Value} {f_law_letters : Addr} {od_law_letters an_law_letters : Option Addr} {sl_law_letters : Array (Option Value)} {oc_law_letters kV_law_letters dc_law_letters pm_law_letters cd_law_letters ct_law_letters : Value} {f_law_planted : Addr} {od_law_planted an_law_planted : Option Addr} {sl_law_planted : Array (Option Value)} {oc_law_planted kV_law_planted dc_law_planted pm_law_planted cd_law_planted ct_law_planted : Value} {f_first_wrong : Addr} {od_first_wrong an_first_wrong : Option Addr} {sl_first_wrong : Array (Option Value)} {oc_first_wrong kV_first_wrong dc_first_wrong pm_first_wrong cd_first_wrong ct_first_wrong : Value} {f_Committee_init : Addr} {od_Committee_init an_Committee_init : Option Addr} {sl_Committee_init : Array (Option Value)} {oc_Committee_init kV_Committee_init dc_Committee_init pm_Committee_init cd_Committee_init ct_Committee_init : Value} {f_charges : Addr} {od_charges an_charges : Option Addr} {sl_charges : Array (Option Value)} {oc_charges kV_charges dc_charges pm_charges cd_charges ct_charges : Value} {f_law : Addr} {od_law an_law : Option Addr} {sl_law : Array (Option Value)} {oc_law kV_law dc_law pm_law cd_law ct_law : Value}
    (c_KIND : PySem.W.nsIn K mainGlobals "KIND" = some (some (.int 0 t_KIND)))
    (c_HEIGHT : PySem.W.nsIn K mainGlobals "HEIGHT" = some (some (.int 1 t_HEIGHT)))
    (c_TURN : PySem.W.nsIn K mainGlobals "TURN" = some (some (.int 2 t_TURN)))
    (c_BLOCK : PySem.W.nsIn K mainGlobals "BLOCK" = some (some (.int 3 t_BLOCK)))
    (c_LEAN : PySem.W.nsIn K mainGlobals "LEAN" = some (some (.int 4 t_LEAN)))
    (c_MOST_MEMBERS : PySem.W.nsIn K mainGlobals "MOST_MEMBERS" = some (some (.int 16 t_MOST_MEMBERS)))
    (c_MOST_WEIGHT : PySem.W.nsIn K mainGlobals "MOST_WEIGHT" = some (some (.int 1000000000000 t_MOST_WEIGHT)))
    (n_len : PySem.W.nsIn K mainGlobals "len" = some none)
    (n_range : PySem.W.nsIn K mainGlobals "range" = some none)
    (n_isinstance : PySem.W.nsIn K mainGlobals "isinstance" = some none)
    (n_int : PySem.W.nsIn K mainGlobals "int" = some none)
    (n_bool : PySem.W.nsIn K mainGlobals "bool" = some none)
    (n_list : PySem.W.nsIn K mainGlobals "list" = some none)
    (n_tuple : PySem.W.nsIn K mainGlobals "tuple" = some none)
    (n_sum : PySem.W.nsIn K mainGlobals "sum" = some none)
    (n_enumerate : PySem.W.nsIn K mainGlobals "enumerate" = some none)
    (g_Committee : PySem.W.nsIn K mainGlobals "Committee" = some (some (.ref C_Committee)))
    (g_Charge : PySem.W.nsIn K mainGlobals "Charge" = some (some (.ref C_Charge)))
    (a_is_vote : PySem.W.nsIn K mainGlobals "is_vote" = some (some (.ref f_is_vote)))
    (l_is_vote : K.lookup f_is_vote = some ⟨oc_is_vote, od_is_vote, .func (PySem.W.fnOf "is_vote" "is_vote" (defArgs s_is_vote) (defBody s_is_vote) (defScope s_is_vote) .none kV_is_vote dc_is_vote pm_is_vote an_is_vote cd_is_vote ct_is_vote), sl_is_vote⟩)
    (q_is_vote : PySem.W.codeIn K cd_is_vote "is_vote" = true)
    (k_is_vote : PySem.W.keepIn K (.ref f_is_vote) = true)
    (a_abandons : PySem.W.nsIn K mainGlobals "_abandons" = some (some (.ref f_abandons)))
    (l_abandons : K.lookup f_abandons = some ⟨oc_abandons, od_abandons, .func (PySem.W.fnOf "_abandons" "_abandons" (defArgs s_abandons) (defBody s_abandons) (defScope s_abandons) .none kV_abandons dc_abandons pm_abandons an_abandons cd_abandons ct_abandons), sl_abandons⟩)
    (q_abandons : PySem.W.codeIn K cd_abandons "_abandons" = true)
    (k_abandons : PySem.W.keepIn K (.ref f_abandons) = true)
    (a_clash : PySem.W.nsIn K mainGlobals "clash" = some (some (.ref f_clash)))
    (l_clash : K.lookup f_clash = some ⟨oc_clash, od_clash, .func (PySem.W.fnOf "clash" "clash" (defArgs s_clash) (defBody s_clash) (defScope s_clash) .none kV_clash dc_clash pm_clash an_clash cd_clash ct_clash), sl_clash⟩)
    (q_clash : PySem.W.codeIn K cd_clash "clash" = true)
    (k_clash : PySem.W.keepIn K (.ref f_clash) = true)
    (a_Charge_init : PySem.W.findIn K (.ref C_Charge) "__init__" = some (some (.ref f_Charge_init)))
    (i_Charge_init : PySem.W.isFn K (.ref f_Charge_init) = true)
    (l_Charge_init : K.lookup f_Charge_init = some ⟨oc_Charge_init, od_Charge_init, .func (PySem.W.fnOf "__init__" "Charge.__init__" (defArgs s_Charge_init) (defBody s_Charge_init) (defScope s_Charge_init) .none kV_Charge_init dc_Charge_init pm_Charge_init an_Charge_init cd_Charge_init ct_Charge_init), sl_Charge_init⟩)
    (q_Charge_init : PySem.W.codeIn K cd_Charge_init "Charge.__init__" = true)
    (k_Charge_init : PySem.W.keepIn K (.ref f_Charge_init) = true)
    (a_first_clash : PySem.W.nsIn K mainGlobals "_first_clash" = some (some (.ref f_first_clash)))
    (l_first_clash : K.lookup f_first_clash = some ⟨oc_first_clash, od_first_clash, .func (PySem.W.fnOf "_first_clash" "_first_clash" (defArgs s_first_clash) (defBody s_first_clash) (defScope s_first_clash) .none kV_first_clash dc_first_clash pm_first_clash an_first_clash cd_first_clash ct_first_clash), sl_first_clash⟩)
    (q_first_clash : PySem.W.codeIn K cd_first_clash "_first_clash" = true)
    (k_first_clash : PySem.W.keepIn K (.ref f_first_clash) = true)
    (a_charge_of : PySem.W.nsIn K mainGlobals "charge_of" = some (some (.ref f_charge_of)))
    (l_charge_of : K.lookup f_charge_of = some ⟨oc_charge_of, od_charge_of, .func (PySem.W.fnOf "charge_of" "charge_of" (defArgs s_charge_of) (defBody s_charge_of) (defScope s_charge_of) .none kV_charge_of dc_charge_of pm_charge_of an_charge_of cd_charge_of ct_charge_of), sl_charge_of⟩)
    (q_charge_of : PySem.W.codeIn K cd_charge_of "charge_of" = true)
    (k_charge_of : PySem.W.keepIn K (.ref f_charge_of) = true)
    (a_law_cell : PySem.W.nsIn K mainGlobals "_law_cell" = some (some (.ref f_law_cell)))
    (l_law_cell : K.lookup f_law_cell = some ⟨oc_law_cell, od_law_cell, .func (PySem.W.fnOf "_law_cell" "_law_cell" (defArgs s_law_cell) (defBody s_law_cell) (defScope s_law_cell) .none kV_law_cell dc_law_cell pm_law_cell an_law_cell cd_law_cell ct_law_cell), sl_law_cell⟩)
    (q_law_cell : PySem.W.codeIn K cd_law_cell "_law_cell" = true)
    (k_law_cell : PySem.W.keepIn K (.ref f_law_cell) = true)
    (a_law_row : PySem.W.nsIn K mainGlobals "_law_row" = some (some (.ref f_law_row)))
    (l_law_row : K.lookup f_law_row = some ⟨oc_law_row, od_law_row, .func (PySem.W.fnOf "_law_row" "_law_row" (defArgs s_law_row) (defBody s_law_row) (defScope s_law_row) .none kV_law_row dc_law_row pm_law_row an_law_row cd_law_row ct_law_row), sl_law_row⟩)
    (q_law_row : PySem.W.codeIn K cd_law_row "_law_row" = true)
    (k_law_row : PySem.W.keepIn K (.ref f_law_row) = true)
    (a_law_weights : PySem.W.nsIn K mainGlobals "_law_weights" = some (some (.ref f_law_weights)))
    (l_law_weights : K.lookup f_law_weights = some ⟨oc_law_weights, od_law_weights, .func (PySem.W.fnOf "_law_weights" "_law_weights" (defArgs s_law_weights) (defBody s_law_weights) (defScope s_law_weights) .none kV_law_weights dc_law_weights pm_law_weights an_law_weights cd_law_weights ct_law_weights), sl_law_weights⟩)
    (q_law_weights : PySem.W.codeIn K cd_law_weights "_law_weights" = true)
    (k_law_weights : PySem.W.keepIn K (.ref f_law_weights) = true)
    (a_law_weight : PySem.W.nsIn K mainGlobals "_law_weight" = some (some (.ref f_law_weight)))
    (l_law_weight : K.lookup f_law_weight = some ⟨oc_law_weight, od_law_weight, .func (PySem.W.fnOf "_law_weight" "_law_weight" (defArgs s_law_weight) (defBody s_law_weight) (defScope s_law_weight) .none kV_law_weight dc_law_weight pm_law_weight an_law_weight cd_law_weight ct_law_weight), sl_law_weight⟩)
    (q_law_weight : PySem.W.codeIn K cd_law_weight "_law_weight" = true)
    (k_law_weight : PySem.W.keepIn K (.ref f_law_weight) = true)
    (a_law_clash : PySem.W.nsIn K mainGlobals "_law_clash" = some (some (.ref f_law_clash)))
    (l_law_clash : K.lookup f_law_clash = some ⟨oc_law_clash, od_law_clash, .func (PySem.W.fnOf "_law_clash" "_law_clash" (defArgs s_law_clash) (defBody s_law_clash) (defScope s_law_clash) .none kV_law_clash dc_law_clash pm_law_clash an_law_clash cd_law_clash ct_law_clash), sl_law_clash⟩)
    (q_law_clash : PySem.W.codeIn K cd_law_clash "_law_clash" = true)
    (k_law_clash : PySem.W.keepIn K (.ref f_law_clash) = true)
    (a_law_certified : PySem.W.nsIn K mainGlobals "_law_certified" = some (some (.ref f_law_certified)))
    (l_law_certified : K.lookup f_law_certified = some ⟨oc_law_certified, od_law_certified, .func (PySem.W.fnOf "_law_certified" "_law_certified" (defArgs s_law_certified) (defBody s_law_certified) (defScope s_law_certified) .none kV_law_certified dc_law_certified pm_law_certified an_law_certified cd_law_certified ct_law_certified), sl_law_certified⟩)
    (q_law_certified : PySem.W.codeIn K cd_law_certified "_law_certified" = true)
    (k_law_certified : PySem.W.keepIn K (.ref f_law_certified) = true)
    (a_law_committed : PySem.W.nsIn K mainGlobals "_law_committed" = some (some (.ref f_law_committed)))
    (l_law_committed : K.lookup f_law_committed = some ⟨oc_law_committed, od_law_committed, .func (PySem.W.fnOf "_law_committed" "_law_committed" (defArgs s_law_committed) (defBody s_law_committed) (defScope s_law_committed) .none kV_law_committed dc_law_committed pm_law_committed an_law_committed cd_law_committed ct_law_committed), sl_law_committed⟩)
    (q_law_committed : PySem.W.codeIn K cd_law_committed "_law_committed" = true)
    (k_law_committed : PySem.W.keepIn K (.ref f_law_committed) = true)
    (a_law_statement : PySem.W.nsIn K mainGlobals "_law_statement" = some (some (.ref f_law_statement)))
    (l_law_statement : K.lookup f_law_statement = some ⟨oc_law_statement, od_law_statement, .func (PySem.W.fnOf "_law_statement" "_law_statement" (defArgs s_law_statement) (defBody s_law_statement) (defScope s_law_statement) .none kV_law_statement dc_law_statement pm_law_statement an_law_statement cd_law_statement ct_law_statement), sl_law_statement⟩)
    (q_law_statement : PySem.W.codeIn K cd_law_statement "_law_statement" = true)
    (k_law_statement : PySem.W.keepIn K (.ref f_law_statement) = true)
    (a_law_letters : PySem.W.nsIn K mainGlobals "_law_letters" = some (some (.ref f_law_letters)))
    (l_law_letters : K.lookup f_law_letters = some ⟨oc_law_letters, od_law_letters, .func (PySem.W.fnOf "_law_letters" "_law_letters" (defArgs s_law_letters) (defBody s_law_letters) (defScope s_law_letters) .none kV_law_letters dc_law_letters pm_law_letters an_law_letters cd_law_letters ct_law_letters), sl_law_letters⟩)
    (q_law_letters : PySem.W.codeIn K cd_law_letters "_law_letters" = true)
    (k_law_letters : PySem.W.keepIn K (.ref f_law_letters) = true)
    (a_law_planted : PySem.W.nsIn K mainGlobals "_law_planted" = some (some (.ref f_law_planted)))
    (l_law_planted : K.lookup f_law_planted = some ⟨oc_law_planted, od_law_planted, .func (PySem.W.fnOf "_law_planted" "_law_planted" (defArgs s_law_planted) (defBody s_law_planted) (defScope s_law_planted) .none kV_law_planted dc_law_planted pm_law_planted an_law_planted cd_law_planted ct_law_planted), sl_law_planted⟩)
    (q_law_planted : PySem.W.codeIn K cd_law_planted "_law_planted" = true)
    (k_law_planted : PySem.W.keepIn K (.ref f_law_planted) = true)
    (a_first_wrong : PySem.W.nsIn K mainGlobals "_first_wrong" = some (some (.ref f_first_wrong)))
    (l_first_wrong : K.lookup f_first_wrong = some ⟨oc_first_wrong, od_first_wrong, .func (PySem.W.fnOf "_first_wrong" "_first_wrong" (defArgs s_first_wrong) (defBody s_first_wrong) (defScope s_first_wrong) .none kV_first_wrong dc_first_wrong pm_first_wrong an_first_wrong cd_first_wrong ct_first_wrong), sl_first_wrong⟩)
    (q_first_wrong : PySem.W.codeIn K cd_first_wrong "_first_wrong" = true)
    (k_first_wrong : PySem.W.keepIn K (.ref f_first_wrong) = true)
    (a_Committee_init : PySem.W.findIn K (.ref C_Committee) "__init__" = some (some (.ref f_Committee_init)))
    (i_Committee_init : PySem.W.isFn K (.ref f_Committee_init) = true)
    (l_Committee_init : K.lookup f_Committee_init = some ⟨oc_Committee_init, od_Committee_init, .func (PySem.W.fnOf "__init__" "Committee.__init__" (defArgs s_Committee_init) (defBody s_Committee_init) (defScope s_Committee_init) .none kV_Committee_init dc_Committee_init pm_Committee_init an_Committee_init cd_Committee_init ct_Committee_init), sl_Committee_init⟩)
    (q_Committee_init : PySem.W.codeIn K cd_Committee_init "Committee.__init__" = true)
    (k_Committee_init : PySem.W.keepIn K (.ref f_Committee_init) = true)
    (a_charges : PySem.W.nsIn K mainGlobals "charges" = some (some (.ref f_charges)))
    (l_charges : K.lookup f_charges = some ⟨oc_charges, od_charges, .func (PySem.W.fnOf "charges" "charges" (defArgs s_charges) (defBody s_charges) (defScope s_charges) .none kV_charges dc_charges pm_charges an_charges cd_charges ct_charges), sl_charges⟩)
    (q_charges : PySem.W.codeIn K cd_charges "charges" = true)
    (k_charges : PySem.W.keepIn K (.ref f_charges) = true)
    (a_law : PySem.W.nsIn K mainGlobals "law" = some (some (.ref f_law)))
    (l_law : K.lookup f_law = some ⟨oc_law, od_law, .func (PySem.W.fnOf "law" "law" (defArgs s_law) (defBody s_law) (defScope s_law) .none kV_law dc_law pm_law an_law cd_law ct_law), sl_law⟩)
    (q_law : PySem.W.codeIn K cd_law "law" = true)
    (k_law : PySem.W.keepIn K (.ref f_law) = true)
    (pg_Committee : PySem.W.plainGet K C_Committee Str.empty = true)
    (hd_Committee : PySem.W.hasDictIn K C_Committee = true)
    (po_Committee : PySem.W.plainOver K C_Committee = true)
    (sa_Committee : PySem.W.findIn K (.ref C_Committee) "__setattr__" = some (some (.builtin "object.__setattr__")))
    (mk_Committee : PySem.W.makesIn K C_Committee = true)
    (kc_Committee : PySem.W.keepIn K (.ref C_Committee) = true)
    (no_Committee_weights : PySem.W.findIn K (.ref C_Committee) "weights" = some none)
    (no_Committee_size : PySem.W.findIn K (.ref C_Committee) "size" = some none)
    (no_Committee_total : PySem.W.findIn K (.ref C_Committee) "total" = some none)
    (pg_Charge : PySem.W.plainGet K C_Charge Str.empty = true)
    (hd_Charge : PySem.W.hasDictIn K C_Charge = true)
    (po_Charge : PySem.W.plainOver K C_Charge = true)
    (sa_Charge : PySem.W.findIn K (.ref C_Charge) "__setattr__" = some (some (.builtin "object.__setattr__")))
    (mk_Charge : PySem.W.makesIn K C_Charge = true)
    (kc_Charge : PySem.W.keepIn K (.ref C_Charge) = true)
    (no_Charge_who : PySem.W.findIn K (.ref C_Charge) "who" = some none)
    (no_Charge_first : PySem.W.findIn K (.ref C_Charge) "first" = some none)
    (no_Charge_second : PySem.W.findIn K (.ref C_Charge) "second" = some none) :
    ∃ fd : FuncData, (∀ (s : Shared) (v : Value), BindsTo s fd ⟨[v], []⟩ [("script", v)]) ∧ ∀ base : Heap, K.In base → base.Ns mainGlobals mg → FnOk l.prog w K mg base CX0 6 fa fd ["script"] (spLaw K) := by
  have e := hfa.symm.trans (PySem.W.mg_of X G a_law)
  cases e
  have T : Txt K mg ⟨C_Committee, C_Charge, f_is_vote, f_abandons, f_clash, f_Charge_init, f_first_clash, f_charge_of, f_law_cell, f_law_row, f_law_weights, f_law_weight, f_law_clash, f_law_certified, f_law_committed, f_law_statement, f_law_letters, f_law_planted, f_first_wrong, f_Committee_init, f_charges⟩ := {
    n_len := mg_no X G n_len
    n_range := mg_no X G n_range
    n_isinstance := mg_no X G n_isinstance
    n_int := mg_no X G n_int
    n_bool := mg_no X G n_bool
    n_list := mg_no X G n_list
    n_tuple := mg_no X G n_tuple
    n_sum := mg_no X G n_sum
    n_enumerate := mg_no X G n_enumerate
    c_KIND := ⟨_, PySem.W.mg_of X G c_KIND⟩
    c_HEIGHT := ⟨_, PySem.W.mg_of X G c_HEIGHT⟩
    c_TURN := ⟨_, PySem.W.mg_of X G c_TURN⟩
    c_BLOCK := ⟨_, PySem.W.mg_of X G c_BLOCK⟩
    c_LEAN := ⟨_, PySem.W.mg_of X G c_LEAN⟩
    c_MOST_MEMBERS := ⟨_, PySem.W.mg_of X G c_MOST_MEMBERS⟩
    c_MOST_WEIGHT := ⟨_, PySem.W.mg_of X G c_MOST_WEIGHT⟩
    g_Committee := PySem.W.mg_of X G g_Committee
    cl_Committee := ⟨pg_Committee, hd_Committee, po_Committee, sa_Committee⟩
    kc_Committee := kc_Committee
    mk_Committee := mk_Committee
    a_Committee_weights := no_Committee_weights
    a_Committee_size := no_Committee_size
    a_Committee_total := no_Committee_total
    g_Charge := PySem.W.mg_of X G g_Charge
    cl_Charge := ⟨pg_Charge, hd_Charge, po_Charge, sa_Charge⟩
    kc_Charge := kc_Charge
    mk_Charge := mk_Charge
    a_Charge_who := no_Charge_who
    a_Charge_first := no_Charge_first
    a_Charge_second := no_Charge_second
    d_is_vote := ⟨def_mk l_is_vote q_is_vote k_is_vote (fun _ _ _ _ _ _ us hl => match us, hl with | [_], _ => rfl), PySem.W.mg_of X G a_is_vote, k_is_vote⟩
    d_abandons := ⟨def_mk l_abandons q_abandons k_abandons (fun _ _ _ _ _ _ us hl => match us, hl with | [_, _], _ => rfl), PySem.W.mg_of X G a_abandons, k_abandons⟩
    d_clash := ⟨def_mk l_clash q_clash k_clash (fun _ _ _ _ _ _ us hl => match us, hl with | [_, _], _ => rfl), PySem.W.mg_of X G a_clash, k_clash⟩
    d_Charge_init := ⟨def_mk l_Charge_init q_Charge_init k_Charge_init (fun _ _ _ _ _ _ us hl => match us, hl with | [_, _, _, _], _ => rfl), a_Charge_init, i_Charge_init, k_Charge_init⟩
    d_first_clash := ⟨def_mk l_first_clash q_first_clash k_first_clash (fun _ _ _ _ _ _ us hl => match us, hl with | [_, _], _ => rfl), PySem.W.mg_of X G a_first_clash, k_first_clash⟩
    d_charge_of := ⟨def_mk l_charge_of q_charge_of k_charge_of (fun _ _ _ _ _ _ us hl => match us, hl with | [_, _], _ => rfl), PySem.W.mg_of X G a_charge_of, k_charge_of⟩
    d_law_cell := ⟨def_mk l_law_cell q_law_cell k_law_cell (fun _ _ _ _ _ _ us hl => match us, hl with | [_, _], _ => rfl), PySem.W.mg_of X G a_law_cell, k_law_cell⟩
    d_law_row := ⟨def_mk l_law_row q_law_row k_law_row (fun _ _ _ _ _ _ us hl => match us, hl with | [_, _, _], _ => rfl), PySem.W.mg_of X G a_law_row, k_law_row⟩
    d_law_weights := ⟨def_mk l_law_weights q_law_weights k_law_weights (fun _ _ _ _ _ _ us hl => match us, hl with | [_, _], _ => rfl), PySem.W.mg_of X G a_law_weights, k_law_weights⟩
    d_law_weight := ⟨def_mk l_law_weight q_law_weight k_law_weight (fun _ _ _ _ _ _ us hl => match us, hl with | [_, _], _ => rfl), PySem.W.mg_of X G a_law_weight, k_law_weight⟩
    d_law_clash := ⟨def_mk l_law_clash q_law_clash k_law_clash (fun _ _ _ _ _ _ us hl => match us, hl with | [_, _], _ => rfl), PySem.W.mg_of X G a_law_clash, k_law_clash⟩
    d_law_certified := ⟨def_mk l_law_certified q_law_certified k_law_certified (fun _ _ _ _ _ _ us hl => match us, hl with | [_, _, _, _, _], _ => rfl), PySem.W.mg_of X G a_law_certified, k_law_certified⟩
    d_law_committed := ⟨def_mk l_law_committed q_law_committed k_law_committed (fun _ _ _ _ _ _ us hl => match us, hl with | [_, _, _, _, _], _ => rfl), PySem.W.mg_of X G a_law_committed, k_law_committed⟩
    d_law_statement := ⟨def_mk l_law_statement q_law_statement k_law_statement (fun _ _ _ _ _ _ us hl => match us, hl with | [_, _], _ => rfl), PySem.W.mg_of X G a_law_statement, k_law_statement⟩
    d_law_letters := ⟨def_mk l_law_letters q_law_letters k_law_letters (fun _ _ _ _ _ _ us hl => match us, hl with | [_, _, _], _ => rfl), PySem.W.mg_of X G a_law_letters, k_law_letters⟩
    d_law_planted := ⟨def_mk l_law_planted q_law_planted k_law_planted (fun _ _ _ _ _ _ us hl => match us, hl with | [_, _], _ => rfl), PySem.W.mg_of X G a_law_planted, k_law_planted⟩
    d_first_wrong := ⟨def_mk l_first_wrong q_first_wrong k_first_wrong (fun _ _ _ _ _ _ us hl => match us, hl with | [_], _ => rfl), PySem.W.mg_of X G a_first_wrong, k_first_wrong⟩
    d_Committee_init := ⟨def_mk l_Committee_init q_Committee_init k_Committee_init (fun _ _ _ _ _ _ us hl => match us, hl with | [_, _], _ => rfl), a_Committee_init, i_Committee_init, k_Committee_init⟩
    d_charges := ⟨def_mk l_charges q_charges k_charges (fun _ _ _ _ _ _ us hl => match us, hl with | [_, _], _ => rfl), PySem.W.mg_of X G a_charges, k_charges⟩ }
  have F5 := fun_mk (st := s_law) l_law q_law k_law
  exact ⟨PySem.W.fnOf "law" "law" (defArgs s_law) (defBody s_law) (defScope s_law) .none kV_law dc_law pm_law an_law cd_law ct_law, fun s v => .of_eq rfl, fun base _ _ => ok_law F5 T⟩
theorem walk {l : PySem.W.OpenLaw} {q : Program} {loose : List Str} {XP : (Str → Option Value) → Heap → Prop} {YP : World → Heap → Prop} {d : DefRec} {K : Params → PySem.W.Frag} (hn : l.most = some 63) (hdf : d.params.defaults = [])
    (hY : ∀ (w : World) (h : Heap), YP w h → (K w.params).In h)
    (F : ∀ (w : World) (mg : Str → Option Value) (fa : Addr) (h : Heap), (K w.params).In h → h.Ns mainGlobals mg → mg d.name = some (.ref fa) →
      ∃ fd : FuncData, (∀ (s : Shared) (u : Value), BindsTo s fd ⟨[u], []⟩ [("script", u)]) ∧ ∀ base : Heap, (K w.params).In base → base.Ns mainGlobals mg → FnOk l.prog w (K w.params) mg base CX0 6 fa fd ["script"] (spLaw (K w.params))) :
    PySem.W.WalkO q loose XP YP l.row.toRowW d [] (fun f vs => PySem.call f vs) :=
  L2.walk_of (n := 63) (k := 6) (x := "script") (CX := fun _ => CX0) (sp := fun w => spLaw (K w.params)) hn (by decide) hdf ⟨rfl, by decide, by decide⟩ hY F (fun _ _ a ns hl _ hS => ⟨a, ns, rfl, hS, hl, fun _ => rfl⟩) fun _ _ _ _ _ z => z
end Toy
open PySem PySem.W PyProof.Rows
set_option maxRecDepth 100000 in
set_option maxHeartbeats 0 in
theorem PySem.Challenge.cw_tribunal_k10_whole_two_commits_convict_a_holds : PySem.Challenge.rw_tribunal_k10_whole_two_commits_convict_a.Holds := by
  w_on; o_law; k_head; (case hw => w_witness2)
  k_fill
  refine Toy.walk (l := PySem.Challenge.rw_tribunal_k10_whole_two_commits_convict_a) rfl rfl (fun w h Y => PySem.W.kIn_of Y) ?F
  case F =>
    intro w mg fa h KX G hmg
    refine' Toy.all_mk KX G hmg ?c_KIND ?c_HEIGHT ?c_TURN ?c_BLOCK ?c_LEAN ?c_MOST_MEMBERS ?c_MOST_WEIGHT ?n_len ?n_range ?n_isinstance ?n_int ?n_bool ?n_list ?n_tuple ?n_sum ?n_enumerate ?g_Committee ?g_Charge ?a_is_vote ?l_is_vote ?q_is_vote ?k_is_vote ?a_abandons ?l_abandons ?q_abandons ?k_abandons ?a_clash ?l_clash ?q_clash ?k_clash ?a_Charge_init ?i_Charge_init ?l_Charge_init ?q_Charge_init ?k_Charge_init ?a_first_clash ?l_first_clash ?q_first_clash ?k_first_clash ?a_charge_of ?l_charge_of ?q_charge_of ?k_charge_of ?a_law_cell ?l_law_cell ?q_law_cell ?k_law_cell ?a_law_row ?l_law_row ?q_law_row ?k_law_row ?a_law_weights ?l_law_weights ?q_law_weights ?k_law_weights ?a_law_weight ?l_law_weight ?q_law_weight ?k_law_weight ?a_law_clash ?l_law_clash ?q_law_clash ?k_law_clash ?a_law_certified ?l_law_certified ?q_law_certified ?k_law_certified ?a_law_committed ?l_law_committed ?q_law_committed ?k_law_committed ?a_law_statement ?l_law_statement ?q_law_statement ?k_law_statement ?a_law_letters ?l_law_letters ?q_law_letters ?k_law_letters ?a_law_planted ?l_law_planted ?q_law_planted ?k_law_planted ?a_first_wrong ?l_first_wrong ?q_first_wrong ?k_first_wrong ?a_Committee_init ?i_Committee_init ?l_Committee_init ?q_Committee_init ?k_Committee_init ?a_charges ?l_charges ?q_charges ?k_charges ?a_law ?l_law ?q_law ?k_law ?pg_Committee ?hd_Committee ?po_Committee ?sa_Committee ?mk_Committee ?kc_Committee ?no_Committee_weights ?no_Committee_size ?no_Committee_total ?pg_Charge ?hd_Charge ?po_Charge ?sa_Charge ?mk_Charge ?kc_Charge ?no_Charge_who ?no_Charge_first ?no_Charge_second
    (case c_KIND => k_is)
    (case c_HEIGHT => k_is)
    (case c_TURN => k_is)
    (case c_BLOCK => k_is)
    (case c_LEAN => k_is)
    (case c_MOST_MEMBERS => k_is)
    (case c_MOST_WEIGHT => k_is)
    (case n_len => k_is)
    (case n_range => k_is)
    (case n_isinstance => k_is)
    (case n_int => k_is)
    (case n_bool => k_is)
    (case n_list => k_is)
    (case n_tuple => k_is)
    (case n_sum => k_is)
    (case n_enumerate => k_is)
    (case g_Committee => k_is)
    (case g_Charge => k_is)
    (case a_is_vote => k_is)
    (case l_is_vote => k_is)
    (case q_is_vote => k_is)
    (case k_is_vote => k_is)
    (case a_abandons => k_is)
    (case l_abandons => k_is)
    (case q_abandons => k_is)
    (case k_abandons => k_is)
    (case a_clash => k_is)
    (case l_clash => k_is)
    (case q_clash => k_is)
    (case k_clash => k_is)
    (case a_Charge_init => k_is)
    (case i_Charge_init => k_is)
    (case l_Charge_init => k_is)
    (case q_Charge_init => k_is)
    (case k_Charge_init => k_is)
    (case a_first_clash => k_is)
    (case l_first_clash => k_is)
    (case q_first_clash => k_is)
    (case k_first_clash => k_is)
    (case a_charge_of => k_is)
    (case l_charge_of => k_is)
    (case q_charge_of => k_is)
    (case k_charge_of => k_is)
    (case a_law_cell => k_is)
    (case l_law_cell => k_is)
    (case q_law_cell => k_is)
    (case k_law_cell => k_is)
    (case a_law_row => k_is)
    (case l_law_row => k_is)
    (case q_law_row => k_is)
    (case k_law_row => k_is)
    (case a_law_weights => k_is)
    (case l_law_weights => k_is)
    (case q_law_weights => k_is)
    (case k_law_weights => k_is)
    (case a_law_weight => k_is)
    (case l_law_weight => k_is)
    (case q_law_weight => k_is)
    (case k_law_weight => k_is)
    (case a_law_clash => k_is)
    (case l_law_clash => k_is)
    (case q_law_clash => k_is)
    (case k_law_clash => k_is)
    (case a_law_certified => k_is)
    (case l_law_certified => k_is)
    (case q_law_certified => k_is)
    (case k_law_certified => k_is)
    (case a_law_committed => k_is)
    (case l_law_committed => k_is)
    (case q_law_committed => k_is)
    (case k_law_committed => k_is)
    (case a_law_statement => k_is)
    (case l_law_statement => k_is)
    (case q_law_statement => k_is)
    (case k_law_statement => k_is)
    (case a_law_letters => k_is)
    (case l_law_letters => k_is)
    (case q_law_letters => k_is)
    (case k_law_letters => k_is)
    (case a_law_planted => k_is)
    (case l_law_planted => k_is)
    (case q_law_planted => k_is)
    (case k_law_planted => k_is)
    (case a_first_wrong => k_is)
    (case l_first_wrong => k_is)
    (case q_first_wrong => k_is)
    (case k_first_wrong => k_is)
    (case a_Committee_init => k_is)
    (case i_Committee_init => k_is)
    (case l_Committee_init => k_is)
    (case q_Committee_init => k_is)
    (case k_Committee_init => k_is)
    (case a_charges => k_is)
    (case l_charges => k_is)
    (case q_charges => k_is)
    (case k_charges => k_is)
    (case a_law => k_is)
    (case l_law => k_is)
    (case q_law => k_is)
    (case k_law => k_is)
    (case pg_Committee => k_is)
    (case hd_Committee => k_is)
    (case po_Committee => k_is)
    (case sa_Committee => k_is)
    (case mk_Committee => k_is)
    (case kc_Committee => k_is)
    (case no_Committee_weights => k_is)
    (case no_Committee_size => k_is)
    (case no_Committee_total => k_is)
    (case pg_Charge => k_is)
    (case hd_Charge => k_is)
    (case po_Charge => k_is)
    (case sa_Charge => k_is)
    (case mk_Charge => k_is)
    (case kc_Charge => k_is)
    (case no_Charge_who => k_is)
    (case no_Charge_first => k_is)
    (case no_Charge_second => k_is)
