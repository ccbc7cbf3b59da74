import PyProof.Rows.All
import Wide.All
import OpenK.AllK
import Wide.FinOn
import HandS.ForMost
import HandS.IsInst
import HandS.TupLe
import HandS.Codes
import HandS.More
import HandS.Exc
import HandS.ExcInit
import HandS.ExcSuper
import HandS.FStr
import HandS.ExcCtx
import HandS.HotCalls
import HandS.ExcInitHot
import HandS.ExcIs
import HandS.ExcField
import HandS.ExcOwn
import KE.KExcIs
import KE.GoesMore
import KE.GoesEnum
import KE.KTupSum
import KE.KExcSuper
import PySem.Challenge.RW_tribunal_k00_weights_and_quorums
set_option Elab.async false
set_option linter.all false
set_option maxRecDepth 100000
set_option maxHeartbeats 4000000
namespace Toy
open PySem L2
def top (i : Nat) : Stmt := PySem.Challenge.pw_tribunal_k00_weights_and_quorums.main.body.getD i (.Pass ⟨0, 0, 0, 0⟩)
abbrev s_law_cell : Stmt := (top 14)
abbrev s_law_is_integer : Stmt := (top 15)
abbrev s_law_row : Stmt := (top 16)
abbrev s_law_weight : Stmt := (top 17)
abbrev s_law_bad : Stmt := (top 18)
abbrev s_first_wrong : Stmt := (top 12)
abbrev s_Committee_init : Stmt := (inClass (top 11) 0)
abbrev s_Committee_weight_of : Stmt := (inClass (top 11) 1)
abbrev s_Committee_is_quorum : Stmt := (inClass (top 11) 2)
abbrev s_Committee_is_third : Stmt := (inClass (top 11) 3)
abbrev s_Committee_leader : Stmt := (inClass (top 11) 4)
abbrev s_law_right : Stmt := (top 19)
abbrev s_law : Stmt := (top 20)
abbrev s_BadWeights_init : Stmt := (inClass (top 2) 0)
abbrev sc_law_cell_N : List Str := ["script", "k"]
theorem sc_law_cell : FnScope sc_law_cell_N ["script", "k"] (defScope s_law_cell) := ⟨rfl, rfl, rfl, by decide +kernel, rfl, by decide +kernel, by decide +kernel⟩
abbrev sc_law_is_integer_N : List Str := ["actual"]
theorem sc_law_is_integer : FnScope sc_law_is_integer_N ["actual"] (defScope s_law_is_integer) := ⟨rfl, rfl, rfl, by decide +kernel, rfl, by decide +kernel, by decide +kernel⟩
abbrev sc_law_row_N : List Str := ["cell", "count", "size", "state", "row", "k"]
theorem sc_law_row : FnScope sc_law_row_N ["cell", "count", "size"] (defScope s_law_row) := ⟨rfl, rfl, rfl, by decide +kernel, rfl, by decide +kernel, by decide +kernel⟩
abbrev sc_law_weight_N : List Str := ["cell"]
theorem sc_law_weight : FnScope sc_law_weight_N ["cell"] (defScope s_law_weight) := ⟨rfl, rfl, rfl, by decide +kernel, rfl, by decide +kernel, by decide +kernel⟩
abbrev sc_law_bad_N : List Str := ["weights", "k"]
theorem sc_law_bad : FnScope sc_law_bad_N ["weights"] (defScope s_law_bad) := ⟨rfl, rfl, rfl, by decide +kernel, rfl, by decide +kernel, by decide +kernel⟩
abbrev sc_first_wrong_N : List Str := ["weights", "at", "weight"]
theorem sc_first_wrong : FnScope sc_first_wrong_N ["weights"] (defScope s_first_wrong) := ⟨rfl, rfl, rfl, by decide +kernel, rfl, by decide +kernel, by decide +kernel⟩
abbrev sc_Committee_init_N : List Str := ["self", "weights", "wrong"]
theorem sc_Committee_init : FnScope sc_Committee_init_N ["self", "weights"] (defScope s_Committee_init) := ⟨rfl, rfl, rfl, by decide +kernel, rfl, by decide +kernel, by decide +kernel⟩
abbrev sc_Committee_weight_of_N : List Str := ["self", "members", "listed", "member", "weight"]
theorem sc_Committee_weight_of : FnScope sc_Committee_weight_of_N ["self", "members"] (defScope s_Committee_weight_of) := ⟨rfl, rfl, rfl, by decide +kernel, rfl, by decide +kernel, by decide +kernel⟩
abbrev sc_Committee_is_quorum_N : List Str := ["self", "members"]
theorem sc_Committee_is_quorum : FnScope sc_Committee_is_quorum_N ["self", "members"] (defScope s_Committee_is_quorum) := ⟨rfl, rfl, rfl, by decide +kernel, rfl, by decide +kernel, by decide +kernel⟩
abbrev sc_Committee_is_third_N : List Str := ["self", "members"]
theorem sc_Committee_is_third : FnScope sc_Committee_is_third_N ["self", "members"] (defScope s_Committee_is_third) := ⟨rfl, rfl, rfl, by decide +kernel, rfl, by decide +kernel, by decide +kernel⟩
abbrev sc_Committee_leader_N : List Str := ["self", "height", "turn"]
theorem sc_Committee_leader : FnScope sc_Committee_leader_N ["self", "height", "turn"] (defScope s_Committee_leader) := ⟨rfl, rfl, rfl, by decide +kernel, rfl, by decide +kernel, by decide +kernel⟩
abbrev sc_law_right_N : List Str := ["committee", "weights", "members", "height", "turn", "weight", "actual", "k"]
theorem sc_law_right : FnScope sc_law_right_N ["committee", "weights", "members", "height", "turn"] (defScope s_law_right) := ⟨rfl, rfl, rfl, by decide +kernel, rfl, by decide +kernel, by decide +kernel⟩
abbrev sc_law_N : List Str := ["script", "weights", "kept", "bad", "committee", "e", "members", "cell", "digit"]
theorem sc_law : FnScope sc_law_N ["script"] (defScope s_law) := ⟨rfl, rfl, rfl, by decide +kernel, rfl, by decide +kernel, by decide +kernel⟩
/-! ### what stands where -/
structure DefAt (K : PySem.W.Frag) (mg : Str → Option Value) (x : Str) (st : Stmt) (ps : List Str) (f : Addr) : Prop where
  F : ∃ fd, Fun K x x st f fd ∧ Binds K fd ps []
  g : mg x = some (.ref f)
  kp : PySem.W.keepIn K (.ref f) = true
structure MethAt (K : PySem.W.Frag) (C : Addr) (x qual : Str) (st : Stmt) (ps : List Str) (f : Addr) : Prop where
  F : ∃ fd, Fun K x qual st f fd ∧ Binds K fd ps []
  fi : PySem.W.findIn K (.ref C) x = some (some (.ref f))
  isf : PySem.W.isFn K (.ref f) = true
  kp : PySem.W.keepIn K (.ref f) = true
theorem def_mk {K : PySem.W.Frag} {x qual : Str} {st : Stmt} {f : Addr} {ps : List Str} {oc : Value} {od an : Option Addr} {osl : Array (Option Value)} {kV doc pm cdv ct : Value}
    (l : K.lookup f = some ⟨oc, od, .func (PySem.W.fnOf x qual (defArgs st) (defBody st) (defScope st) .none kV doc pm an cdv ct), osl⟩)
    (c : PySem.W.codeIn K cdv qual = true) (k : PySem.W.keepIn K (.ref f) = true)
    (h : ∀ (kV doc pm : Value) (an : Option Addr) (cdv ct : Value) (us : List Value), us.length = ps.length → bindArgs (PySem.W.fnOf x qual (defArgs st) (defBody st) (defScope st) .none kV doc pm an cdv ct) ⟨us, []⟩ = pure (ps.zip us)) :
    ∃ fd, Fun K x qual st f fd ∧ Binds K fd ps [] := by
  have F := fun_mk (st := st) l c k
  exact ⟨_, F, F.binds h⟩
theorem mg_no {K : PySem.W.Frag} {h : Heap} {mg : Str → Option Value} {n : Str} (X : K.In h) (G : h.Ns mainGlobals mg) (e : PySem.W.nsIn K mainGlobals n = some none) : mg n = none := PySem.W.mg_none_of X G e
theorem same_new {H : Hp} {p : Addr} {o : HO} (n : H p = Option.none) : Same H (upd H p o) := fun b u e => by
  rw [upd_ne (ne_of_none e n)]
  exact e
theorem same_upd {H H2 : Hp} {p : Addr} {o : HO} (s : Same H H2) (n : H p = Option.none) : Same H (upd H2 p o) := fun b u e => by
  rw [upd_ne (ne_of_none e n)]
  exact s b u e
structure Ads where
  C_Committee : Addr
  d_law_cell : Addr
  d_law_is_integer : Addr
  d_law_row : Addr
  d_law_weight : Addr
  d_law_bad : Addr
  d_first_wrong : Addr
  d_Committee_init : Addr
  d_Committee_weight_of : Addr
  d_Committee_is_quorum : Addr
  d_Committee_is_third : Addr
  d_Committee_leader : Addr
  d_law_right : Addr
  C_BadWeights : Addr
  d_BadWeights_init : Addr
  C_TribunalError : Addr
  C_BadJournal : Addr
  C_BadLine : Addr
  C_BadPaper : Addr
  C_Forged : Addr
  C_Refused : Addr
structure Txt (K : PySem.W.Frag) (mg : Str → Option Value) (a : Ads) : Prop where
  n_len : mg "len" = none
  n_range : mg "range" = none
  n_int : mg "int" = none
  n_bool : mg "bool" = none
  n_isinstance : mg "isinstance" = none
  n_sum : mg "sum" = none
  n_enumerate : mg "enumerate" = none
  n_set : mg "set" = none
  n_tuple : mg "tuple" = none
  n_list : mg "list" = none
  n_super : mg "super" = none
  n_ValueError : mg "ValueError" = none
  c_MOST_MEMBERS : ∃ t, mg "MOST_MEMBERS" = some (.int 16 t)
  c_MOST_WEIGHT : ∃ t, mg "MOST_WEIGHT" = some (.int 1000000000000 t)
  g_Committee : mg "Committee" = some (.ref a.C_Committee)
  cl_Committee : Cls K a.C_Committee
  kc_Committee : PySem.W.keepIn K (.ref a.C_Committee) = true
  mk_Committee : PySem.W.makesIn K a.C_Committee = true
  a_Committee_weights : NoAttr K a.C_Committee "weights"
  a_Committee_size : NoAttr K a.C_Committee "size"
  a_Committee_total : NoAttr K a.C_Committee "total"
  d_law_cell : DefAt K mg "_law_cell" s_law_cell ["script", "k"] a.d_law_cell
  d_law_is_integer : DefAt K mg "_law_is_integer" s_law_is_integer ["actual"] a.d_law_is_integer
  d_law_row : DefAt K mg "_law_row" s_law_row ["cell", "count", "size"] a.d_law_row
  d_law_weight : DefAt K mg "_law_weight" s_law_weight ["cell"] a.d_law_weight
  d_law_bad : DefAt K mg "_law_bad" s_law_bad ["weights"] a.d_law_bad
  d_first_wrong : DefAt K mg "_first_wrong" s_first_wrong ["weights"] a.d_first_wrong
  d_Committee_init : MethAt K a.C_Committee "__init__" "Committee.__init__" s_Committee_init ["self", "weights"] a.d_Committee_init
  d_Committee_weight_of : MethAt K a.C_Committee "weight_of" "Committee.weight_of" s_Committee_weight_of ["self", "members"] a.d_Committee_weight_of
  d_Committee_is_quorum : MethAt K a.C_Committee "is_quorum" "Committee.is_quorum" s_Committee_is_quorum ["self", "members"] a.d_Committee_is_quorum
  d_Committee_is_third : MethAt K a.C_Committee "is_third" "Committee.is_third" s_Committee_is_third ["self", "members"] a.d_Committee_is_third
  d_Committee_leader : MethAt K a.C_Committee "leader" "Committee.leader" s_Committee_leader ["self", "height", "turn"] a.d_Committee_leader
  d_law_right : DefAt K mg "_law_right" s_law_right ["committee", "weights", "members", "height", "turn"] a.d_law_right
theorem Txt.m_Committee {K : PySem.W.Frag} {mg : Str → Option Value} {a : Ads} (T : Txt K mg a) : Mk K a.C_Committee a.d_Committee_init := ⟨T.mk_Committee, T.d_Committee_init.fi, T.d_Committee_init.isf, T.kc_Committee⟩
theorem Txt.me_Committee_weight_of {K : PySem.W.Frag} {mg : Str → Option Value} {a : Ads} (T : Txt K mg a) : Meth K a.C_Committee "weight_of" a.d_Committee_weight_of := ⟨T.d_Committee_weight_of.fi, T.d_Committee_weight_of.isf, T.d_Committee_weight_of.kp⟩
theorem Txt.me_Committee_is_quorum {K : PySem.W.Frag} {mg : Str → Option Value} {a : Ads} (T : Txt K mg a) : Meth K a.C_Committee "is_quorum" a.d_Committee_is_quorum := ⟨T.d_Committee_is_quorum.fi, T.d_Committee_is_quorum.isf, T.d_Committee_is_quorum.kp⟩
theorem Txt.me_Committee_is_third {K : PySem.W.Frag} {mg : Str → Option Value} {a : Ads} (T : Txt K mg a) : Meth K a.C_Committee "is_third" a.d_Committee_is_third := ⟨T.d_Committee_is_third.fi, T.d_Committee_is_third.isf, T.d_Committee_is_third.kp⟩
theorem Txt.me_Committee_leader {K : PySem.W.Frag} {mg : Str → Option Value} {a : Ads} (T : Txt K mg a) : Meth K a.C_Committee "leader" a.d_Committee_leader := ⟨T.d_Committee_leader.fi, T.d_Committee_leader.isf, T.d_Committee_leader.kp⟩
section
open PyProof.Rows
/-! ### own rules: set(list of ints), k in that set; enumerate(a tuple) -/
theorem any_firstMet (zs : List Int) (k : Int) : (PyProof.Rows.firstMet (fun i => zs.getD i 0) zs.length).any (· == k) = decide (k ∈ zs) := by
  rw [PyProof.Rows.firstMet_any, Bool.eq_iff_iff, List.any_eq_true, decide_eq_true_iff]
  constructor
  · rintro ⟨y, hy, e⟩
    obtain ⟨i, hi, rfl⟩ := List.mem_map.mp hy
    have hi' : i < zs.length := List.mem_range.mp hi
    have e' : zs.getD i 0 = k := by simpa using e
    rw [← e', List.getD_eq_getElem?_getD, List.getElem?_eq_getElem hi']
    exact List.getElem_mem hi'
  · intro hk
    obtain ⟨i, hi, e⟩ := List.getElem_of_mem hk
    refine ⟨k, List.mem_map.mpr ⟨i, List.mem_range.mpr hi, ?_⟩, by simp⟩
    show zs.getD i 0 = k
    rw [List.getD_eq_getElem?_getD, List.getElem?_eq_getElem hi]
    exact e
/-- set(xs), xs a list of ints -/
def rSetOfL (K : PySem.W.Frag) : List V → Hp → VK → Prop := fun vs H Q => ∃ (l : Addr) (zs : List Int), vs = [V.ref l] ∧ SqL K H l (zs.map V.int) ∧ zs.length ≤ 1000 ∧
  ∀ (p : Addr) (n : Nat), H p = Option.none → Q (.ref p) (upd H p (.set (fun k => decide (k ∈ zs)) n))
theorem cr_set {X : Cx} (calm : X.calm = true) : CallR X (.type "set") (rSetOfL X.K) := by
  intro pins sh σ H vs us Q I rel hyp
  obtain ⟨l, zs, rfl, hl, few, q⟩ := hyp
  rw [Vals.ref1 rel]
  obtain ⟨its, rv, pl, _⟩ := I.list hl
  have isI := ints_of_vals rv
  have same : its.toArray.size = zs.length := by
    have e := rv.length
    rw [List.length_map] at e
    rw [List.size_toArray]
    exact e.symm
  refine PySem.call_set_list (items := its.toArray) (ns := zs) (I.ok.hd calm) pl.isList (by simpa using isI) (by rw [same]; unfold scanBound; omega) fun h' tk S kp => ?_
  have fresh : H sh.heap.objs.size = Option.none := I.hok.fresh (Nat.le_refl _)
  have e : (fun k => (PyProof.Rows.firstMet (fun i => zs.getD i 0) its.toArray.size).any (· == k)) = fun k => decide (k ∈ zs) := by
    funext k
    rw [same]
    exact any_firstMet zs k
  rw [e] at S
  exact ⟨.ref sh.heap.objs.size, upd H sh.heap.objs.size (.set (fun k => decide (k ∈ zs)) _), I.laid (t' := tk) (fun b o ho => kp b o (Heap.lt_size ho) ho) (Nat.le_refl _) S, rfl, q _ _ fresh⟩
/-- k in such a set -/
def rInSt (neg : Bool) : R2 := fun x y H Q => ∃ (k : Int) (b : Addr) (S : Int → Bool) (n : Nat), x = V.int k ∧ y = V.ref b ∧ H b = some (.set S n) ∧ Q (.bl (if neg then !S k else S k)) H
theorem op_in_set {X : Cx} : OpR X (compareOp .In) (rInSt false) := by
  intro pins sh σ H x y v u Q I r1 r2 hyp
  obtain ⟨k, b, S, n, rfl, rfl, hb, q⟩ := hyp
  obtain ⟨tk, rfl⟩ := r1
  cases r2
  have hS : sh.heap.SetOf (intKind X.prog X.w) b S n := I.hok b _ hb
  exact PySem.wpAny_inSet_of (PySem.intKind_is _ _ _ _) rfl hS ⟨.bl (S k), H, I.tok _, rfl, q⟩
/-- the pairs of enumerate over the tuple at a -/
def Itu (K : PySem.W.Frag) (a : Addr) : It where
  go i H := ∃ (ys : List V) (y : V), SqT K H a ys ∧ ys[i]? = some y
  yld i H v H' := ∃ (p : Addr) (y : V), v = .ref p ∧ H p = Option.none ∧ H' = upd H p (.tup [.int (i : Nat), y]) ∧ ∀ ys, SqT K H a ys → ys[i]? = some y
  stop i H := ∃ ys : List V, SqT K H a ys ∧ ys.length = i
theorem turn_enumT {P : Program} {w : World} {K : PySem.W.Frag} {elts : List Expr} {kk : Nat} {tpos : Pos} (a en it : Addr) (na : a ≠ it) (ne : en ≠ it) (nea : en ≠ a) :
    Turn P w K (.Tuple elts kk tpos) (Itu K a) [en, it] en (fun i h => (∃ old, IsEnum h en it ((i : Nat) : Int) old) ∧ h.IsTupleIter it a i) where
  mem := List.mem_cons_self
  obj := by
    rintro i h ⟨⟨old, he⟩, ⟨o, ho, hc, hd⟩⟩ b hb
    rcases List.mem_cons.mp hb with rfl | hb
    · exact ⟨_, he, fun v z => nomatch z⟩
    · rw [List.mem_singleton.mp hb]
      exact ⟨o, ho, fun v z => by rw [hd] at z; cases z⟩
  keep := by
    rintro i h h' ⟨⟨old, he⟩, hi⟩ kp
    exact ⟨⟨old, kp en List.mem_cons_self _ he⟩, hi.at fun o z => kp it (List.mem_cons_of_mem _ List.mem_cons_self) o z⟩
  item := by
    intro X hP hw hK calm i pins sh σ H E I fp st hg
    subst hP hw hK
    obtain ⟨⟨old, he⟩, hit⟩ := st
    obtain ⟨ys, y, hy, hix⟩ := hg
    obtain ⟨its, rv, tp, _⟩ := I.tuple hy
    obtain ⟨u, hu, ru⟩ := rv.get hix
    have hT : sh.heap.IsTuple a its.toArray := tp
    have hlen : i < its.toArray.size := by
      rw [List.size_toArray]
      exact (List.getElem?_eq_some_iff.mp hu).1
    have len : en < sh.heap.objs.size := Heap.lt_size he
    have lit : it < sh.heap.objs.size := by
      obtain ⟨_, z, _⟩ := hit
      exact Heap.lt_size z
    refine wpAny_pyNext_enum_itemD (Draws.tuple (by simp [I.ok.hd calm]) it a na its.toArray) he ⟨hit, hT⟩ hlen ne (by simp [ne, nea]) fun x h' tk hx ho hst hnew hsz kp => ?_
    have ex : x = u := by
      rw [List.getElem?_toArray, hu] at hx
      exact (Option.some.inj hx).symm
    subst ex
    refine ⟨_, rfl, wpAny_letOwnedTupleGo_enum (s := { sh with heap := h', toks := tk + 1 }) ho fun h2 he2 sb => ?_⟩
    have new2 : h2.get? sh.heap.objs.size = some { cls := .type "tuple", data := .seq #[.int i tk, x] } := (sb.2 _ (Nat.ne_of_gt len)).trans hnew
    have okN : ObjOk X.prog X.w (upd H sh.heap.objs.size (.tup [.int (i : Nat), y])) h2 sh.heap.objs.size (.tup [.int (i : Nat), y]) := by
      refine ⟨(by show 2 ≤ sizeLine; decide), [.int i tk, x], .cons ⟨_, rfl⟩ (.cons ru .nil), ?_⟩
      exact ⟨_, new2, rfl, _, rfl⟩
    have I2 : Inv X pins σ (upd H sh.heap.objs.size (.tup [.int (i : Nat), y])) { sh with heap := h2, toks := tk + 1 } := by
      refine I.turnedNew (ch := [en, it]) (fun b ob hb z => ?_) fp (Nat.le_refl _) okN
      have b1 : b ≠ en := fun q => hb (by rw [q]; exact List.mem_cons_self)
      have b2 : b ≠ it := fun q => hb (by rw [q]; exact List.mem_cons_of_mem _ List.mem_cons_self)
      exact (sb.2 b b1).trans (kp b ob b1 b2 z)
    refine ⟨.ref sh.heap.objs.size, _, I2, rfl, ⟨_, y, rfl, I.hok.fresh (Nat.le_refl _), rfl, fun zs hz => ?_⟩, ⟨⟨x, ?_⟩, hst.1.at fun o z => (sb.2 it (Ne.symm ne)).trans z⟩, fun b hb => ?_⟩
    · rw [I.tuple_inj hz hy]
      exact hix
    · have e1 : ((i + 1 : Nat) : Int) = (i : Int) + 1 := by omega
      rw [e1]
      exact he2
    · have lb : b < sh.heap.objs.size := by
        rcases List.mem_cons.mp hb with rfl | hb
        · exact len
        · rw [List.mem_singleton.mp hb]
          exact lit
      rw [upd_ne (Nat.ne_of_lt lb)]
      exact (fp b hb).1
  done := by
    intro X hP hw hK calm i pins sh σ H E I fp st hg
    subst hP hw hK
    obtain ⟨⟨old, he⟩, hit⟩ := st
    obtain ⟨ys, hy, rfl⟩ := hg
    obtain ⟨its, rv, tp, _⟩ := I.tuple hy
    have hT : sh.heap.IsTuple a its.toArray := tp
    have e : ys.length = its.toArray.size := by
      rw [List.size_toArray]
      exact rv.length
    rw [e] at hit
    obtain ⟨g0, g1, g2, g3, g4, g5⟩ := fp it (List.mem_cons_of_mem _ List.mem_cons_self)
    exact wpAny_pyNext_enum_endD (Draws.tuple (by simp [I.ok.hd calm]) it a na its.toArray) he ⟨hit, hT⟩ fun h' eb => ⟨rfl, I.turned (t' := sh.toks) (fun b o hb z => eb b o hb z) g0 g1 g3 g4 g5⟩
  self := by
    rintro A i s Q E ⟨⟨_, he⟩, _⟩ h
    exact wpAny_pyIter_enum he h
theorem meets_enum1 {v : Value} {o : Obj} {Z : Heap → Prop} (B : Begins v o Z) :
    Meets (Builtin.«enumerate.__new__» ⟨[.type "enumerate", v], []⟩) (fun _ R s => Z s.heap ∧
      R (.ok (.ret (.ref (s.heap.push o).objs.size))) { s with heap := (s.heap.push o).push { cls := .type "enumerate", data := .fields #[.none, .bool false, .ref s.heap.objs.size, rawInt 0, .none, .none] } }) :=
  .of_wp fun prog w A R s hyp => by
    obtain ⟨hp, g, d, tk, os⟩ := s
    obtain ⟨hz, hyp⟩ := hyp
    have sube := sub_enumerate
    have step : ∀ {A' : Around} {E' : Value → Shared → Prop} {Q' : Value → Shared → Prop}, Q' (.ref hp.objs.size) ⟨hp.push o, g, d, tk, os⟩ → wpAny (model prog w) A' (pyIter v) Q' E' ⟨hp, g, d, tk, os⟩ :=
      fun z => B.iter prog w _ _ ⟨hp, g, d, tk, os⟩ _ hz z
    wp_walk using step
    refine wpAny_stack_any fun st => wpAny_pure ?_
    split
    · rename_i c _ _ _ _ _
      cases (c == Value.type "enumerate") <;> (wp_walk using step; exact ⟨_, rfl, hyp⟩)
    · wp_walk using step
      exact ⟨_, rfl, hyp⟩
theorem call_enum1 {prog : Program} {w : World} {A : Around} {E : Value → Shared → Prop} {s : Shared} {v : Value} {o : Obj} {Z : Heap → Prop} {Q : Value → Shared → Prop} (B : Begins v o Z) (hz : Z s.heap)
    (fin : ∀ h', IsEnum h' (s.heap.objs.size + 1) s.heap.objs.size 0 .none → h'.get? s.heap.objs.size = some o → (∀ b u, s.heap.get? b = some u → h'.get? b = some u) → Q (.ref (s.heap.objs.size + 1)) { s with heap := h' }) :
    wpAny (model prog w) A (call (.type "enumerate") [v]) Q E s := by
  have size1 : (s.heap.push o).objs.size = s.heap.objs.size + 1 := Heap.size_push ..
  refine callType_new F.called_enumerate (by decide) (F.typeCall_enumerate_1 _) (F.newCall_enumerate_1 _) (fun obj => F.args_object_init_2 obj _) F.entry_enumerate_new (meets_enum1 B) ⟨hz, ?_⟩
  rw [size1]
  have isE : IsEnum ((s.heap.push o).push { cls := .type "enumerate", data := .fields #[.none, .bool false, .ref s.heap.objs.size, rawInt 0, .none, .none] }) (s.heap.objs.size + 1) s.heap.objs.size 0 .none := by
    have z := Heap.get?_push_size (s.heap.push o) (o := { cls := .type "enumerate", data := .fields #[.none, .bool false, .ref s.heap.objs.size, rawInt 0, .none, .none] }) rfl
    rwa [size1] at z
  exact ⟨⟨_, isE, rfl⟩, fin _ isE (Heap.get?_push_of_some _ (Heap.get?_push_size _ B.free)) fun b u z => Heap.get?_push_of_some _ (Heap.get?_push_of_some _ z)⟩
def iEnumT (K : PySem.W.Frag) (ta : TA) : TI := fun σ H R => ta σ H fun vs H1 => ∃ (a : Addr) (ys : List V), vs = [.ref a] ∧ SqT K H1 a ys ∧ R (Itu K a) H1
theorem pi_enumT {X : Cx} {e : Expr} {ta : TA} {p pos tpos : Pos} {elts : List Expr} {kk : Nat} (gl : Gl X "enumerate") (no : X.mg "enumerate" = none) (pa : PA X [e] ta) (plain : starEach [e] X.env = [(false, eval e X.env)] := by rfl) :
    PI X (.Tuple elts kk tpos) (.Call (.Name "enumerate" p) [e] [] pos) (iEnumT X.K ta) := by
  constructor
  intro pins s σ H R I hyp
  refine PyProof.Rows.Call_ (ld_blt I gl no boot_enumerate (PyProof.Rows.callWith_type1 (thn (pa.run pos pins s σ H _ I hyp) fun us s1 got => ?_) plain rfl))
  obtain ⟨vs, H1, I1, rel, a, ys, rfl, hy, q⟩ := got
  rw [Vals.ref1 rel]
  obtain ⟨its, rv, tp, _⟩ := I1.tuple hy
  have hT : s1.heap.IsTuple a its.toArray := tp
  have la : a < s1.heap.objs.size := by
    obtain ⟨_, z, _⟩ := hT
    exact Heap.lt_size z
  refine call_enum1 (begins_tuple a its.toArray) hT fun h' isE hit kp => wpAny_pyIter_enum isE ?_
  have I2 : Inv X pins σ H1 { s1 with heap := h' } := I1.kept (t' := s1.toks) kp
  refine ⟨s1.heap.objs.size + 1, [s1.heap.objs.size + 1, s1.heap.objs.size], _, _, H1, rfl, I2, turn_enumT a (s1.heap.objs.size + 1) s1.heap.objs.size (Nat.ne_of_lt la) (Nat.succ_ne_self _) (Nat.ne_of_gt (Nat.lt_succ_of_lt la)), ⟨⟨.none, isE⟩, _, hit, rfl, rfl⟩, fun b hb => ?_, q⟩
  have le : s1.heap.objs.size ≤ b := by
    rcases List.mem_cons.mp hb with rfl | hb
    · exact Nat.le_succ _
    · rw [List.mem_singleton.mp hb]
      exact Nat.le_refl _
  exact I1.fpOk le (I1.hok.fresh le)
/-- the forms that one uses: a word by the turn -/
theorem for_enumT {K : PySem.W.Frag} {a : Addr} {ys : List V} {g : TG} {tb : TS} {D : Ends} {σ : L2.St} {H : Hp} (Pv : Nat → L2.St → Hp → Prop) (h0 : Pv 0 σ H) (src : ∀ i σ H, i ≤ ys.length → Pv i σ H → SqT K H a ys)
    (turn : ∀ i y σ H p, ys[i]? = some y → Pv i σ H → H p = Option.none → g (.ref p) σ (upd H p (.tup [.int (i : Nat), y])) fun σ2 H2 => tb { D with nx := Pv (i + 1), ct := Pv (i + 1), bk := D.nx } σ2 H2) (fin : ∀ σ H, Pv ys.length σ H → D.nx σ H) :
    ∃ W : Nat → Nat → L2.St → Hp → Prop, (∃ m, W 0 m σ H) ∧ ∀ i m σ H, W i m σ H →
      ((Itu K a).stop i H ∧ D.nx σ H) ∨ ((Itu K a).go i H ∧ ∃ N : L2.St → Hp → Prop, (∀ σ' H', N σ' H' → ∃ m', m' < m ∧ W (i + 1) m' σ' H') ∧ ∀ x H', (Itu K a).yld i H x H' → g x σ H' fun σ2 H2 => tb { D with nx := N, ct := N, bk := D.nx } σ2 H2) := by
  refine ⟨fun i m σ H => m + i = ys.length ∧ Pv i σ H, ⟨ys.length, Nat.add_zero _, h0⟩, ?_⟩
  rintro i m σ H ⟨em, pv⟩
  have s := src i σ H (by omega) pv
  rcases Nat.lt_or_ge i ys.length with lt | ge
  · refine .inr ⟨⟨ys, ys[i], s, List.getElem?_eq_getElem lt⟩, Pv (i + 1), fun σ' H' z => ⟨m - 1, by omega, by omega, z⟩, ?_⟩
    rintro x H' ⟨p, y, rfl, hp, rfl, hy⟩
    exact turn i y σ H p (hy ys s) pv hp
  · have e : i = ys.length := by omega
    subst e
    exact .inl ⟨⟨ys, s, rfl⟩, fin σ H pv⟩
theorem lc_enumT {K : PySem.W.Frag} {a : Addr} {ys : List V} {g : TG} {tt : TT} {te : TE} {vs : List Nat} {σ : L2.St} {H1 : Hp} {D : Addr} {Qd : Hp → Prop} (Pv : Nat → Hp → Prop) (h0 : Pv 0 (upd H1 D (.lst []))) (src : ∀ i H, i ≤ ys.length → Pv i H → SqT K H a ys)
    (turn : ∀ i y H p, ys[i]? = some y → Pv i H → H p = Option.none → g (.ref p) (wipe σ vs) (upd H p (.tup [.int (i : Nat), y])) fun σ2 H2 => wipe σ2 vs = wipe σ vs ∧ tt σ2 H2 fun b H3 =>
      if b = true then te σ2 H3 fun y H4 => ∃ acc, H4 D = some (.lst acc) ∧ acc.length < sizeLine ∧ Pv (i + 1) (upd H4 D (.lst (acc ++ [y]))) else Pv (i + 1) H3) (fin : ∀ H, Pv ys.length H → Qd H) :
    ∃ W : Nat → Nat → Hp → Prop, (∃ m, W 0 m (upd H1 D (.lst []))) ∧ ∀ i m H, W i m H →
      ((Itu K a).stop i H ∧ Qd H) ∨ ((Itu K a).go i H ∧ ∃ Nx : Hp → Prop, (∀ H', Nx H' → ∃ m', m' < m ∧ W (i + 1) m' H') ∧ ∀ x H', (Itu K a).yld i H x H' → g x (wipe σ vs) H' fun σ2 H2 => wipe σ2 vs = wipe σ vs ∧ tt σ2 H2 fun b H3 =>
        if b = true then te σ2 H3 fun y H4 => ∃ acc, H4 D = some (.lst acc) ∧ acc.length < sizeLine ∧ Nx (upd H4 D (.lst (acc ++ [y]))) else Nx H3) := by
  refine ⟨fun i m H => m + i = ys.length ∧ Pv i H, ⟨ys.length, Nat.add_zero _, h0⟩, ?_⟩
  rintro i m H ⟨em, pv⟩
  have s := src i H (by omega) pv
  rcases Nat.lt_or_ge i ys.length with lt | ge
  · refine .inr ⟨⟨ys, ys[i], s, List.getElem?_eq_getElem lt⟩, Pv (i + 1), fun H' z => ⟨m - 1, by omega, by omega, z⟩, ?_⟩
    rintro x H' ⟨p, y, rfl, hp, rfl, hy⟩
    exact turn i y H p (hy ys s) pv hp
  · have e : i = ys.length := by omega
    subst e
    exact .inl ⟨⟨ys, s, rfl⟩, fin H pv⟩
/-- sum(t), t a tuple of ints -/
def rSumT (K : PySem.W.Frag) : List V → Hp → VK → Prop := fun vs H Q => ∃ (a : Addr) (zs : List Int), vs = [V.ref a] ∧ SqT K H a (zs.map V.int) ∧ Q (.int zs.sum) H
theorem cr_sumT {X : Cx} (calm : X.calm = true) : CallR X (.builtin "sum") (rSumT X.K) := by
  intro pins sh σ H vs us Q I rel hyp
  obtain ⟨a, zs, rfl, hz, q⟩ := hyp
  rw [Vals.ref1 rel]
  obtain ⟨its, rv, tp, _⟩ := I.tuple hz
  have hT : sh.heap.IsTuple a its.toArray := tp
  have isI : IntsAre its zs := Vals.ints rv
  obtain ⟨xs, ex⟩ := isI.allInts.items
  have en : numsOf (intItems xs).toList = zs := by
    rw [← ex]
    exact isI.numsOf
  rw [nums_intItems] at en
  rw [ex] at hT
  refine PySem.W.ktm_sumG (I.ok.hd calm) hT fun h' tk t' kp => ?_
  rw [preSum_eq, List.take_of_length_le (by simp), en]
  exact ⟨.int zs.sum, H, I.kept kp, ⟨_, rfl⟩, q⟩
/-- enumerate over a list, by a word -/
theorem for_enumL {K : PySem.W.Frag} {a : Addr} {ys : List V} {g : TG} {tb : TS} {D : Ends} {σ : L2.St} {H : Hp} (Pv : Nat → L2.St → Hp → Prop) (h0 : Pv 0 σ H) (src : ∀ i σ H, i ≤ ys.length → Pv i σ H → SqL K H a ys)
    (turn : ∀ i y σ H p, ys[i]? = some y → Pv i σ H → H p = Option.none → g (.ref p) σ (upd H p (.tup [.int (i : Nat), y])) fun σ2 H2 => tb { D with nx := Pv (i + 1), ct := Pv (i + 1), bk := D.nx } σ2 H2) (fin : ∀ σ H, Pv ys.length σ H → D.nx σ H) :
    ∃ W : Nat → Nat → L2.St → Hp → Prop, (∃ m, W 0 m σ H) ∧ ∀ i m σ H, W i m σ H →
      ((Ite K a).stop i H ∧ D.nx σ H) ∨ ((Ite K a).go i H ∧ ∃ N : L2.St → Hp → Prop, (∀ σ' H', N σ' H' → ∃ m', m' < m ∧ W (i + 1) m' σ' H') ∧ ∀ x H', (Ite K a).yld i H x H' → g x σ H' fun σ2 H2 => tb { D with nx := N, ct := N, bk := D.nx } σ2 H2) := by
  refine ⟨fun i m σ H => m + i = ys.length ∧ Pv i σ H, ⟨ys.length, Nat.add_zero _, h0⟩, ?_⟩
  rintro i m σ H ⟨em, pv⟩
  have s := src i σ H (by omega) pv
  rcases Nat.lt_or_ge i ys.length with lt | ge
  · refine .inr ⟨⟨ys, ys[i], s, List.getElem?_eq_getElem lt⟩, Pv (i + 1), fun σ' H' z => ⟨m - 1, by omega, by omega, z⟩, ?_⟩
    rintro x H' ⟨p, y, rfl, hp, rfl, hy⟩
    exact turn i y σ H p (hy ys s) pv hp
  · have e : i = ys.length := by omega
    subst e
    exact .inl ⟨⟨ys, s, Nat.le_refl _⟩, fin σ H pv⟩
/-- k in xs, xs a list of ints -/
theorem inV_ints (zs : List Int) (k : Int) : inV (V.int k) (zs.map V.int) = decide (k ∈ zs) := by
  induction zs with
  | nil => rfl
  | cons a r ih =>
    have e : inV (V.int k) ((a :: r).map V.int) = (eqV (V.int a) (V.int k) || inV (V.int k) (r.map V.int)) := rfl
    rw [e, ih]
    by_cases h : a = k
    · subst h
      simp [eqV]
    · have h' : ¬ k = a := fun z => h z.symm
      simp [eqV, h, h']
theorem flat_ints (zs : List Int) : (zs.map V.int).all flatV = true := by
  rw [List.all_eq_true]
  intro x hx
  obtain ⟨z, _, rfl⟩ := List.mem_map.mp hx
  rfl
end

/-! ### the mathematics of weights -/
/-- the weights at the places below n that f lists, in order -/
def pick (ws : List Int) (f : Int → Bool) : Nat → List Int
  | 0 => []
  | n + 1 => if f (n : Int) then pick ws f n ++ [ws.getD n 0] else pick ws f n
def wt (ws : List Int) (f : Int → Bool) (n : Nat) : Int := (pick ws f n).sum
theorem wt_succ (ws : List Int) (f : Int → Bool) (n : Nat) : wt ws f (n + 1) = wt ws f n + (if f (n : Int) then ws.getD n 0 else 0) := by
  unfold wt
  rw [pick]
  split
  · rw [List.sum_append, List.sum_cons, List.sum_nil, Int.add_zero]
  · rw [Int.add_zero]
theorem pick_len (ws : List Int) (f : Int → Bool) : ∀ n, (pick ws f n).length ≤ n
  | 0 => Nat.le_refl _
  | n + 1 => by
    have ih := pick_len ws f n
    rw [pick]
    split
    · rw [List.length_append, List.length_singleton]
      omega
    · omega
theorem wt_congr (ws : List Int) (f g : Int → Bool) : ∀ n, (∀ k : Nat, k < n → f k = g k) → wt ws f n = wt ws g n
  | 0, _ => rfl
  | n + 1, h => by
    rw [wt_succ, wt_succ, wt_congr ws f g n fun k hk => h k (Nat.lt_succ_of_lt hk), h n (Nat.lt_succ_self n)]
theorem wt_take (ws : List Int) : ∀ n, n ≤ ws.length → wt ws (fun _ => true) n = (ws.take n).sum
  | 0, _ => by simp [wt, pick]
  | n + 1, h => by
    have hn : n < ws.length := h
    rw [wt_succ, wt_take ws n (Nat.le_of_lt hn), if_pos rfl, sum_take (List.getElem?_eq_getElem hn), List.getD_eq_getElem?_getD, List.getElem?_eq_getElem hn]
    rfl
theorem wt_all (ws : List Int) : wt ws (fun _ => true) ws.length = ws.sum := by
  rw [wt_take ws _ (Nat.le_refl _), List.take_length]
theorem wt_not (ws : List Int) (f : Int → Bool) : ∀ n, wt ws f n + wt ws (fun k => !f k) n = wt ws (fun _ => true) n
  | 0 => rfl
  | n + 1 => by
    have ih := wt_not ws f n
    rw [wt_succ, wt_succ, wt_succ, if_pos rfl]
    cases f (n : Int)
    · simp
      omega
    · simp
      omega
theorem wt_both (ws : List Int) (f g : Int → Bool) (pos : ∀ k : Nat, 0 ≤ ws.getD k 0) : ∀ n, wt ws f n + wt ws g n ≤ wt ws (fun k => f k && g k) n + wt ws (fun _ => true) n
  | 0 => Int.le_refl _
  | n + 1 => by
    have ih := wt_both ws f g pos n
    have p := pos n
    rw [wt_succ, wt_succ, wt_succ, wt_succ, if_pos rfl]
    cases f (n : Int) <;> cases g (n : Int) <;> simp only [Bool.and_self, Bool.and_true, Bool.and_false, Bool.true_and, Bool.false_and, if_true, Bool.false_eq_true, if_false] <;> omega
/-- the weight of some listed members -/
def wOf (ws ms : List Int) : Int := wt ws (fun k => decide (k ∈ ms)) ws.length
/-- the places below n that f lists -/
def sel (f : Int → Bool) : Nat → List Int
  | 0 => []
  | n + 1 => if f (n : Int) then sel f n ++ [(n : Int)] else sel f n
theorem sel_len (f : Int → Bool) : ∀ n, (sel f n).length ≤ n
  | 0 => Nat.le_refl _
  | n + 1 => by
    have ih := sel_len f n
    rw [sel]
    split
    · rw [List.length_append, List.length_singleton]
      omega
    · omega
theorem mem_sel (f : Int → Bool) (k : Nat) : ∀ n, (k : Int) ∈ sel f n ↔ k < n ∧ f k = true
  | 0 => by simp [sel]
  | n + 1 => by
    have ih := mem_sel f k n
    rw [sel]
    split
    · rename_i h
      rw [List.mem_append, ih, List.mem_singleton]
      constructor
      · rintro (⟨h1, h2⟩ | h1)
        · exact ⟨by omega, h2⟩
        · have e : k = n := by omega
          subst e
          exact ⟨Nat.lt_succ_self _, h⟩
      · rintro ⟨h1, h2⟩
        rcases Nat.lt_or_ge k n with h3 | h3
        · exact .inl ⟨h3, h2⟩
        · exact .inr (by omega)
    · rename_i h
      rw [ih]
      constructor
      · rintro ⟨h1, h2⟩
        exact ⟨by omega, h2⟩
      · rintro ⟨h1, h2⟩
        refine ⟨?_, h2⟩
        rcases Nat.lt_or_ge k n with h3 | h3
        · exact h3
        · have e : k = n := by omega
          subst e
          exact absurd h2 h
/-- who is not listed weighs what is left -/
theorem wOf_rest (ws ms : List Int) : wOf ws ms + wOf ws (sel (fun k => !decide (k ∈ ms)) ws.length) = ws.sum := by
  unfold wOf
  rw [wt_congr ws (fun k => decide (k ∈ sel (fun k => !decide (k ∈ ms)) ws.length)) (fun k => !decide (k ∈ ms)) ws.length fun k hk => ?_]
  · rw [wt_not, wt_all]
  · rw [Bool.eq_iff_iff, decide_eq_true_iff, mem_sel]
    exact ⟨fun z => z.2, fun z => ⟨hk, z⟩⟩
theorem wOf_common (ws ms ns : List Int) (pos : ∀ k : Nat, 0 ≤ ws.getD k 0) : wOf ws ms + wOf ws ns ≤ wOf ws (ms.filter fun k => decide (k ∈ ns)) + ws.sum := by
  unfold wOf
  have h := wt_both ws (fun k => decide (k ∈ ms)) (fun k => decide (k ∈ ns)) pos ws.length
  rw [wt_all] at h
  rw [wt_congr ws (fun k => decide (k ∈ ms.filter fun k => decide (k ∈ ns))) (fun k => decide (k ∈ ms) && decide (k ∈ ns)) ws.length fun k _ => ?_]
  · exact h
  · rw [Bool.eq_iff_iff]
    simp [List.mem_filter]

/-! ### a committee as it stands -/
theorem ne_ws : ¬ (("weights" : Str) = "size") := by decide +kernel
theorem ne_wt : ¬ (("weights" : Str) = "total") := by decide +kernel
theorem ne_st : ¬ (("size" : Str) = "total") := by decide +kernel
def cfs (t : Addr) (ws : List Int) : List (Str × V) := putF "total" (.int ws.sum) (putF "size" (.int ws.length) (putF "weights" (.ref t) []))
theorem cfs_w (t : Addr) (ws : List Int) : (cfs t ws).lookup ("weights" : Str) = some (.ref t) := by
  unfold cfs
  rw [lookup_putF, if_neg ne_wt, lookup_putF, if_neg ne_ws, lookup_putF, if_pos rfl]
theorem cfs_s (t : Addr) (ws : List Int) : (cfs t ws).lookup ("size" : Str) = some (.int ws.length) := by
  unfold cfs
  rw [lookup_putF, if_neg ne_st, lookup_putF, if_pos rfl]
theorem cfs_t (t : Addr) (ws : List Int) : (cfs t ws).lookup ("total" : Str) = some (.int ws.sum) := by
  unfold cfs
  rw [lookup_putF, if_pos rfl]
theorem cfs_no (t : Addr) (ws : List Int) {m : Str} (h1 : ¬ m = "weights") (h2 : ¬ m = "size") (h3 : ¬ m = "total") : (cfs t ws).lookup m = none := by
  unfold cfs
  rw [lookup_putF, if_neg h3, lookup_putF, if_neg h2, lookup_putF, if_neg h1]
  all_goals rfl
def CommAt (C : Addr) (H : Hp) (p : Addr) (ws : List Int) : Prop := ∃ dx t, H p = some (.ins C dx (cfs t ws)) ∧ H t = some (.tup (ws.map V.int))
theorem CommAt.same {C : Addr} {H H' : Hp} {p : Addr} {ws : List Int} (h : CommAt C H p ws) (s : Same H H') : CommAt C H' p ws := by
  obtain ⟨dx, t, h1, h2⟩ := h
  exact ⟨dx, t, s _ _ h1, s _ _ h2⟩
/-- weights that a committee takes -/
def GoodW (ws : List Int) : Prop := 0 < ws.length ∧ ws.length ≤ 16 ∧ ∀ w ∈ ws, 1 ≤ w ∧ w ≤ 1000000000000

/-! ### an own error over ValueError whose __init__(self, x) says super().__init__(a message) and self.field = x -/
section
open PySem.W (ksEnv ksFn ks_superIn kxs_mw)
/-- the context of such an __init__ -/
def cxSup (CX : CXT) (P : Program) (w : World) (K : PySem.W.Frag) (mg : Str → Option Value) (base : Heap) (N : List Str) (qual : Str) (scope : Scope) (f : Addr) (cd : Value) (cc : Addr) (A : Around) (outer : List Env) (s : Shared) (H : Hp) (E : XK) : Cx where
  prog := P
  w := w
  K := K
  mg := mg
  base := base
  A := A.deeper (ksEnv qual scope s.heap.objs.size f cd cc)
  N := N
  s_0 := s
  H_0 := H
  env := ksEnv qual scope s.heap.objs.size f cd cc
  outer := outer
  stack := ksEnv qual scope s.heap.objs.size f cd cc :: outer
  ex := []
  fn := fun _ => false
  calm := true
  pn := []
  xe := fun e s' => wpAny (model P w) (A.deeper (ksEnv qual scope s.heap.objs.size f cd cc)) (leaving (ksEnv qual scope s.heap.objs.size f cd cc) e) (fun _ s2 => CX outer H s E e s2) (fun e2 s2 => CX outer H s E e2 s2) s'
/-- what the written part says of the class at C and of its __init__ at f -/
structure SupCls (P : Program) (K : PySem.W.Frag) (C : Addr) (qual par fld : Str) (st : Stmt) (f : Addr) (fd : FuncData) : Prop where
  fn : ∃ (oc od : _) (kV doc pm : Value) (an : Option Addr) (cda : Addr) (ct : Value) (osl : Array (Option Value)) (cc : Addr) (cl : Value) (cld : Option Addr) (csl : Array (Option Value)) (ccl : Value) (cdd : Option Addr) (vs : Array Value) (ccs : Array (Option Value)) (file : Str) (tf : Tok),
    fd = ksFn "__init__" qual (defArgs st) (defBody st) (defScope st) .none kV doc pm an (.ref cda) ct cc ∧ K.lookup f = some ⟨oc, od, .func fd, osl⟩ ∧ PySem.W.codeIn K (.ref cda) qual = true ∧
    K.lookup cc = some ⟨cl, cld, .cell (some (.ref C)), csl⟩ ∧ K.lookup cda = some ⟨ccl, cdd, .fields vs, ccs⟩ ∧ vs[2]? = some (.str file tf) ∧ ((P.main.file : Str) == file) = true
  oex : OexC K C
  sup : ks_superIn K C C "__init__" = some (some (.builtin "ValueError.__init__"))
  opq : PySem.W.nsIn K cStatics "thirdparty.any" = some none
  subV : PySem.W.subIn K (.ref C) (.type "ValueError") = some true
  mroC : PySem.W.mroIn K C (.ref C) = some true
  nof : PySem.W.findIn K (.ref C) fld = some none
  topS : (P.main.scope.names.lookup ("super" : Str)).isSome = false
/-- the shape of the text -/
structure SupTxt (par fld : Str) (st : Stmt) (msg : Expr) (p0 p1 p2 p3 p4 p5 p6 p7 p8 : Pos) : Prop where
  body : defBody st = [.Expr (.Call (.Attribute (.Call (.Name "super" p0) [] [] p1) "__init__" p2) [msg] [] p3) p4, .Assign [.Attribute (.Name "self" p5) fld p6] (.Name par p7) p8]
  kind : (defScope st).kind = .function
  co : (defScope st).isCoroutine = false
  gen : (defScope st).isGenerator = false
  s1 : (defScope st).names.lookup ("self" : Str) = some .local
  s2 : (defScope st).names.lookup par = some .local
  s3 : (defScope st).names.lookup ("__class__" : Str) = some .free
  s4 : (defScope st).names.lookup ("super" : Str) = some .globalImplicit
  only : ∀ y ∈ (defScope st).names, y.2 ≠ .cell ∧ (y.2 = .free → y.1 = "__class__")
  ps : ∃ ar, ((defArgs st).posonlyargs ++ (defArgs st).args).head? = some ar ∧ ar.arg = "self"
theorem inv_sup {CX : CXT} {P : Program} {w : World} {K : PySem.W.Frag} {mg : Str → Option Value} {base : Heap} {par qual : Str} {scope : Scope} {f cc : Addr} {cd : Value} {A : Around} {outer : List Env} {s : Shared} {h1 : Heap} {H : Hp} {E : XK} {u0 u1 : Value} {v0 v1 : V} {tk : Nat} {D : Value}
    (kind : scope.kind = .function) (only : ∀ y ∈ scope.names, y.2 ≠ .cell ∧ (y.2 = .free → y.1 = ("__class__" : Str))) (l1 : scope.names.lookup ("self" : Str) = some .local) (l2 : scope.names.lookup par = some .local) (np : ¬ ("self" : Str) = par)
    (hd : A.handled = none) (e0 : Env0 P w K mg base A outer s H) (r0 : RelV v0 u0) (r1 : RelV v1 u1)
    (cell : s.heap.IsCell cc (some D)) (free : H cc = Option.none) (small : cc < s.heap.objs.size)
    (ns : h1.Ns s.heap.objs.size (fun x => [(par, u1), (("self" : Str), u0)].lookup x)) (kp : ∀ b o, s.heap.get? b = some o → h1.get? b = some o) :
    L2.Inv (cxSup CX P w K mg base ["self", par] qual scope f cd cc A outer s H E) [] (start ["self", par] [v0, v1]) H { s with heap := h1, toks := tk } := by
  have one : ∀ (x : Str) (c : Addr), (ksEnv qual scope s.heap.objs.size f cd cc).cells.lookup x = some c → x = "__class__" ∧ c = cc := fun x c e => by
    have e' : [(("__class__" : Str), cc)].lookup x = some c := e
    by_cases z : x = "__class__"
    · subst z
      exact ⟨rfl, (Option.some.inj ((show some cc = some c from by simpa [List.lookup] using e'))).symm⟩
    · have b : (x == ("__class__" : Str)) = false := by simpa using z
      simp [List.lookup, b] at e'
  have noA : ∀ b : Addr, b ∉ (cxSup CX P w K mg base ["self", par] qual scope f cd cc A outer s H E).ex := fun b z => absurd (show b ∈ ([] : List Addr) from z) (by simp)
  have ok : (cxSup CX P w K mg base ["self", par] qual scope f cd cc A outer s H E).Ok := {
    mod := e0.mod
    kind := kind
    glob := rfl
    blt := rfl
    above := Nat.le_refl _
    inj := fun x y c h1 h2 => (one x c h1).1.trans (one y c h2).1.symm
    has := fun x hx => by
      have hx' : scope.names.lookup x = some .cell ∨ scope.names.lookup x = some .free := hx
      rcases hx' with hx' | hx'
      · exact absurd rfl (only _ (PySem.mem_of_lookup hx')).1
      · have e : x = "__class__" := (only _ (PySem.mem_of_lookup hx')).2 rfl
        subst e
        exact ⟨cc, rfl⟩
    cab := fun x c h => Bool.noConfusion h
    hd := fun _ => hd
    frames := Around.frames_deeper e0.frames
    stk := .inr ⟨rfl, rfl⟩
    exf := fun b z => absurd z (noA b)
    bs := e0.bs
    bsz := e0.bsz
    noex := fun b _ _ => noA b
    exfs := fun b z => absurd z (noA b)
    funs := e0.funs
    frf := e0.frf }
  exact {
    ok := ok
    os := rfl
    bare := e0.bare
    base := Un.kept kp
    loc := ⟨_, ns, fun i x v h1 h2 h3 => by
      match i, h1, h2 with
      | 0, h1, h2 =>
        cases h1
        cases h2
        refine ⟨u0, r0, .inl ⟨l1, ?_⟩⟩
        show [(par, u1), (("self" : Str), u0)].lookup ("self" : Str) = some u0
        have b : (("self" : Str) == par) = false := by simpa using np
        simp [List.lookup, b]
      | 1, h1, h2 =>
        cases h1
        cases h2
        refine ⟨u1, r1, .inl ⟨l2, ?_⟩⟩
        show (match par == par with | true => some u1 | false => [(("self" : Str), u0)].lookup par) = some u1
        rw [beq_self_eq_true]
      | i + 2, h1, h2 =>
        have h3 : (["self", par] : List Str)[i + 2]? = some x := h1
        simp at h3⟩
    cell := fun x c e => by
      obtain ⟨_, rfl⟩ := one x c e
      obtain ⟨o, ho, hc⟩ := cell
      exact ⟨_, o, kp _ _ ho, hc⟩
    free := e0.hok.fresh (Nat.le_refl _)
    freeC := fun x c e => by
      obtain ⟨_, rfl⟩ := one x c e
      exact free
    pin := fun p hp => absurd (show p ∈ ([] : List (Addr × Obj)) from hp) (by simp)
    hok := e0.hok.kept kp
    len := rfl }
/-- what such an __init__ promises -/
def spSup (C : Addr) (fld : Str) (good : V → Prop) : Sp := fun vs H Q _ => ∃ (e : Addr) (v : V), vs = [.ref e, v] ∧ H e = some (exo e C Option.none) ∧ good v ∧
  ∀ dx, H dx = Option.none → dx ≠ e → Q .non (upd (upd H dx (exd dx [(fld, v)])) e (exo e C (some dx)))
theorem exo_again {X : Cx} {pins : List (Addr × Obj)} {σ : L2.St} {H : Hp} {a C t1 : Addr} {hp h' : Heap} {g : Array GenState} {d : Drawn} {t t' : Nat} {os : OsState} (I : L2.Inv X pins σ H ⟨hp, g, d, t, os⟩) (e : H a = some (exo a C Option.none))
    (kp : ∀ b o, b ≠ a → hp.get? b = some o → h'.get? b = some o) (hx : h'.get? a = some ({ cls := .ref C, dict := Option.none, data := .fields #[.ref t1, .none, .none, .none, .bool false, .none] } : Obj)) : L2.Inv X pins σ H ⟨h', g, d, t', os⟩ := by
  have same : upd H a (exo a C Option.none) = H := by
    funext b
    unfold upd
    split
    · rename_i z
      rw [z, e]
    · rfl
  have J := I.write (t' := t') (x := a) (e := a) (o := exo a C Option.none) (by rw [e]; exact True.intro) (.inl rfl) kp ⟨_, hx⟩ (exo_ok hx)
  rwa [same] at J
/-- the bound ValueError.__init__, called: the error's arguments are laid anew, nothing of it is told -/
theorem call_mw {X : Cx} {pins : List (Addr × Obj)} {σ : L2.St} {H : Hp} {s : Shared} {e C u : Addr} {rest : List Value} {Q : Value → Shared → Prop} {E : Value → Shared → Prop} (T : OexC X.K C) (I : L2.Inv X pins σ H s) (he : H e = some (exo e C Option.none)) (hu : s.heap.get? u = some (kxs_mw "ValueError.__init__" e))
    (few : rest.length ≤ sizeLine) (fin : ∀ s', L2.Inv X pins σ H s' → Q .none s') : wpAny (model X.prog X.w) X.A (call (.ref u) rest) Q E s := by
  obtain ⟨nm, qn, N, bs, bm, sn, sub, ab, col, dd, k0, k1, k2, k3, k5, hC, hbm⟩ := T.cls
  obtain ⟨t1, ho⟩ := exo_at I.hok he
  have hC' := I.kIn _ _ hC
  obtain ⟨hp, g, d, tk, os⟩ := s
  refine wpAny_call (codeAny_of_tree ?_)
  show wpAny _ X.A.in1 (callAny (.ref u) ⟨rest, []⟩) _ _ _
  unfold callAny
  refine wpAny_bind (wpAny_load hu ?_)
  have b : (Value.type "method-wrapper" == Value.type "method" || Value.type "method-wrapper" == Value.type "builtin_function_or_method" ||
      Value.type "method-wrapper" == Value.type "method-wrapper") = true := by decide
  simp only [b, if_true]
  refine PySem.W.KFB.if_so (by decide) (wpAny_bind ?_)
  refine PySem.W.check_bound_init F.excBase_ValueError.toExcCallFacts hC' ho rfl (wpAny_bind (wpAny_pure (wpAny_pure ⟨plainId_quiet F.excBase_ValueError.init.plain _, ?_⟩)))
  refine codeAny_builtin F.excBase_ValueError.initEntry ?_
  exact PySem.W.exc_init_tree (cls := .ref C) (t0 := t1) (dv := Option.none) (c2 := .none) (c3 := .none) (b4 := .bool false) ho few fun h' kp hx _ => fin _ (exo_again I he kp hx)
/-- THE RULE: such an __init__ keeps its promise -/
theorem ok_sup {CX : CXT} {P : Program} {w : World} {K : PySem.W.Frag} {mg : Str → Option Value} {base : Heap} {C f : Addr} {fd : FuncData} {qual par fld : Str} {st : Stmt} {msg : Expr} {p0 p1 p2 p3 p4 p5 p6 p7 p8 : Pos} {good : V → Prop}
    (S : SupCls P K C qual par fld st f fd) (T : SupTxt par fld st msg p0 p1 p2 p3 p4 p5 p6 p7 p8) (np : ¬ ("self" : Str) = par) (nd : (par == ("__debug__" : Str)) = false) (nc : (par == ("__classdict__" : Str)) = false) (noS : mg "super" = Option.none)
    (hmsg : ∀ (cd : Value) (cc : Addr) (A : Around) (outer : List Env) (s : Shared) (H : Hp) (E : XK) (e : Addr) (v : V), good v →
      ∃ ta, PA (cxSup CX P w K mg base ["self", par] qual (defScope st) f cd cc A outer s H E) [msg] ta ∧ ∀ H1 Q, (∀ x, Q [x] H1) → ta (start ["self", par] [.ref e, v]) H1 Q)
    (star : ∀ env, starEach [msg] env = [(false, eval msg env)]) (inter : ∀ L g cd cc, interactive (ksEnv qual (defScope st) L g cd cc) = false) (swap : ∀ L g cd cc, swapsWith (.Call (.Attribute (.Call (.Name "super" p0) [] [] p1) "__init__" p2) [msg] [] p3) Option.none p4.line (ksEnv qual (defScope st) L g cd cc) = pure false)
    (swap2 : ∀ L g cd cc, swapsWith (.Name par p7) (some (.Attribute (.Name "self" p5) fld p6)) p8.line (ksEnv qual (defScope st) L g cd cc) = pure false)
    (pl : Sem Bool) (he : ∀ (env : Env), eval (.Call (.Attribute (.Call (.Name "super" p0) [] [] p1) "__init__" p2) [msg] [] p3) env = (do
      let ov ← attributeBase (.Call (.Name "super" p0) [] [] p1) "__init__" env (eval (.Call (.Name "super" p0) [] [] p1) env)
      standAt p2.atName
      let (f, first) ← holding [ov] (getMethod ov "__init__" pl)
      callWith p3 f first (backTo p3 (starEach [msg] env)) [])) :
    FnOk P w K mg base CX 1 f fd ["self", par] (spSup C fld good) := by
  obtain ⟨oc, od, kV, doc, pm, an, cda, ct, osl, cc, cl, cld, csl, ccl, cdd, vs, ccs, file, tf, rfl, lk, hcd, hcell, hcode, hvs, hfile⟩ := S.fn
  refine ⟨fun vs H Q E h => ?_, fun A outer s H args us vs0 Q E hr e0 hb rel hsp => ?_⟩
  · obtain ⟨e, v, rfl, _⟩ := h
    rfl
  obtain ⟨e, v, rfl, hexo, hgood, fin⟩ := hsp
  have KX : K.In s.heap := e0.mod.kin.keeps fun b o z => (e0.bs b o z).1
  have lim : s.heap.NoLimit := e0.mod.nolimit.keeps fun b o z => (e0.bs b o z).1
  obtain ⟨u0, u1, rfl, r0, r1⟩ := vals2 rel
  have isCell : s.heap.IsCell cc (some (.ref C)) := ⟨_, KX _ _ hcell, rfl⟩
  have freeC : H cc = Option.none := (e0.bs _ _ (e0.mod.kin _ _ hcell)).2
  refine ks_codeAny_call_defAt (fd := ksFn "__init__" qual (defArgs st) (defBody st) (defScope st) .none kV doc pm an (.ref cda) ct cc) (body := defBody st) (binds := [(("self" : Str), u0), (par, u1)]) hr.depth (KX _ _ lk) rfl lim (PySem.W.codeRec_of KX hcd) rfl hb (fun x hx => (T.only x hx).1) ?_ (fun h1 ns kp => ?_) T.co T.gen T.kind
  · intro y hy
    rcases List.mem_cons.mp hy with rfl | hy
    · exact T.s1
    · rw [List.mem_singleton.mp hy]
      exact T.s2
  have I : L2.Inv (cxSup CX P w K mg base ["self", par] qual (defScope st) f (.ref cda) cc A outer s H E) [] (start ["self", par] [.ref e, v]) H { s with heap := h1, toks := s.toks + 2 } :=
    inv_sup T.kind T.only T.s1 T.s2 np hr.hd e0 r0 r1 isCell freeC (Heap.lt_size (KX _ _ hcell)) ns kp
  show wpAt (model P w) (A.deeper (ksEnv qual (defScope st) s.heap.objs.size f (.ref cda) cc)) (.func (defBody st) (ksEnv qual (defScope st) s.heap.objs.size f (.ref cda) cc)) (execs (defBody st) (ksEnv qual (defScope st) s.heap.objs.size f (.ref cda) cc)) _ _ _
  rw [T.body]
  obtain ⟨hp, g, d, tk, os⟩ := s
  have up : ∀ b o, base.get? b = some o → h1.get? b = some o := fun b o z => kp b o (e0.bs b o z).1
  have K1 : K.In h1 := e0.mod.kin.keeps up
  obtain ⟨mb, hmb, hbb⟩ := e0.mod.blt
  obtain ⟨ar, har, earg⟩ := T.ps
  cases (show u0 = Value.ref e from r0)
  obtain ⟨t1, hx⟩ := exo_at I.hok hexo
  obtain ⟨nm, qn, N, bs, bm, sn, sub, ab, col, dd, k0, k1, k2, k3, k5, hC, hbm⟩ := S.oex.cls
  have hcl : PySem.W.clsIn K C = some { name := nm, bases := bs, mro := .ref C :: bm, ns := N, qualname := qn, hasDict := true, slotNames := sn, subclasses := sub, abstract := ab, collection := col, hasDel := false } := by
    unfold PySem.W.clsIn
    rw [hC]
  refine ks_wpAt_execs_cons (ks_wpAt_Expr_any (ks_wpAt_MethodCall (pl := pl) ?_ (he _)) (inter _ _ _ _) (swap _ _ _ _))
  refine ks_wpAt_super_base (env := ksEnv qual (defScope st) hp.objs.size f (.ref cda) cc) T.s4 T.s3 (by decide) rfl (kp _ _ (KX _ _ lk)) rfl har rfl (K1 _ _ hcode) rfl hvs hfile S.topS ?_
  refine PySem.W.ks_loadName_global T.kind T.s4 (PySem.Calls.loadGlobal_builtin (env := ksEnv qual (defScope st) hp.objs.size f (.ref cda) cc) (e0.mod.glob.keeps up) noS (hmb.keeps up) ((hbb "super" (by decide)).trans (by decide +kernel)) ⟨rfl, ?_⟩)
  refine wpAny_loadName_free T.kind T.s3 rfl ⟨_, K1 _ _ hcell, rfl⟩ ?_
  rw [earg]
  refine wpAny_loadName_local T.kind T.s1 ns (v := .ref e) ?_ ?_
  · show [(par, u1), (("self" : Str), Value.ref e)].lookup ("self" : Str) = some (.ref e)
    have b : (("self" : Str) == par) = false := by simpa using np
    simp [List.lookup, b]
  refine ks_wpAny_isType_cls (K1 _ _ hC) rfl ⟨rfl, ?_⟩
  refine ks_wpAny_call_super (K1 _ _ hC) rfl hx rfl (fun c z => by cases z) (PySem.W.looks_mroIn K1 S.mroC) (fun h2 hso kp2 => ?_)
  have K2 : K.In h2 := K1.keeps kp2
  have hx2 := kp2 _ _ hx
  have inst : PySem.W.InstAt h2 e { cls := .ref C, dict := Option.none, data := .fields #[.ref t1, .none, .none, .none, .bool false, .none] } C Option.none := ⟨hx2, rfl, rfl, trivial⟩
  have hf := S.sup
  unfold ks_superIn at hf
  rw [hcl] at hf
  have neC : e ≠ C := fun z => by
    have q := (e0.bs _ _ (e0.mod.kin _ _ hC)).2
    rw [← z, hexo] at q
    cases q
  refine PySem.W.kxs_getMethod PySem.W.kxs_ValueError hso (PySem.W.looks_opaque K2 S.opq) (l₀ := .ref C :: bm) ((PySem.W.looks_clsIn K2 hcl).andThen .now) rfl K2 hf (inst.type.andThen (PySem.W.looks_subIn K2 S.subV)) neC (by decide) ?_
  have hmw : (h2.push (kxs_mw "ValueError.__init__" e)).get? h2.objs.size = some (kxs_mw "ValueError.__init__" e) := Heap.get?_push_size _ rfl
  have kp3 : ∀ b o, h1.get? b = some o → (h2.push (kxs_mw "ValueError.__init__" e)).get? b = some o := fun b o z => Heap.get?_push_of_some _ (kp2 b o z)
  have Ih := I.kept (h' := h2) (t' := tk + 2) kp2
  have I2 := I.kept (h' := h2.push (kxs_mw "ValueError.__init__" e)) (t' := tk + 2 + 1) kp3
  have I3 : L2.Inv (cxSup CX P w K mg base ["self", par] qual (defScope st) f (.ref cda) cc A outer ⟨hp, g, d, tk, os⟩ H E) [(h2.objs.size, kxs_mw "ValueError.__init__" e)] (start ["self", par] [.ref e, v]) H ⟨h2.push (kxs_mw "ValueError.__init__" e), g, d, tk + 2 + 1, os⟩ := { I2 with
    pin := fun p hp' => by
      cases List.mem_singleton.mp hp'
      refine ⟨hmw, Ih.hok.fresh (Nat.le_refl _), Nat.ne_of_gt Ih.lt, Ih.nofs (Nat.le_refl _), fun c z => by cases z⟩ }
  obtain ⟨ta, pa, rd⟩ := hmsg (.ref cda) cc A outer ⟨hp, g, d, tk, os⟩ H E e v hgood
  have st1 := star (ksEnv qual (defScope st) hp.objs.size f (.ref cda) cc)
  have ran : wpAny (model P w) (A.deeper (ksEnv qual (defScope st) hp.objs.size f (.ref cda) cc)) (spliced (backTo p3 (starEach [msg] (ksEnv qual (defScope st) hp.objs.size f (.ref cda) cc)))) _ _ _ :=
    pa.run p3 _ _ _ _ (fun vs H1 => H1 = H ∧ vs.length = 1) I3 (rd H _ fun x => ⟨rfl, rfl⟩)
  show wpAny _ _ (callWith p3 (.ref h2.objs.size) [] (backTo p3 (starEach [msg] (ksEnv qual (defScope st) hp.objs.size f (.ref cda) cc))) []) _ _ _
  rw [st1] at ran ⊢
  refine PySem.W.kxs_callWith (i := "ValueError.__init__") (x := e) (u := h2.objs.size) rfl (PySem.Calls.evalArgs_plain (thn ran fun us s3 got => ?_))
  obtain ⟨vs1, H1, I4, rel1, rfl, len1⟩ := got
  have hu := (I4.pin _ List.mem_cons_self).1
  refine ⟨hu, call_mw S.oex I4 hexo hu (by show us.length ≤ sizeLine; rw [← Vals.length rel1, len1, sizeLine_eq]; decide) fun s4 I5 => ?_⟩
  have last : PSs (cxSup CX P w K mg base ["self", par] qual (defScope st) f (.ref cda) cc A outer ⟨hp, g, d, tk, os⟩ H1 E) [.Assign [.Attribute (.Name "self" p5) fld p6] (.Name par p7) p8] _ :=
    pss_one (ps_ost (pv 0 rfl (.inl T.s1)) (pv 1 rfl (.inl T.s2) nd nc) (swap2 _ _ _ _))
  refine wpAt_of_wpAny (thn (last.run _ s4 _ H1 { nx := fun _ H2 => Q .non H2, rt := Q } I5 ⟨v, rfl, .ref e, rfl, e, C, rfl, S.oex, S.nof, .inl ⟨hexo, fin⟩⟩) fun fl s5 got => ?_)
  cases fl with
  | next =>
    obtain ⟨σ', H', J, q⟩ := got
    exact ⟨V.non, H', J.os, J.bare, J.base, J.hok, rfl, q⟩
  | ret u =>
    obtain ⟨y, σ', H', J, ry, q⟩ := got
    exact ⟨y, H', J.os, J.bare, J.base, J.hok, ry, q⟩
  | brk =>
    obtain ⟨_, _, _, q⟩ := got
    exact q.elim
  | cont =>
    obtain ⟨_, _, _, q⟩ := got
    exact q.elim
end

/-! ### raising such an error where nothing is handled; a new object whose __init__ may raise; isinstance of a caught error -/
theorem fun_okN {P : Program} {w : World} {K : PySem.W.Frag} {mg : Str → Option Value} {base : Heap} {x qual : Str} {st : Stmt} {f : Addr} {fd : FuncData} {N ps : List Str} {k : Nat} {sp : Sp} (F : Fun K x qual st f fd) (S : FnScope N ps (defScope st))
    (len : ∀ vs H Q E, sp vs H Q E → vs.length = ps.length)
    (body : ∀ (cdv : Value) (A : Around) (outer : List Env) (s : Shared) (H : Hp) (vs : List V) (Q : VK) (E : XK), Room k (A.deeper (PyProof.Rows.envOfC qual (defScope st) s.heap.objs.size f cdv)) → sp vs H Q E →
      ∃ t, PSs (cxOf (L2N.CX P w) P w K mg base N qual (defScope st) f cdv A outer s H E) (defBody st) t ∧ t { nx := fun _ H' => Q .non H', rt := Q } (start N vs) H) : FnOk P w K mg base (L2N.CX P w) (k + 1) f fd ps sp := by
  obtain ⟨oc, od, kV, doc, pm, an, cdv, ct, osl, rfl, lk, hcd⟩ := F.ex
  exact fn_of lk hcd S len fun A outer s H vs Q E hr h => body cdv A outer s H vs Q E hr h
/-- a def that lets nothing out lets nothing out -/
theorem weak_cx {P : Program} {w : World} {K : PySem.W.Frag} {mg : Str → Option Value} {base : Heap} {CX : CXT} {k : Nat} {f : Addr} {fd : FuncData} {ps : List Str} {sp : Sp} (F : FnOk P w K mg base CX0 k f fd ps sp) : FnOk P w K mg base CX k f fd ps sp :=
  ⟨F.len, fun A outer s H args us vs Q E hr e0 hb r h => codeAny_mono (F.run A outer s H args us vs Q E hr e0 hb r h) fun res s' q => by
    cases res with
    | error e => exact False.elim q
    | ok fl => cases fl <;> exact q⟩
def tSup (C : Addr) (fld : Str) (good : V → Prop) (ta : TA) : L2.St → Hp → XK → Prop := fun σ H Q => ta σ H fun vs H1 => ∃ v, vs = [v] ∧ good v ∧ ∀ d, H1 d = Option.none → Q (.ref C) (some d) (upd H1 d (.xd [(fld, v)]))
theorem sup_heap {H : Hp} {a d C : Addr} {fs : List (Str × V)} (ha : H a = Option.none) (ne : d ≠ a) : upd (del (upd (upd (upd H a (exo a C Option.none)) d (exd d fs)) a (exo a C (some d))) a) d (.xd fs) = upd H d (.xd fs) := by
  funext b
  by_cases hd : b = d
  · subst hd
    rw [upd_same, upd_same]
  · rw [upd_ne hd, upd_ne hd]
    by_cases hb : b = a
    · subst hb
      rw [del_same, ha]
    · rw [del_ne hb, upd_ne hb, upd_ne hd, upd_ne hb]
theorem pmk_sup {X : Cx} {x fld par : Str} {e : Expr} {ta : TA} {p pos : Pos} {C fI : Addr} {fd : FuncData} {good : V → Prop} (T : OexC X.K C) (iC : PySem.W.findIn X.K (.ref C) "__init__" = some (some (.ref fI))) (tI : PySem.W.typeIn X.K (.ref fI) = some (.type "function"))
    (F1 : FnOk X.prog X.w X.K X.mg X.base CX0 1 fI fd ["self", par] (spSup C fld good)) (hr : Room 2 X.A) (hb : Binds X.K fd ["self", par] []) (hg : Gl X x) (hm : X.mg x = some (.ref C)) (ha : PA X [e] ta)
    (hdb : (x == ("__debug__" : Str)) = false := by decide) (he : starEach (e :: []) X.env = (false, eval e X.env) :: starEach [] X.env := by rfl) (hpl : (backTo pos (starEach [] X.env)).any (·.1) = false := by rfl) :
    L2N.PMk X (.Call (.Name x p) [e] [] pos) (tSup C fld good ta) := by
  intro pins s σ H Q I hyp
  obtain ⟨nm, qn, N, bs, bm, sn, sub, ab, col, dd, k0, k1, k2, k3, k5, hC, hbm⟩ := T.cls
  refine wpAny_Call_Name_kw (ld_glob I hg hm ?_ hdb)
  refine PySem.W.callWith_K (h₀ := X.base) I.ok.mod.kin T.kC (thn (ha.run pos pins s σ H _ I hyp) fun us s1 got => ?_) he hpl
  obtain ⟨vs, H1, I1, rel, v, rfl, gv, q⟩ := got
  refine ⟨I1.kIn, ?_⟩
  show wpAny _ _ (call (.ref C) us) _ _ _
  obtain ⟨hp, g, dr, tk, os⟩ := s1
  have above : hp.objs.size ≤ hp.objs.size + 1 := Nat.le_succ _
  have free : H1 (hp.objs.size + 1) = Option.none := I1.hok.fresh above
  have grown : ∀ b o, hp.get? b = some o → ((hp.push (PySem.W.kdv_tup us)).push (PySem.HandSPX.excO C hp.objs.size)).get? b = some o := fun b o z => Heap.get?_push_of_some _ (Heap.get?_push_of_some _ z)
  have there : ((hp.push (PySem.W.kdv_tup us)).push (PySem.HandSPX.excO C hp.objs.size)).get? (hp.objs.size + 1) = some (PySem.HandSPX.excO C hp.objs.size) := by heap_get
  have I2 := I1.laid (t' := tk) (a := hp.objs.size + 1) (o := exo (hp.objs.size + 1) C Option.none) (h' := (hp.push (PySem.W.kdv_tup us)).push (PySem.HandSPX.excO C hp.objs.size)) grown above (exo_ok there)
  have rel2 : Vals [V.ref (hp.objs.size + 1), v] (Value.ref (hp.objs.size + 1) :: us) := .cons rfl rel
  have two : (Value.ref (hp.objs.size + 1) :: us).length = 2 := rel2.length.symm
  have bind := hb ⟨(hp.push (PySem.W.kdv_tup us)).push (PySem.HandSPX.excO C hp.objs.size), g, dr, tk, os⟩ (Value.ref (hp.objs.size + 1) :: us) I2.kIn (by rw [List.append_nil]; exact two)
  rw [List.append_nil] at bind
  have few : us.length ≤ sizeLine := by
    rw [← Vals.length rel, sizeLine_eq]
    show 1 ≤ 16777216
    decide
  refine wpAny_call (PySem.HandSPX.call_own F.excBase_ValueError (fun Y => PySem.HandSPX.refsVE_contains Y bm hbm) (I1.kIn _ _ hC) (PySem.W.looks_findIn I1.kIn iC) (fun self => PySem.W.bind_fn I1.kIn self tI) few ?_)
  refine codeAny_mono (F1.run _ X.stack _ _ ⟨Value.ref (hp.objs.size + 1) :: us, []⟩ _ _ (fun y H2 => y = .non ∧ ∃ d, H1 d = Option.none ∧ d ≠ hp.objs.size + 1 ∧ H2 = upd (upd (upd H1 (hp.objs.size + 1) (exo (hp.objs.size + 1) C Option.none)) d (exd d [(fld, v)])) (hp.objs.size + 1) (exo (hp.objs.size + 1) C (some d)))
    (fun _ _ _ => False) ((hr.make (k := 1) C us [])) (I2.env0.make C us []) bind rel2 ⟨_, v, rfl, upd_same, gv, fun d hd nd => ⟨rfl, d, (by rwa [upd_ne nd] at hd), nd, rfl⟩⟩) fun res s2 fin => ?_
  cases res with
  | error z => exact False.elim fin
  | ok fl =>
    cases fl with
    | ret u =>
      obtain ⟨y, H2, os2, bare2, un2, hok2, ry, rfl, d, hd, nd, rfl⟩ := fin
      obtain ⟨h2, g2, d2, t2, os'⟩ := s2
      have ea : upd (upd (upd H1 (hp.objs.size + 1) (exo (hp.objs.size + 1) C Option.none)) d (exd d [(fld, v)])) (hp.objs.size + 1) (exo (hp.objs.size + 1) C (some d)) (hp.objs.size + 1) = some (exo (hp.objs.size + 1) C (some d)) := upd_same
      have ed : upd (upd (upd H1 (hp.objs.size + 1) (exo (hp.objs.size + 1) C Option.none)) d (exd d [(fld, v)])) (hp.objs.size + 1) (exo (hp.objs.size + 1) C (some d)) d = some (exd d [(fld, v)]) := by rw [upd_ne nd, upd_same]
      obtain ⟨t0, G, J, kG, ge, hoe, na⟩ := mk_end0 (d2 := d2) (t2 := t2) I1 above grown un2 hok2 os2 bare2 ea ed hd
      rw [sup_heap free nd] at J na
      refine ⟨ry, hp.objs.size + 1, _, _, ⟨G, g2, d2, t2, os'⟩, _, .ref C, some d, rfl, J, kG, ge, hoe, ⟨rfl, rfl, fun fv z => ?_⟩, rfl, rfl, na, rfl, bare2, raises_own T.exC T.tyC, q d hd⟩
      cases z
      rfl
    | next => exact False.elim fin
    | brk => exact False.elim fin
    | cont => exact False.elim fin
/-- C(e, ..) within a try: what __init__ lets out is wished for at the slots -/
def tMakeS (C : Addr) (sp : Sp) (E : L2.St → XK) (t : TA) : TE := fun σ H Q => t σ H fun vs H1 => ∀ x dx, H1 x = Option.none → H1 dx = Option.none → dx ≠ x → sp (.ref x :: vs) (upd (upd H1 dx (.own x)) x (.ins C dx [])) (fun v H2 => v = .non ∧ Q (.ref x) H2) (E σ)
theorem pe_makeS {X : Cx} {CX : CXT} {k : Nat} {f C : Addr} {fd : FuncData} {ps : List Str} {sp : Sp} {E : L2.St → XK} {x : Str} {p pos : Pos} {e : Expr} {es : List Expr} {t : TA} (M : Mk X.K C f) (F : FnOk X.prog X.w X.K X.mg X.base CX k f fd ps sp) (hr : Room (k + 1) X.A) (hg : Gl X x) (hm : X.mg x = some (.ref C))
    (hb : Binds X.K fd ps []) (hx : ∀ (pins : List (Addr × Obj)) (σ : L2.St) (H : Hp) (s : Shared) (u : Value) (s' : Shared), L2.Inv X pins σ H s → CX X.stack H s (E σ) u s' → X.xe u s')
    (ha : PA X (e :: es) t) (hdb : (x == ("__debug__" : Str)) = false := by decide) (he : starEach (e :: es) X.env = (false, eval e X.env) :: starEach es X.env := by rfl) (hpl : (backTo pos (starEach es X.env)).any (·.1) = false := by rfl) :
    PE X (.Call (.Name x p) (e :: es) [] pos) (tMakeS C sp E t) := by
  constructor
  intro pins s σ H Q I hyp
  refine wpAny_Call_Name_kw (ld_glob I hg hm ?_ hdb)
  refine PySem.W.callWith_K (h₀ := X.base) I.ok.mod.kin M.kp (thn (ha.run pos pins s σ H _ I hyp) fun us s1 got => ?_) he hpl
  obtain ⟨vs, H1, I1, rel, q⟩ := got
  refine ⟨I1.kIn, ?_⟩
  have I2 := Inv.made (C := C) I1
  have prom := q (s1.heap.objs.size + 1) s1.heap.objs.size (I1.hok.fresh (Nat.le_succ _)) (I1.hok.fresh (Nat.le_refl _)) (Nat.ne_of_lt (Nat.lt_succ_self _))
  have rel2 : Vals (V.ref (s1.heap.objs.size + 1) :: vs) (Value.ref (s1.heap.objs.size + 1) :: us) := .cons rfl rel
  have len : (Value.ref (s1.heap.objs.size + 1) :: us ++ []).length = ps.length := by
    rw [List.append_nil, ← F.len _ _ _ _ prom]
    exact rel2.length.symm
  have bind := hb _ (Value.ref (s1.heap.objs.size + 1) :: us) I2.kIn len
  rw [List.append_nil] at bind
  refine wpAny_call (make_map (f := f) I1.kIn M.makes M.init (beq_iff_eq.mp M.fn) (codeAny_mono (F.run _ X.stack _ _ ⟨Value.ref (s1.heap.objs.size + 1) :: us, []⟩ _ _ _ (E σ) (hr.make C us []) (I2.env0.make C us []) bind rel2 prom) fun res s2 fin => ?_))
  cases res with
  | error z => exact hx pins σ _ _ z s2 I2 fin
  | ok fl =>
    cases fl with
    | ret u =>
      obtain ⟨v, H', I3, rv, rfl, q3⟩ := I2.after fin
      exact ⟨rv, V.ref (s1.heap.objs.size + 1), H', I3, rfl, q3⟩
    | next => exact False.elim fin
    | brk => exact False.elim fin
    | cont => exact False.elim fin
/-- isinstance(e, a class), e the caught error of the class at D with its dict -/
structure XcC (K : PySem.W.Frag) (D : Addr) : Prop where
  cl : (PySem.W.clsIn K D).isSome = true
  ga : PySem.W.findIn K (.ref D) "__getattribute__" = some (some (.builtin "BaseException.__getattribute__"))
  gt : PySem.W.findIn K (.ref D) "__getattr__" = some Option.none
  sub : PySem.W.subIn K (.ref D) (.type "BaseException") = some true
  has : PySem.W.hasDictIn K D = true
  cls : PySem.W.findIn K (.ref D) "__class__" = some (some (.builtin "object.__class__"))
  get : PySem.W.specialIn K (.builtin "object.__class__") "__get__" = some (some (.builtin "getset_descriptor.__get__"))
  tk : PySem.W.takesIn K (.builtin "object.__class__") = some true
  obj : PySem.W.mroIn K D (.type "object") = some true
theorem xc_at {X : Cx} {pins : List (Addr × Obj)} {σ : L2.St} {H : Hp} {s : Shared} {a D dd : Addr} {oe : Obj} {pn : List (Addr × Obj)} {fs : List (Str × V)} (I : L2.Inv (X.suite a ((a, oe) :: pn)) pins σ H s) (hz : Zc (.ref D) (some dd) oe) (hf : ∃ vs, oe.data = .fields vs) (hd : H dd = some (.xd fs)) :
    ∃ od, PySem.W.InstAt s.heap a oe D (some od) := by
  obtain ⟨got, _⟩ := I.pin (a, oe) (List.mem_append_left _ List.mem_cons_self)
  obtain ⟨vs, hv⟩ := hf
  have x : ObjOk X.prog X.w H s.heap dd (.xd fs) := I.hok dd _ hd
  obtain ⟨mA, ⟨od, _, _, ho, _⟩, _⟩ := x
  obtain ⟨oc, odd, oda, osl⟩ := oe
  obtain ⟨h1, h2⟩ := hz
  dsimp only at h1 h2 hv
  subst h1 h2 hv
  exact ⟨od, got, rfl, rfl, ho⟩
def rIsX (K : PySem.W.Frag) (a : Addr) (cls : Value) (d : Option Addr) : List V → Hp → VK → Prop := fun xs H Q => ∃ (D dd : Addr) (c : V) (cv : Value) (b : Bool) (fs : List (Str × V)), xs = [.ref a, c] ∧ cls = .ref D ∧ d = some dd ∧ XcC K D ∧ ClsV c cv ∧ H dd = some (.xd fs) ∧
  PySem.W.kitOne K (.ref D) cv = some b ∧ Q (.bl b) H
theorem call_isX {X : Cx} {a : Addr} {cls : Value} {d : Option Addr} {oe : Obj} {pn : List (Addr × Obj)} (hz : Zc cls d oe) (hf : ∃ vs, oe.data = .fields vs) : CallR (X.suite a ((a, oe) :: pn)) (.builtin "isinstance") (rIsX X.K a cls d) := by
  intro pins sh σ H xs us Q I rel hyp
  obtain ⟨D, dd, c, cv, b, fs, rfl, rfl, rfl, C, hcv, hd, e, q⟩ := hyp
  obtain ⟨u1, u2, rfl, r1, r2⟩ := vals2 rel
  have e2 := hcv.eq r2
  subst e2
  cases r1
  obtain ⟨od, J⟩ := xc_at I hz hf hd
  exact PySem.W.kia_one (PySem.W.kitx_exc C.cl C.ga C.gt C.sub C.cls C.get C.tk C.obj) I.kIn J e (fun z => nomatch z) fun tk => ⟨.bl b, H, I.kept (t' := tk) fun _ _ z => z, rfl, q⟩
def rIsXT (K : PySem.W.Frag) (a : Addr) (cls : Value) (d : Option Addr) : List V → Hp → VK → Prop := fun xs H Q => ∃ (D dd tp : Addr) (cs : List V) (cvs : List Value) (b : Bool) (fs : List (Str × V)), xs = [.ref a, .ref tp] ∧ cls = .ref D ∧ d = some dd ∧ XcC K D ∧
  H tp = some (.tup cs) ∧ Paired ClsV cs cvs ∧ H dd = some (.xd fs) ∧ PySem.W.kitAny K (.ref D) cvs = some b ∧ Q (.bl b) H
theorem call_isXT {X : Cx} {a : Addr} {cls : Value} {d : Option Addr} {oe : Obj} {pn : List (Addr × Obj)} (hz : Zc cls d oe) (hf : ∃ vs, oe.data = .fields vs) : CallR (X.suite a ((a, oe) :: pn)) (.builtin "isinstance") (rIsXT X.K a cls d) := by
  intro pins sh σ H xs us Q I rel hyp
  obtain ⟨D, dd, tp, cs, cvs, b, fs, rfl, rfl, rfl, C, ht, hcs, hd, e, q⟩ := hyp
  obtain ⟨u1, u2, rfl, r1, r2⟩ := vals2 rel
  cases r1
  cases (show u2 = Value.ref tp from r2)
  obtain ⟨od, J⟩ := xc_at I hz hf hd
  have x : ObjOk X.prog X.w H sh.heap tp (.tup cs) := I.hok tp _ ht
  obtain ⟨_, its, rv, ⟨oc, odd, oda, osl⟩, h1, h2, n, h3⟩ := x
  have e3 := ClsV.all hcs rv
  subst e3
  simp only at h2 h3
  subst h2 h3
  exact PySem.W.kia_tup (PySem.W.kitx_exc C.cl C.ga C.gt C.sub C.cls C.get C.tk C.obj) I.kIn J h1 e (fun z => nomatch z) fun tk => ⟨.bl b, H, I.kept (t' := tk) fun _ _ z => z, rfl, q⟩
theorem takes0N {X : Cx} : L2N.Takes X (fun _ _ _ _ => False) := fun _ _ x => by
  obtain ⟨_, _, _, _, _, _, _, _, _, _, _, _, _, _, _, _, z⟩ := x
  exact z.elim
theorem hot_of {X : Cx} {a : Addr} {cls : Value} {d : Option Addr} {oe : Obj} {pn : List (Addr × Obj)} (hz : L2N.Zn cls d oe) (hf : ∃ vs, oe.data = .fields vs) : L2H.HotC (X.suite a ((a, oe) :: pn)) := by
  obtain ⟨vs, hv⟩ := hf
  exact ⟨(a, oe), ⟨rfl, vs, hv, hz.2.2 vs hv⟩, List.mem_cons_self⟩
theorem fun_okH {P : Program} {w : World} {K : PySem.W.Frag} {mg : Str → Option Value} {base : Heap} {x qual : Str} {st : Stmt} {f : Addr} {fd : FuncData} {N ps : List Str} {k : Nat} {sp : Sp} (F : Fun K x qual st f fd) (S : FnScope N ps (defScope st))
    (len : ∀ vs H Q E, sp vs H Q E → vs.length = ps.length)
    (body : ∀ (cdv : Value) (A : Around) (outer : List Env) (s : Shared) (H : Hp) (vs : List V) (Q : VK) (E : XK) (p : Addr × Obj), L2H.RoomH k (A.deeper (PyProof.Rows.envOfC qual (defScope st) s.heap.objs.size f cdv)) → sp vs H Q E →
      ∃ t, PSs (L2H.cxH CX0 P w K mg base N qual (defScope st) f cdv A outer s H E p) (defBody st) t ∧ t { nx := fun _ H' => Q .non H', rt := Q } (start N vs) H) : L2H.FnH P w K mg base CX0 (k + 1) f fd ps sp := by
  obtain ⟨oc, od, kV, doc, pm, an, cdv, ct, osl, rfl, lk, hcd⟩ := F.ex
  exact L2H.fn_ofH lk hcd S len fun A outer s H vs Q E p _ hr h => body cdv A outer s H vs Q E p hr h

structure TxtE (P : Program) (K : PySem.W.Frag) (mg : Str → Option Value) (a : Ads) : Prop where
  g_BadWeights : mg "BadWeights" = some (.ref a.C_BadWeights)
  sup_BadWeights : ∃ fd, SupCls P K a.C_BadWeights "BadWeights.__init__" "at" "at" s_BadWeights_init a.d_BadWeights_init fd ∧ Binds K fd ["self", "at"] []
  iC_BadWeights : PySem.W.findIn K (.ref a.C_BadWeights) "__init__" = some (some (.ref a.d_BadWeights_init))
  tI_BadWeights : PySem.W.typeIn K (.ref a.d_BadWeights_init) = some (.type "function")
  oex_BadWeights : OexC K a.C_BadWeights
  xc_BadWeights : XcC K a.C_BadWeights
  g_TribunalError : mg "TribunalError" = some (.ref a.C_TribunalError)
  g_BadJournal : mg "BadJournal" = some (.ref a.C_BadJournal)
  g_BadLine : mg "BadLine" = some (.ref a.C_BadLine)
  g_BadPaper : mg "BadPaper" = some (.ref a.C_BadPaper)
  g_Forged : mg "Forged" = some (.ref a.C_Forged)
  g_Refused : mg "Refused" = some (.ref a.C_Refused)
  exm : PySem.W.exmOne K (.ref a.C_BadWeights) (.ref a.C_TribunalError) = some true
  kt5 : PySem.W.kitAny K (.ref a.C_BadWeights) [.ref a.C_BadJournal, .ref a.C_BadLine, .ref a.C_BadPaper, .ref a.C_Forged, .ref a.C_Refused] = some false
  kt0 : PySem.W.kitOne K (.ref a.C_BadWeights) (.ref a.C_BadWeights) = some true
  kt1 : PySem.W.kitOne K (.ref a.C_BadWeights) (.type "ValueError") = some true
/-! ### the first wrong weight -/
def oI : Option Int → V
  | none => .non
  | some x => .int x
def badK (ws : List Int) (k : Nat) : Bool := decide (16 ≤ k) || (decide (ws.getD k 0 < 1) || decide (1000000000000 < ws.getD k 0))
/-- r tells the first wrong weight of ws -/
def FB (ws : List Int) (r : Option Int) : Prop := match r with
  | none => 0 < ws.length ∧ ∀ k : Nat, k < ws.length → badK ws k = false
  | some i => (ws.length = 0 ∧ i = 0) ∨ ∃ k : Nat, i = (k : Int) ∧ k < ws.length ∧ badK ws k = true ∧ ∀ j : Nat, j < k → badK ws j = false
theorem FB.one {ws : List Int} {r r' : Option Int} (h : FB ws r) (h' : FB ws r') : r = r' := by
  cases r with
  | none =>
    cases r' with
    | none => rfl
    | some i =>
      rcases h' with ⟨e, _⟩ | ⟨k, _, hk, hb, _⟩
      · have := h.1
        omega
      · rw [h.2 k hk] at hb
        cases hb
  | some i =>
    cases r' with
    | none =>
      rcases h with ⟨e, _⟩ | ⟨k, _, hk, hb, _⟩
      · have := h'.1
        omega
      · rw [h'.2 k hk] at hb
        cases hb
    | some i' =>
      rcases h with ⟨e, rfl⟩ | ⟨k, rfl, hk, hb, hj⟩
      · rcases h' with ⟨_, rfl⟩ | ⟨k', _, hk', _⟩
        · rfl
        · omega
      · rcases h' with ⟨e, _⟩ | ⟨k', rfl, hk', hb', hj'⟩
        · omega
        · rcases Nat.lt_trichotomy k k' with z | z | z
          · rw [hj' k z] at hb
            cases hb
          · rw [z]
          · rw [hj k' z] at hb'
            cases hb'
theorem FB.small {ws : List Int} {i : Int} (h : FB ws (some i)) : 0 ≤ i ∧ i ≤ 16 := by
  rcases h with ⟨_, rfl⟩ | ⟨k, rfl, hk, hb, hj⟩
  · decide
  · rcases Nat.lt_or_ge 16 k with z | z
    · have := hj 16 z
      simp [badK] at this
    · omega
theorem FB.good {ws : List Int} (h : FB ws none) : GoodW ws := by
  refine ⟨h.1, ?_, fun w hw => ?_⟩
  · rcases Nat.lt_or_ge 16 ws.length with z | z
    · have := h.2 16 z
      simp [badK] at this
    · exact z
  · obtain ⟨k, hk, rfl⟩ := List.getElem_of_mem hw
    have := h.2 k hk
    have e : ws.getD k 0 = ws[k] := by
      rw [List.getD_eq_getElem?_getD, List.getElem?_eq_getElem hk]
      rfl
    unfold badK at this
    rw [e] at this
    simp at this
    omega
/-! ### promises -/
def spCell (K : PySem.W.Frag) : Sp := fun vs H Q _ => ∃ (a : Addr) (ns : List Int) (k : Int), vs = [.ref a, .int k] ∧ SqL K H a (ns.map V.int) ∧ ns.length ≤ 63 ∧ 0 ≤ k ∧ Q (.int (ns.getD k.toNat 0)) H
def spIsInt (K : PySem.W.Frag) : Sp := fun vs H Q _ => ∃ i : Int, vs = [.int i] ∧ Q (.bl true) H
def spRow (K : PySem.W.Frag) : Sp := fun vs H Q _ => ∃ (cell count size : Int), vs = [.int cell, .int count, .int size] ∧ 0 ≤ count ∧ count ≤ 1000 ∧ 0 < size ∧ size < 1000 ∧
  ∀ p (row : List Int) H', Same H H' → H' p = some (.lst (row.map V.int)) → row.length = count.toNat → (∀ x ∈ row, 0 ≤ x ∧ x < size) → H p = none → Q (.ref p) H'
def spWeight1 (K : PySem.W.Frag) : Sp := fun vs H Q _ => ∃ (cell : Int), vs = [.int cell] ∧ ∀ (z : Int) H', Same H H' → Q (.int z) H'
def spBad (K : PySem.W.Frag) : Sp := fun vs H Q _ => ∃ (p : Addr) (ws : List Int), vs = [.ref p] ∧ SqL K H p (ws.map V.int) ∧ ws.length ≤ 1000 ∧ ∀ r H', FB ws r → Same H H' → Q (oI r) H'
def spInit (K : PySem.W.Frag) (C B : Addr) : Sp := fun vs H Q E => ∃ (p dx l : Addr) (ws : List Int), vs = [.ref p, .ref l] ∧ H p = some (.ins C dx []) ∧ SqL K H l (ws.map V.int) ∧ ws.length ≤ 1000 ∧
  (∀ H' : Hp, FB ws none → CommAt C H' p ws → (∀ b o, H b = some o → b ≠ p → H' b = some o) → Q .non H') ∧
  ∀ i d (H' : Hp), FB ws (some i) → Same H H' → H' d = some (.xd [(("at" : Str), .int i)]) → E (.ref B) (some d) H'
def spWof (K : PySem.W.Frag) (C : Addr) : Sp := fun vs H Q _ => ∃ (p l : Addr) (ws ms : List Int), vs = [.ref p, .ref l] ∧ CommAt C H p ws ∧ ws.length ≤ 16 ∧ SqL K H l (ms.map V.int) ∧ ms.length ≤ 1000 ∧ ∀ H', Same H H' → Q (.int (wOf ws ms)) H'
def spQuorum (K : PySem.W.Frag) (C : Addr) : Sp := fun vs H Q _ => ∃ (p l : Addr) (ws ms : List Int), vs = [.ref p, .ref l] ∧ CommAt C H p ws ∧ ws.length ≤ 16 ∧ SqL K H l (ms.map V.int) ∧ ms.length ≤ 1000 ∧ ∀ H', Same H H' → Q (.bl (decide (2 * ws.sum < 3 * wOf ws ms))) H'
def spThird (K : PySem.W.Frag) (C : Addr) : Sp := fun vs H Q _ => ∃ (p l : Addr) (ws ms : List Int), vs = [.ref p, .ref l] ∧ CommAt C H p ws ∧ ws.length ≤ 16 ∧ SqL K H l (ms.map V.int) ∧ ms.length ≤ 1000 ∧ ∀ H', Same H H' → Q (.bl (decide (ws.sum < 3 * wOf ws ms))) H'
def spLeader (K : PySem.W.Frag) (C : Addr) : Sp := fun vs H Q _ => ∃ (p : Addr) (ws : List Int) (h t : Int), vs = [.ref p, .int h, .int t] ∧ CommAt C H p ws ∧ 0 < ws.length ∧ Q (.int ((h + t) % (ws.length : Int))) H
def spRight (K : PySem.W.Frag) (C : Addr) : Sp := fun vs H Q _ => ∃ (p l m : Addr) (ws ms : List Int) (h t : Int), vs = [.ref p, .ref l, .ref m, .int h, .int t] ∧ CommAt C H p ws ∧ SqL K H l (ws.map V.int) ∧ GoodW ws ∧ SqL K H m (ms.map V.int) ∧ ms.length ≤ 100 ∧ ∀ H', Q (.bl true) H'
def spLaw (K : PySem.W.Frag) : Sp := fun vs H Q _ => ∃ (a : Addr) (ns : List Int), vs = [.ref a] ∧ SqL K H a (ns.map V.int) ∧ ns.length ≤ 63 ∧ ∀ H', Q (.bl true) H'
section
local macro_rules | `(tactic| walk_at "r1") => `(tactic| first
  | refine ⟨_, rfl, ?_⟩
  | refine ⟨_, _, rfl, rfl, (by show (0 : Int) < _; first | decide | omega), ?_⟩
  | refine ⟨_, _, rfl, rfl, (show CDiv _ _ from ⟨by decide, by decide⟩), ?_⟩
  | refine ⟨_, _, rfl, rfl, (show CMul _ _ from .inl ⟨by decide, by decide⟩), ?_⟩
  | refine ⟨_, _, rfl, rfl, (show CMul _ _ from .inr ⟨by decide, by decide⟩), ?_⟩
  | refine ⟨_, _, rfl, rfl, (show CPow _ _ from ⟨by decide, by decide, by decide⟩), ?_⟩
  | refine ⟨_, _, rfl, rfl, ?_⟩
  | refine .inl ⟨_, rfl, ?_⟩
  | refine ⟨rfl, ?_⟩)
local macro_rules | `(tactic| walk_at "rs") => `(tactic| repeat walk_at "r1")

variable {P : Program} {w : World} {K : PySem.W.Frag} {mg : Str → Option Value} {base : Heap} {a : Ads}
theorem getD_mem {zs : List Int} {i : Nat} (h : i < zs.length) : zs.getD i 0 ∈ zs := by
  rw [List.getD_eq_getElem?_getD, List.getElem?_eq_getElem h]
  exact List.getElem_mem h
theorem at_ints {zs : List Int} {i : Nat} (h : i < zs.length) : (zs.map V.int)[i]? = some (.int (zs.getD i 0)) := by
  rw [List.getElem?_map, List.getD_eq_getElem?_getD, List.getElem?_eq_getElem h]
  rfl

theorem ok_law_cell (T : Txt K mg a) : ∃ fd, FnOk P w K mg base CX0 1 a.d_law_cell fd ["script", "k"] (spCell K) ∧ Binds K fd ["script", "k"] [] := by
  obtain ⟨fd, F, b⟩ := T.d_law_cell.F
  refine ⟨fd, F.ok sc_law_cell (fun vs H Q E h => ?_) (fun cdv A outer s H vs Q E hr h => ?_), b⟩
  · obtain ⟨a, ns, k, rfl, _⟩ := h
    rfl
  · obtain ⟨l, ns, k, rfl, hS, hl, hk, q⟩ := h
    refine ⟨_, (pss_cons (ps_if (pt_cmpR op_lt (pv 1) (pe_callB call_len_seq (by rfl) T.n_len PySem.boot_len (pa_cons (pv 0) pa_nil)) (nomark _))
      (pss_one (ps_ret (pe_ix ix_list (pv 0) (pv 1) (fun _ _ => rfl))))
      pss_nil)
      (pss_one (ps_ret pe_int))), ?_⟩
    refine ⟨_, rfl, _, rfl, l, _, rfl, .inl hS, _, _, rfl, rfl, _, rfl, ?_⟩
    refine ite2 (fun hlt => ?_) (fun hge => ?_)
    · have hlt : k < ((ns.map V.int).length : Int) := of_decide_eq_true hlt
      rw [List.length_map] at hlt
      have hj : k.toNat < ns.length := by omega
      have e : ns.getD k.toNat 0 = ns[k.toNat] := by rw [List.getD_eq_getElem?_getD, List.getElem?_eq_getElem hj]; rfl
      rw [e] at q
      refine ⟨_, rfl, _, rfl, l, _, k, .int ns[k.toNat], rfl, rfl, hS, at_of (j := k.toNat) (by omega) (by rw [List.getElem?_map, List.getElem?_eq_getElem hj]; rfl), q⟩
    · have hge : ¬ k < ((ns.map V.int).length : Int) := fun e => hge (decide_eq_true e)
      rw [List.length_map] at hge
      have e : ns.getD k.toNat 0 = 0 := by rw [List.getD_eq_getElem?_getD, List.getElem?_eq_none (by omega)]; rfl
      rw [e] at q
      exact q

theorem ok_law_row (T : Txt K mg a) : ∃ fd, FnOk P w K mg base CX0 1 a.d_law_row fd ["cell", "count", "size"] (spRow K) ∧ Binds K fd ["cell", "count", "size"] [] := by
  obtain ⟨fd, F, b⟩ := T.d_law_row.F
  refine ⟨fd, F.ok sc_law_row (fun vs H Q E h => ?_) (fun cdv A outer s H vs Q E hr h => ?_), b⟩
  · obtain ⟨_, _, _, rfl, _⟩ := h
    rfl
  · obtain ⟨cell, count, size, rfl, c0, c1, z0, z1, k⟩ := h
    refine ⟨_, (pss_cons (ps_set (i := 3) sc_law_row.nd rfl (Or.inl rfl) (pv 0))
      (pss_cons (ps_set (i := 4) sc_law_row.nd rfl (Or.inl rfl) (pe_lst pa_nil))
      (pss_cons (ps_for PassesOwn.never rfl (pi_range1 rfl T.n_range (pa_cons (pv 1) pa_nil)) (pg_name (i := 5) sc_law_row.nd rfl (Or.inl rfl))
      (pss_one (ps_if (pt_cmpR op_ge (pv 0) (pe_op op_pow pe_int pe_int) (nomark _))
        (pss_cons (ps_expr (pe_bm PySem.F.plainAttrs_list PySem.F.slot_list_append PySem.F.type_list_append mt_append (pv 4) (pa_cons (pe_op op_mod (pe_callTy call_int1 (by rfl) T.n_int (by decide +kernel) (pa_cons (pv 3) pa_nil)) (pv 2)) pa_nil)))
          (pss_one (ps_set (i := 3) sc_law_row.nd rfl (Or.inl rfl) (pe_op op_fdivN (pv 3) (pv 2)))))
        (pss_cons (ps_set (i := 3) sc_law_row.nd rfl (Or.inl rfl) (pe_op op_mod (pe_callTy call_int1 (by rfl) T.n_int (by decide +kernel) (pa_cons (pe_op op_add (pe_op op_mul (pv 3) pe_int) pe_int) pa_nil)) pe_int))
          (pss_one (ps_expr (pe_bm PySem.F.plainAttrs_list PySem.F.slot_list_append PySem.F.type_list_append mt_append (pv 4) (pa_cons (pe_op op_mod (pe_op op_mod (pe_callTy call_int1 (by rfl) T.n_int (by decide +kernel) (pa_cons (pe_op op_add (pe_op op_mul (pv 3) pe_int) (pe_op op_mul (pv 5) pe_int)) pa_nil)) pe_int) (pv 2)) pa_nil))))))))
      (pss_one (ps_ret (pv 4)))))), ?_⟩
    walk_at "rs"
    refine ⟨(by show 0 ≤ sizeLine; decide), fun p hp => ?_⟩
    walk_at "rs"
    refine ⟨(by show -(2 ^ 62 : Int) ≤ _; omega), (by show _ < (2 ^ 62 : Int); omega), ?_⟩
    refine for_range (lo := 0) (n := count.toNat) (fun i σ H2 => ∃ (st : Int) (row : List Int) (v5 : Option V), σ = [some (.int cell), some (.int count), some (.int size), some (.int st), some (.ref p), v5] ∧ Same H H2 ∧
      H2 p = some (.lst (row.map V.int)) ∧ row.length = i ∧ ∀ x ∈ row, 0 ≤ x ∧ x < size) ⟨_, [], _, rfl, same_new hp, upd_same, rfl, fun x hx => nomatch hx⟩ ?_ ?_
    · rintro i σ H2 hi ⟨st, row, v5, rfl, s2, hrow, hlen, hb⟩
      have fit : (row.map V.int).length < sizeLine := by
        rw [List.length_map]
        exact small1000 (by omega)
      have grow : ∀ z : Int, 0 ≤ z → z < size → ∀ x ∈ row ++ [z], 0 ≤ x ∧ x < size := fun z h0 h1 x hx => by
        rcases List.mem_append.mp hx with hx | hx
        · exact hb x hx
        · rw [List.mem_singleton.mp hx]
          exact ⟨h0, h1⟩
      walk_at "rs"
      refine ite2 (fun c1 => ?_) (fun c1 => ?_)
      · walk_at "rs"
        refine ⟨.inl ⟨rfl, _, SqL.of hrow⟩, ?_⟩
        walk_at "rs"
        refine ⟨p, _, _, rfl, rfl, hrow, fit, ?_⟩
        walk_at "rs"
        refine ⟨(show CDivN _ _ from ⟨by omega, by omega⟩), ?_⟩
        exact ⟨_, row ++ [st % size], _, rfl, same_upd s2 hp, by rw [upd_same]; simp, by simp [hlen], grow _ (Int.emod_nonneg _ (by omega)) (Int.emod_lt_of_pos _ z0)⟩
      · walk_at "rs"
        refine ⟨.inl ⟨rfl, _, SqL.of hrow⟩, ?_⟩
        walk_at "rs"
        refine ⟨p, _, _, rfl, rfl, hrow, fit, ?_⟩
        exact ⟨_, row ++ [((st * 48271 + 12345) % 2147483647 * 69621 + (i : Int) * 7919) % 2147483647 % size], _, rfl, same_upd s2 hp, by rw [upd_same]; simp, by simp [hlen], grow _ (Int.emod_nonneg _ (by omega)) (Int.emod_lt_of_pos _ z0)⟩
    · rintro σ H2 ⟨st, row, v5, rfl, s2, hrow, hlen, hb⟩
      walk_at "rs"
      exact k p row H2 s2 hrow hlen hb hp

theorem ok_law_is_integer (T : Txt K mg a) : ∃ fd, FnOk P w K mg base CX0 1 a.d_law_is_integer fd ["actual"] (spIsInt K) ∧ Binds K fd ["actual"] [] := by
  obtain ⟨fd, F, b⟩ := T.d_law_is_integer.F
  refine ⟨fd, F.ok sc_law_is_integer (fun vs H Q E h => ?_) (fun cdv A outer s H vs Q E hr h => ?_), b⟩
  · obtain ⟨_, rfl, _⟩ := h
    rfl
  · obtain ⟨i, rfl, k⟩ := h
    refine ⟨_, (pss_one (ps_ret (pe_and (pe_callB call_isi (by rfl) T.n_isinstance (by decide +kernel) (pa_cons (pv 0) (pa_cons (pe_bltn (v := .ty "int") (u := .type "int") (by rfl) T.n_int (by decide +kernel) rfl) pa_nil))) (pe_one (pe_not (pe_callB call_isi (by rfl) T.n_isinstance (by decide +kernel) (pa_cons (pv 0) (pa_cons (pe_bltn (v := .ty "bool") (u := .type "bool") (by rfl) T.n_bool (by decide +kernel) rfl) pa_nil)))))))), ?_⟩
    walk_at "rs"
    refine ⟨_, _, .type "int", .type "int", true, rfl, .ty _, .base (.int _), kit_ty (by decide +kernel), ?_⟩
    walk_at "rs"
    refine ⟨_, _, .type "int", .type "bool", false, rfl, .ty _, .base (.int _), kit_ty (by decide +kernel), ?_⟩
    walk_at "rs"
    exact k
theorem hot_law_is_integer (T : Txt K mg a) : ∃ fd, L2H.FnH P w K mg base CX0 1 a.d_law_is_integer fd ["actual"] (spIsInt K) ∧ Binds K fd ["actual"] [] := by
  obtain ⟨fd, F, b⟩ := T.d_law_is_integer.F
  refine ⟨fd, fun_okH F sc_law_is_integer (fun vs H Q E h => ?_) (fun cdv A outer s H vs Q E p hr h => ?_), b⟩
  · obtain ⟨_, rfl, _⟩ := h
    rfl
  · obtain ⟨i, rfl, k⟩ := h
    refine ⟨_, (pss_one (ps_ret (pe_and (pe_callB call_isi (by rfl) T.n_isinstance (by decide +kernel) (pa_cons (pv 0) (pa_cons (pe_bltn (v := .ty "int") (u := .type "int") (by rfl) T.n_int (by decide +kernel) rfl) pa_nil))) (pe_one (pe_not (pe_callB call_isi (by rfl) T.n_isinstance (by decide +kernel) (pa_cons (pv 0) (pa_cons (pe_bltn (v := .ty "bool") (u := .type "bool") (by rfl) T.n_bool (by decide +kernel) rfl) pa_nil)))))))), ?_⟩
    walk_at "rs"
    refine ⟨_, _, .type "int", .type "int", true, rfl, .ty _, .base (.int _), kit_ty (by decide +kernel), ?_⟩
    walk_at "rs"
    refine ⟨_, _, .type "int", .type "bool", false, rfl, .ty _, .base (.int _), kit_ty (by decide +kernel), ?_⟩
    walk_at "rs"
    exact k
theorem msg_len : ∀ n : _root_.Fin 17, (((Str.empty ++ ("no right weight at index " : Str)) ++ (toString ((n.val : Nat) : Int) : Str)) : Str).length ≤ 1000 := by decide +kernel
theorem ok_BadWeights_init (TE : TxtE P K mg a) (T : Txt K mg a) : ∃ fd, FnOk P w K mg base CX0 1 a.d_BadWeights_init fd ["self", "at"] (spSup a.C_BadWeights "at" fun v => ∃ i : Int, v = .int i ∧ 0 ≤ i ∧ i ≤ 16) ∧ Binds K fd ["self", "at"] [] := by
  obtain ⟨fd, S, b⟩ := TE.sup_BadWeights
  have T0 : SupTxt "at" "at" s_BadWeights_init _ _ _ _ _ _ _ _ _ _ := ⟨rfl, rfl, rfl, rfl, rfl, rfl, rfl, rfl, by decide +kernel, ⟨_, rfl, rfl⟩⟩
  refine ⟨fd, ok_sup S T0 (by decide +kernel) (by decide) (by decide) T.n_super ?_ (fun _ => rfl) (fun _ _ _ _ => rfl) (fun _ _ _ _ => rfl) (fun _ _ _ _ => rfl) _ (fun _ => rfl), b⟩
  rintro cd cc A outer s H E e v ⟨i, rfl, i0, i1⟩
  refine ⟨_, pa_cons (pe_joined (.cons pe_str (.cons (pe_fmt (pv 1)) .nil))) pa_nil, fun H1 Q q => ?_⟩
  have small : i.natAbs.log2 < 1920 := Nat.lt_of_le_of_lt (Nat.log2_le_self _) (by omega)
  have len := msg_len ⟨i.toNat, by omega⟩
  have e : ((i.toNat : Nat) : Int) = i := by omega
  simp only [e] at len
  refine ⟨_, rfl, by rw [sizeLine_eq]; decide +kernel, _, rfl, .inr ⟨i, rfl, small, _, rfl, ?_, q _⟩⟩
  rw [sizeLine_eq]
  exact Nat.le_trans len (by decide)
theorem bad_of {ws : List Int} {i : Nat} (h : 16 ≤ i ∨ ws.getD i 0 < 1 ∨ 1000000000000 < ws.getD i 0) : badK ws i = true := by
  unfold badK
  rcases h with h | h | h
  · simp [h]
  · rw [decide_eq_true h]
    simp
  · rw [decide_eq_true h]
    simp
theorem not_bad {ws : List Int} {i : Nat} (h1 : ¬ 16 ≤ i) (h2 : ¬ ws.getD i 0 < 1) (h3 : ¬ 1000000000000 < ws.getD i 0) : badK ws i = false := by
  unfold badK
  rw [decide_eq_false h1, decide_eq_false h2, decide_eq_false h3]
  rfl
theorem fb_at {ws : List Int} {i : Nat} (hi : i < ws.length) (h : ∀ j : Nat, j < i → badK ws j = false) (b : badK ws i = true) : FB ws (some (i : Int)) := .inr ⟨i, rfl, hi, b, h⟩
theorem ok_first_wrong (T : Txt K mg a) : ∃ fd, FnOk P w K mg base CX0 1 a.d_first_wrong fd ["weights"] (spBad K) ∧ Binds K fd ["weights"] [] := by
  obtain ⟨fd, F, b⟩ := T.d_first_wrong.F
  refine ⟨fd, F.ok sc_first_wrong (fun vs H Q E h => ?_) (fun cdv A outer s H vs Q E hr h => ?_), b⟩
  · obtain ⟨_, _, rfl, _⟩ := h
    rfl
  · obtain ⟨p, ws, rfl, hp, few, k⟩ := h
    refine ⟨_, (pss_cons (ps_for PassesOwn.never rfl (pi_enum (by rfl) T.n_enumerate (pa_cons (pv 0) pa_nil)) (pg_tup rfl (pgs_cons (pg_name (i := 1) sc_first_wrong.nd rfl (Or.inl rfl)) (pgs_cons (pg_name (i := 2) sc_first_wrong.nd rfl (Or.inl rfl)) pgs_nil)))
      (pss_one (ps_if (PW.pt (pw_or (pt_cmpR op_ge (pv 1) (pe_glob (v := (.int 16)) rfl T.c_MOST_MEMBERS.choose_spec ⟨_, rfl⟩) (nomark _)) (pw_or (pt_cmpR op_lt (pv 2) pe_int (nomark _)) (pw_or1 (pt_cmpR op_gt (pv 2) (pe_glob (v := (.int 1000000000000)) rfl T.c_MOST_WEIGHT.choose_spec ⟨_, rfl⟩) (nomark _))))))
        (pss_one (ps_ret (pv 1)))
        pss_nil)))
      (pss_cons (ps_if (pt_cmpR op_eq (pe_callB call_len_seq (by rfl) T.n_len PySem.boot_len (pa_cons (pv 0) pa_nil)) pe_int (nomark _))
      (pss_one (ps_ret pe_int))
      pss_nil)
      (pss_one (ps_ret pe_non)))), ?_⟩
    walk_at "rs"
    refine ⟨p, _, rfl, hp, ?_⟩
    refine for_enumL (K := K) (a := p) (ys := ws.map V.int) (fun i σ H2 => ∃ v1 v2 : Option V, σ = [some (.ref p), v1, v2] ∧ Same H H2 ∧ ∀ j : Nat, j < i → badK ws j = false) ⟨_, _, rfl, Same.refl H, fun j hj => absurd hj (Nat.not_lt_zero j)⟩ (fun i σ H2 _ ⟨_, _, _, s2, _⟩ => s2.seq hp) ?_ ?_
    · rintro i y σ H2 q hy ⟨v1, v2, rfl, s2, hok⟩ hq
      have hi : i < ws.length := by
        have e := (List.getElem?_eq_some_iff.mp hy).1
        rwa [List.length_map] at e
      rw [at_ints hi] at hy
      cases hy
      have s3 := same_upd (p := q) (o := .tup [.int (i : Nat), .int (ws.getD i 0)]) s2 (s2.free hq)
      walk_at "rs"
      refine ⟨q, _, rfl, SqT.of upd_same, rfl, ?_⟩
      refine ⟨_, _, rfl, _, _, rfl, rfl, ?_⟩
      walk_at "rs"
      refine ite2 (fun c1 => ?_) (fun c1 => ?_)
      · have c1 := of_decide_eq_true c1
        walk_at "rs"
        exact k _ _ (fb_at hi hok (bad_of (.inl (by omega)))) s3
      walk_at "rs"
      refine ite2 (fun c2 => ?_) (fun c2 => ?_)
      · have c2 := of_decide_eq_true c2
        walk_at "rs"
        exact k _ _ (fb_at hi hok (bad_of (.inr (.inl c2)))) s3
      walk_at "rs"
      refine ite2 (fun c3 => ?_) (fun c3 => ?_)
      · have c3 := of_decide_eq_true c3
        walk_at "rs"
        exact k _ _ (fb_at hi hok (bad_of (.inr (.inr c3)))) s3
      have d1 : ¬ (16 : Int) ≤ (i : Int) := fun z => c1 (decide_eq_true z)
      have d2 : ¬ ws.getD i 0 < 1 := fun z => c2 (decide_eq_true z)
      have d3 : ¬ 1000000000000 < ws.getD i 0 := fun z => c3 (decide_eq_true z)
      refine ⟨_, _, rfl, s3, fun j hj => ?_⟩
      rcases Nat.lt_or_ge j i with z | z
      · exact hok j z
      · have e : j = i := by omega
        subst e
        exact not_bad (by omega) d2 d3
    · rintro σ H2 ⟨v1, v2, rfl, s2, hok⟩
      rw [List.length_map] at hok
      walk_at "rs"
      refine ⟨p, _, rfl, .inl (s2.seq hp), ?_⟩
      walk_at "rs"
      refine ite2 (fun c1 => ?_) (fun c1 => ?_)
      · simp only [dec_int, beq_iff_eq, List.length_map] at c1
        exact k (some 0) H2 (.inl ⟨by omega, rfl⟩) s2
      · simp only [dec_int, beq_iff_eq, List.length_map] at c1
        exact k none H2 ⟨by omega, hok⟩ s2
theorem ok_law_bad (T : Txt K mg a) : ∃ fd, FnOk P w K mg base CX0 1 a.d_law_bad fd ["weights"] (spBad K) ∧ Binds K fd ["weights"] [] := by
  obtain ⟨fd, F, b⟩ := T.d_law_bad.F
  refine ⟨fd, F.ok sc_law_bad (fun vs H Q E h => ?_) (fun cdv A outer s H vs Q E hr h => ?_), b⟩
  · obtain ⟨_, _, rfl, _⟩ := h
    rfl
  · obtain ⟨p, ws, rfl, hp, few, k⟩ := h
    refine ⟨_, (pss_cons (ps_for PassesOwn.never rfl (pi_range1 rfl T.n_range (pa_cons (pe_callB call_len_seq (by rfl) T.n_len PySem.boot_len (pa_cons (pv 0) pa_nil)) pa_nil)) (pg_name (i := 1) sc_law_bad.nd rfl (Or.inl rfl))
      (pss_one (ps_if (PW.pt (pw_or (pt_cmpR op_ge (pv 1) pe_int (nomark _)) (pw_or1 (pt_not (pt_chain op_le op_le pe_int (pe_ix ix_list (pv 0) (pv 1) (fun _ _ => rfl)) (pe_op op_pow pe_int pe_int))))))
        (pss_one (ps_ret (pv 1)))
        pss_nil)))
      (pss_cons (ps_if (pt_cmpR op_eq (pe_callB call_len_seq (by rfl) T.n_len PySem.boot_len (pa_cons (pv 0) pa_nil)) pe_int (nomark _))
      (pss_one (ps_ret pe_int))
      pss_nil)
      (pss_one (ps_ret pe_non)))), ?_⟩
    have hN : ((ws.map V.int).length : Int) = ws.length := by rw [List.length_map]
    walk_at "rs"
    refine ⟨p, _, rfl, .inl hp, ?_⟩
    walk_at "rs"
    refine ⟨(by show -(2 ^ 62 : Int) ≤ _; omega), (by show _ < (2 ^ 62 : Int); omega), ?_⟩
    refine for_range (lo := 0) (n := (((ws.map V.int).length : Int)).toNat) (fun i σ H2 => ∃ v1 : Option V, σ = [some (.ref p), v1] ∧ Same H H2 ∧ ∀ j : Nat, j < i → badK ws j = false) ⟨_, rfl, Same.refl H, fun j hj => absurd hj (Nat.not_lt_zero j)⟩ ?_ ?_
    · rintro i σ H2 hi' ⟨v1, rfl, s2, hok⟩
      have hi : i < ws.length := by omega
      have e0 : (0 : Int) + (i : Int) = (i : Int) := Int.zero_add _
      rw [e0]
      walk_at "rs"
      refine ite2 (fun c1 => ?_) (fun c1 => ?_)
      · have c1 := of_decide_eq_true c1
        walk_at "rs"
        exact k _ _ (fb_at hi hok (bad_of (.inl (by omega)))) s2
      walk_at "rs"
      refine ⟨p, _, _, .int (ws.getD i 0), rfl, rfl, s2.seq hp, at_of (j := i) rfl (at_ints hi), ?_⟩
      walk_at "rs"
      refine ite2 (fun c2 => ?_) (fun c2 => ?_)
      · walk_at "rs"
        refine ite2 (fun c3 => ?_) (fun c3 => ?_)
        · walk_at "rs"
          have d3 : ¬ ws.getD i 0 ≤ 1000000000000 := fun z => by
            rw [show (10 ^ Int.toNat 12 : Int) = 1000000000000 by decide, decide_eq_true z] at c3
            cases c3
          exact k _ _ (fb_at hi hok (bad_of (.inr (.inr (by omega))))) s2
        · have d1 : ¬ (16 : Int) ≤ (i : Int) := fun z => c1 (decide_eq_true z)
          have d2 := of_decide_eq_true c2
          have d3 : ws.getD i 0 ≤ 1000000000000 := Decidable.byContradiction fun z => c3 (by rw [show (10 ^ Int.toNat 12 : Int) = 1000000000000 by decide, decide_eq_false z]; rfl)
          refine ⟨_, rfl, s2, fun j hj => ?_⟩
          rcases Nat.lt_or_ge j i with z | z
          · exact hok j z
          · have e : j = i := by omega
            subst e
            exact not_bad (by omega) (by omega) (by omega)
      · walk_at "rs"
        have d2 : ¬ 1 ≤ ws.getD i 0 := fun z => c2 (decide_eq_true z)
        exact k _ _ (fb_at hi hok (bad_of (.inr (.inl (by omega))))) s2
    · rintro σ H2 ⟨v1, rfl, s2, hok⟩
      rw [hN, Int.toNat_natCast] at hok
      walk_at "rs"
      refine ⟨p, _, rfl, .inl (s2.seq hp), ?_⟩
      walk_at "rs"
      refine ite2 (fun c1 => ?_) (fun c1 => ?_)
      · simp only [dec_int, beq_iff_eq, List.length_map] at c1
        exact k (some 0) H2 (.inl ⟨by omega, rfl⟩) s2
      · simp only [dec_int, beq_iff_eq, List.length_map] at c1
        exact k none H2 ⟨by omega, hok⟩ s2
theorem pick4 {i : Int} (h0 : 0 ≤ i) (h4 : i < 4) (x y z u : Int) : ∃ v : Int, atI [V.int x, V.int y, V.int z, V.int u] i = some (.int v) := by
  have h : i = 0 ∨ i = 1 ∨ i = 2 ∨ i = 3 := by omega
  rcases h with rfl | rfl | rfl | rfl
  · exact ⟨x, rfl⟩
  · exact ⟨y, rfl⟩
  · exact ⟨z, rfl⟩
  · exact ⟨u, rfl⟩
theorem ok_law_weight (T : Txt K mg a) : ∃ fd, FnOk P w K mg base CX0 1 a.d_law_weight fd ["cell"] (spWeight1 K) ∧ Binds K fd ["cell"] [] := by
  obtain ⟨fd, F, b⟩ := T.d_law_weight.F
  refine ⟨fd, F.ok sc_law_weight (fun vs H Q E h => ?_) (fun cdv A outer s H vs Q E hr h => ?_), b⟩
  · obtain ⟨_, rfl, _⟩ := h
    rfl
  · obtain ⟨cell, rfl, k⟩ := h
    refine ⟨_, (pss_cons (ps_if (pt_cmpR op_eq (pe_op op_mod (pe_callTy call_int1 (by rfl) T.n_int (by decide +kernel) (pa_cons (pv 0) pa_nil)) pe_int) pe_int (nomark _))
      (pss_one (ps_ret (pe_op op_add pe_int (pe_op op_mod (pe_op op_fdiv (pv 0) pe_int) (pe_op op_pow pe_int pe_int)))))
      pss_nil)
      (pss_cons (ps_if (pt_cmpR op_eq (pe_op op_mod (pe_callTy call_int1 (by rfl) T.n_int (by decide +kernel) (pa_cons (pv 0) pa_nil)) pe_int) pe_int (nomark _))
      (pss_one (ps_ret (pe_ix ix_tup (pe_tup (pa_cons pe_int (pa_cons (pe_un un_neg pe_int) (pa_cons (pe_op op_add (pe_op op_pow pe_int pe_int) pe_int) (pa_cons (pe_op op_pow pe_int pe_int) pa_nil))))) (pe_op op_mod (pe_op op_fdiv (pv 0) pe_int) pe_int) (fun _ _ => rfl))))
      pss_nil)
      (pss_one (ps_ret (pe_op op_add pe_int (pe_op op_mod (pe_op op_fdiv (pv 0) pe_int) pe_int)))))), ?_⟩
    walk_at "rs"
    refine ite2 (fun c1 => ?_) (fun c1 => ?_)
    · walk_at "rs"
      exact k _ _ (Same.refl H)
    walk_at "rs"
    refine ite2 (fun c2 => ?_) (fun c2 => ?_)
    · walk_at "rs"
      refine ⟨(by show 4 ≤ sizeLine; decide), fun p hp => ?_⟩
      walk_at "rs"
      obtain ⟨v, hv⟩ := pick4 (i := cell / 31 % 4) (Int.emod_nonneg _ (by decide)) (Int.emod_lt_of_pos _ (by decide)) 0 (-1) (10 ^ (12 : Int).toNat + 1) (10 ^ (12 : Int).toNat)
      exact ⟨p, _, _, _, rfl, rfl, SqT.of upd_same, hv, k _ _ (same_new hp)⟩
    · walk_at "rs"
      exact k _ _ (Same.refl H)
theorem ok_Committee_init (TE : TxtE P K mg a) (T : Txt K mg a) : ∃ fd, FnOk P w K mg base (L2N.CX P w) 3 a.d_Committee_init fd ["self", "weights"] (spInit K a.C_Committee a.C_BadWeights) ∧ Binds K fd ["self", "weights"] [] := by
  obtain ⟨fd, F, b⟩ := T.d_Committee_init.F
  obtain ⟨fd_first_wrong, G_first_wrong, b_first_wrong⟩ := ok_first_wrong (P := P) (w := w) (base := base) T
  obtain ⟨fd_BadWeights_init, G_BadWeights_init, b_BadWeights_init⟩ := ok_BadWeights_init (P := P) (w := w) (base := base) TE T
  refine ⟨fd, fun_okN F sc_Committee_init (fun vs H Q E h => ?_) (fun cdv A outer s H vs Q E hr h => ?_), b⟩
  · obtain ⟨_, _, _, _, rfl, _⟩ := h
    rfl
  · obtain ⟨p, dx, l, ws, rfl, hp, hl, few, k, kE⟩ := h
    refine ⟨_, (pss_cons (ps_set (i := 2) sc_Committee_init.nd rfl (Or.inl rfl) (pe_call G_first_wrong (hr.mono (by decide)) rfl T.d_first_wrong.g T.d_first_wrong.kp b_first_wrong .nil pass0 (pa_cons (pv 1) pa_nil)))
      (pss_cons (ps_if (pt_cmpR op_notN (pv 2) pe_non (nomark _))
      (pss_one (L2N.ps_raise rfl (L2N.takes_of rfl rfl rfl rfl) (pmk_sup TE.oex_BadWeights TE.iC_BadWeights TE.tI_BadWeights G_BadWeights_init (hr.mono (by decide)) b_BadWeights_init rfl TE.g_BadWeights (pa_cons (pv 2) pa_nil))))
      pss_nil)
      (pss_cons (ps_fld (pv 0) (pe_callTy call_tuple_of (by rfl) T.n_tuple (by decide +kernel) (pa_cons (pv 1) pa_nil)) rfl)
      (pss_cons (ps_fld (pv 0) (pe_callB call_len_seq (by rfl) T.n_len PySem.boot_len (pa_cons (pe_fld (pv 0) rfl) pa_nil)) rfl)
      (pss_one (ps_fld (pv 0) (pe_callB (cr_sumT rfl) (by rfl) T.n_sum (by decide +kernel) (pa_cons (pe_fld (pv 0) rfl) pa_nil)) rfl)))))), ?_⟩
    walk_at "rs"
    refine ⟨l, ws, rfl, hl, few, fun r H1 hfb s1 => ?_⟩
    cases r with
    | some i =>
      walk_at "rs"
      refine ⟨⟨i, rfl, hfb.small.1, hfb.small.2⟩, fun d hd => ?_⟩
      exact kE i d _ hfb (s1.trans (same_new hd)) upd_same
    | none =>
      have gw := hfb.good
      walk_at "rs"
      have hp1 := s1 _ _ hp
      refine ⟨l, _, rfl, .inl ⟨s1.seq hl, fun t ht => ?_⟩⟩
      have npt : p ≠ t := ne_of_none hp1 ht
      have hp2 : (upd H1 t (.tup (ws.map V.int))) p = some (.ins a.C_Committee dx []) := by rw [upd_ne npt]; exact hp1
      walk_at "rs"
      refine ⟨p, _, dx, [], rfl, hp2, T.cl_Committee, T.a_Committee_weights, (by show 0 < 1000; decide), ?_⟩
      have ht3 : ∀ o : HO, (upd (upd H1 t (.tup (ws.map V.int))) p o) t = some (.tup (ws.map V.int)) := fun o => by rw [upd_ne npt.symm, upd_same]
      walk_at "rs"
      refine ⟨p, _, dx, _, .ref t, rfl, upd_same, T.cl_Committee, T.a_Committee_weights, by rw [lookup_putF, if_pos rfl], ?_⟩
      walk_at "rs"
      refine ⟨t, _, rfl, .inr (SqT.of (ht3 _)), ?_⟩
      walk_at "rs"
      refine ⟨p, _, dx, _, rfl, upd_same, T.cl_Committee, T.a_Committee_size, (by show 1 < 1000; decide), ?_⟩
      rw [upd_upd]
      walk_at "rs"
      refine ⟨p, _, dx, _, .ref t, rfl, upd_same, T.cl_Committee, T.a_Committee_weights, by rw [lookup_putF, if_neg ne_ws, lookup_putF, if_pos rfl], ?_⟩
      walk_at "rs"
      refine ⟨t, ws, rfl, SqT.of (ht3 _), ?_⟩
      walk_at "rs"
      refine ⟨p, _, dx, _, rfl, upd_same, T.cl_Committee, T.a_Committee_total, (Nat.lt_of_le_of_lt (length_putF _ _ _) (Nat.lt_of_le_of_lt (Nat.add_le_add_right (length_putF _ _ _) 1) (by show 2 < 1000; decide))), ?_⟩
      rw [upd_upd, List.length_map]
      exact k _ hfb ⟨dx, t, upd_same, ht3 _⟩ fun b o e hb => by
        rw [upd_ne hb, upd_ne (ne_of_none (s1 _ _ e) ht)]
        exact s1 _ _ e
theorem ok_Committee_weight_of (T : Txt K mg a) : ∃ fd, FnOk P w K mg base CX0 1 a.d_Committee_weight_of fd ["self", "members"] (spWof K a.C_Committee) ∧ Binds K fd ["self", "members"] [] := by
  obtain ⟨fd, F, b⟩ := T.d_Committee_weight_of.F
  refine ⟨fd, F.ok sc_Committee_weight_of (fun vs H Q E h => ?_) (fun cdv A outer s H vs Q E hr h => ?_), b⟩
  · obtain ⟨_, _, _, _, rfl, _⟩ := h
    rfl
  · obtain ⟨p, l, ws, ms, rfl, ⟨dx, t, hp, ht⟩, hlen, hl, hms, k⟩ := h
    refine ⟨_, (pss_cons (ps_set (i := 2) sc_Committee_weight_of.nd rfl (Or.inr rfl) (pe_callTy (cr_set rfl) (by rfl) T.n_set (by decide +kernel) (pa_cons (pv 1) pa_nil)))
      (pss_one (ps_ret (pe_callB (cr_sum rfl) (by rfl) T.n_sum (by decide +kernel) (pa_cons (pe_lc (own := [("member", 3), ("weight", 4)]) (g := (gTup K 2 (gCons (gName 3) (gCons (gName 4) gNil)))) rfl sc_Committee_weight_of.nd (pi_enumT (by rfl) T.n_enumerate (pa_cons (pe_fld (pv 0) rfl) pa_nil)) (blkOk_by (own := [("member", 3), ("weight", 4)]) (N := sc_Committee_weight_of_N) (sc := defScope s_Committee_weight_of) (by decide +kernel)) (fun _ _ _ _ _ => (pg_tup rfl (pgs_cons (pg_name (i := 3) sc_Committee_weight_of.nd rfl (Or.inl rfl)) (pgs_cons (pg_name (i := 4) sc_Committee_weight_of.nd rfl (Or.inl rfl)) pgs_nil)))) (fun _ _ _ _ _ => (pts_one (pt_cmpR op_in_set (pv 3) (pv 2) (by rfl)))) (fun _ _ _ _ _ => (pv 4))) pa_nil))))), ?_⟩
    walk_at "rs"
    refine ⟨l, ms, rfl, hl, hms, fun S n hS => ?_⟩
    have nS : ∀ q o, H q = some o → (upd H S (.set (fun k => decide (k ∈ ms)) n)) q = some o := same_new hS
    walk_at "rs"
    refine ⟨p, _, dx, _, .ref t, rfl, nS _ _ hp, T.cl_Committee, T.a_Committee_weights, cfs_w _ _, ?_⟩
    walk_at "rs"
    refine ⟨t, _, rfl, SqT.of (nS _ _ ht), fun D hD => ?_⟩
    generalize eH : upd H S (.set (fun k => decide (k ∈ ms)) n) = H1 at nS hD
    have hS1 : H1 S = some (.set (fun k => decide (k ∈ ms)) n) := by rw [← eH, upd_same]
    refine lc_enumT (K := K) (a := t) (ys := ws.map V.int) (fun i H2 => Same H1 H2 ∧ H2 D = some (.lst ((pick ws (fun k => decide (k ∈ ms)) i).map V.int))) ⟨same_new hD, upd_same⟩ (fun i H2 _ ⟨s2, _⟩ => SqT.of (s2 _ _ (nS _ _ ht))) ?_ ?_
    · rintro i y H2 q hy ⟨s2, hd⟩ hq
      have hi : i < ws.length := by
        have e := (List.getElem?_eq_some_iff.mp hy).1
        rwa [List.length_map] at e
      rw [at_ints hi] at hy
      cases hy
      have fit : ((pick ws (fun k => decide (k ∈ ms)) i).map V.int).length < sizeLine := by
        have := pick_len ws (fun k => decide (k ∈ ms)) i
        rw [List.length_map]
        exact small1000 (by omega)
      have s3 : Same H2 (upd H2 q (.tup [V.int (i : Nat), V.int (ws.getD i 0)])) := same_new hq
      refine ⟨q, _, rfl, SqT.of upd_same, rfl, ?_⟩
      refine ⟨_, _, rfl, _, _, rfl, rfl, rfl, ?_⟩
      walk_at "rs"
      refine ⟨_, S, _, n, rfl, rfl, s3 _ _ (s2 _ _ hS1), ?_⟩
      rw [if_neg Bool.false_ne_true]
      walk_at "rs"
      refine ite2 (fun c1 => ?_) (fun c1 => ?_)
      · walk_at "rs"
        refine ⟨_, s3 _ _ hd, fit, same_upd (fun b o z => s3 _ _ (s2 _ _ z)) hD, ?_⟩
        rw [upd_same, pick, if_pos c1]
        simp
      · refine ⟨fun b o z => s3 _ _ (s2 _ _ z), ?_⟩
        rw [s3 _ _ hd, pick, if_neg c1]
    · rintro H2 ⟨s2, hd⟩
      rw [List.length_map] at hd
      walk_at "rs"
      exact ⟨D, _, rfl, SqL.of hd, k H2 fun b o z => s2 _ _ (nS _ _ z)⟩
theorem ok_Committee_is_quorum (T : Txt K mg a) : ∃ fd, FnOk P w K mg base CX0 2 a.d_Committee_is_quorum fd ["self", "members"] (spQuorum K a.C_Committee) ∧ Binds K fd ["self", "members"] [] := by
  obtain ⟨fd, F, b⟩ := T.d_Committee_is_quorum.F
  obtain ⟨fd_Committee_weight_of, G_Committee_weight_of, b_Committee_weight_of⟩ := ok_Committee_weight_of (P := P) (w := w) (base := base) T
  refine ⟨fd, F.ok sc_Committee_is_quorum (fun vs H Q E h => ?_) (fun cdv A outer s H vs Q E hr h => ?_), b⟩
  · obtain ⟨_, _, _, _, rfl, _⟩ := h
    rfl
  · obtain ⟨p, l, ws, ms, rfl, hc, hlen, hl, hms, k⟩ := h
    obtain ⟨dx, t, hp, ht⟩ := id hc
    refine ⟨_, (pss_one (ps_ret (pe_cmpR op_gt (pe_op op_mul pe_int (pe_meth (pv 0) T.cl_Committee T.me_Committee_weight_of G_Committee_weight_of (hr.mono (by decide)) b_Committee_weight_of .nil pass0 (pa_cons (pv 1) pa_nil))) (pe_op op_mul pe_int (pe_fld (pv 0) rfl)) (nomark _)))), ?_⟩
    walk_at "rs"
    refine ⟨p, dx, _, rfl, hp, cfs_no _ _ (by decide +kernel) (by decide +kernel) (by decide +kernel), ?_⟩
    walk_at "rs"
    refine ⟨p, l, ws, ms, rfl, hc, hlen, hl, hms, fun H1 s1 => ?_⟩
    walk_at "rs"
    refine ⟨p, _, dx, _, _, rfl, s1 _ _ hp, T.cl_Committee, T.a_Committee_total, cfs_t _ _, ?_⟩
    walk_at "rs"
    exact k H1 s1
theorem ok_Committee_is_third (T : Txt K mg a) : ∃ fd, FnOk P w K mg base CX0 2 a.d_Committee_is_third fd ["self", "members"] (spThird K a.C_Committee) ∧ Binds K fd ["self", "members"] [] := by
  obtain ⟨fd, F, b⟩ := T.d_Committee_is_third.F
  obtain ⟨fd_Committee_weight_of, G_Committee_weight_of, b_Committee_weight_of⟩ := ok_Committee_weight_of (P := P) (w := w) (base := base) T
  refine ⟨fd, F.ok sc_Committee_is_third (fun vs H Q E h => ?_) (fun cdv A outer s H vs Q E hr h => ?_), b⟩
  · obtain ⟨_, _, _, _, rfl, _⟩ := h
    rfl
  · obtain ⟨p, l, ws, ms, rfl, hc, hlen, hl, hms, k⟩ := h
    obtain ⟨dx, t, hp, ht⟩ := id hc
    refine ⟨_, (pss_one (ps_ret (pe_cmpR op_gt (pe_op op_mul pe_int (pe_meth (pv 0) T.cl_Committee T.me_Committee_weight_of G_Committee_weight_of (hr.mono (by decide)) b_Committee_weight_of .nil pass0 (pa_cons (pv 1) pa_nil))) (pe_fld (pv 0) rfl) (nomark _)))), ?_⟩
    walk_at "rs"
    refine ⟨p, dx, _, rfl, hp, cfs_no _ _ (by decide +kernel) (by decide +kernel) (by decide +kernel), ?_⟩
    walk_at "rs"
    refine ⟨p, l, ws, ms, rfl, hc, hlen, hl, hms, fun H1 s1 => ?_⟩
    walk_at "rs"
    refine ⟨p, _, dx, _, _, rfl, s1 _ _ hp, T.cl_Committee, T.a_Committee_total, cfs_t _ _, ?_⟩
    walk_at "rs"
    exact k H1 s1

theorem ok_Committee_leader (T : Txt K mg a) : ∃ fd, FnOk P w K mg base CX0 1 a.d_Committee_leader fd ["self", "height", "turn"] (spLeader K a.C_Committee) ∧ Binds K fd ["self", "height", "turn"] [] := by
  obtain ⟨fd, F, b⟩ := T.d_Committee_leader.F
  refine ⟨fd, F.ok sc_Committee_leader (fun vs H Q E h => ?_) (fun cdv A outer s H vs Q E hr h => ?_), b⟩
  · obtain ⟨_, _, _, _, rfl, _⟩ := h
    rfl
  · obtain ⟨p, ws, h, t, rfl, ⟨dx, q, hp, hq⟩, pos, k⟩ := h
    refine ⟨_, (pss_one (ps_ret (pe_op op_mod (pe_op op_add (pv 1) (pv 2)) (pe_fld (pv 0) rfl)))), ?_⟩
    walk_at "rs"
    refine ⟨p, _, dx, _, _, rfl, hp, T.cl_Committee, T.a_Committee_size, cfs_s _ _, ?_⟩
    refine ⟨_, _, rfl, rfl, (show (0 : Int) < _ by omega), ?_⟩
    exact k
/-! ### == of sequences of ints -/
theorem dp_ints (K : PySem.W.Frag) (H : Hp) : ∀ ws : List Int, DpAll K H (ws.map V.int) (ws.map PyData.int)
  | [] => .nil
  | x :: ws => .cons (.int x) (dp_ints K H ws)
theorem lay_ints : ∀ ws : List Int, PyData.canLayAll0 (ws.map PyData.int) = true
  | [] => by simp [PyData.canLayAll0]
  | x :: ws => by simp [PyData.canLayAll0, PyData.canLay0, lay_ints ws]
theorem depth_ints : ∀ ws : List Int, PyData.depthAll (ws.map PyData.int) = 0
  | [] => by simp [PyData.depthAll]
  | x :: ws => by simp [PyData.depthAll, PyData.depth, depth_ints ws]
theorem shaped_tup (ws : List Int) : SeqAt.shaped (.tuple (ws.map PyData.int)) = true := by simp [SeqAt.shaped, PyData.canLay0, PyData.depth, lay_ints, depth_ints]
theorem shaped_lst (ws : List Int) : SeqAt.shaped (.list (ws.map PyData.int)) = true := by simp [SeqAt.shaped, PyData.canLay0, PyData.depth, lay_ints, depth_ints]
theorem eqv_ints : ∀ ws : List Int, PyData.eqvAll (ws.map PyData.int) (ws.map PyData.int) = true
  | [] => by simp [PyData.eqvAll]
  | x :: ws => by simp [PyData.eqvAll, PyData.eqv, eqv_ints ws]
theorem eqv_tup (ws : List Int) : PyData.eqv (.tuple (ws.map PyData.int)) (.tuple (ws.map PyData.int)) = true := by simp [PyData.eqv, eqv_ints]
theorem eqv_lst (ws : List Int) : PyData.eqv (.list (ws.map PyData.int)) (.list (ws.map PyData.int)) = true := by simp [PyData.eqv, eqv_ints]
theorem ok_law_right (T : Txt K mg a) : ∃ fd, FnOk P w K mg base CX0 3 a.d_law_right fd ["committee", "weights", "members", "height", "turn"] (spRight K a.C_Committee) ∧ Binds K fd ["committee", "weights", "members", "height", "turn"] [] := by
  obtain ⟨fd, F, b⟩ := T.d_law_right.F
  obtain ⟨fd_Committee_weight_of, G_Committee_weight_of, b_Committee_weight_of⟩ := ok_Committee_weight_of (P := P) (w := w) (base := base) T
  obtain ⟨fd_Committee_leader, G_Committee_leader, b_Committee_leader⟩ := ok_Committee_leader (P := P) (w := w) (base := base) T
  obtain ⟨fd_law_is_integer, G_law_is_integer, b_law_is_integer⟩ := ok_law_is_integer (P := P) (w := w) (base := base) T
  obtain ⟨fd_Committee_is_quorum, G_Committee_is_quorum, b_Committee_is_quorum⟩ := ok_Committee_is_quorum (P := P) (w := w) (base := base) T
  obtain ⟨fd_Committee_is_third, G_Committee_is_third, b_Committee_is_third⟩ := ok_Committee_is_third (P := P) (w := w) (base := base) T
  refine ⟨fd, F.ok sc_law_right (fun vs H Q E h => ?_) (fun cdv A outer s H vs Q E hr h => ?_), b⟩
  · obtain ⟨_, _, _, _, _, _, _, rfl, _⟩ := h
    rfl
  · obtain ⟨p, l, m, ws, ms, ht, tn, rfl, hc, hl, gw, hm, few, k⟩ := h
    obtain ⟨dx, t, hp, htup⟩ := id hc
    have wlen := gw.2.1
    refine ⟨_, (pss_cons (ps_if (PW.pt (pw_or (pt_cmpR (op_neD hr.units) (pe_fld (pv 0) rfl) (pe_callTy call_tuple_of (by rfl) T.n_tuple (by decide +kernel) (pa_cons (pv 1) pa_nil)) (nomark _)) (pw_or1 (pt_not (pt_val (pe_callB call_isi (by rfl) T.n_isinstance (by decide +kernel) (pa_cons (pe_fld (pv 0) rfl) (pa_cons (pe_bltn (v := .ty "tuple") (u := .type "tuple") (by rfl) T.n_tuple (by decide +kernel) rfl) pa_nil))))))))
      (pss_one (ps_ret pe_bl))
      pss_nil)
      (pss_cons (ps_if (PW.pt (pw_or (pt_not (pt_val (pe_call G_law_is_integer (hr.mono (by decide)) rfl T.d_law_is_integer.g T.d_law_is_integer.kp b_law_is_integer .nil pass0 (pa_cons (pe_fld (pv 0) rfl) pa_nil)))) (pw_or (pt_cmpR op_ne (pe_fld (pv 0) rfl) (pe_callB call_len_seq (by rfl) T.n_len PySem.boot_len (pa_cons (pv 1) pa_nil)) (nomark _)) (pw_or1 (pt_cmpR op_ne (pe_fld (pv 0) rfl) (pe_callB (cr_sum rfl) (by rfl) T.n_sum (by decide +kernel) (pa_cons (pv 1) pa_nil)) (nomark _))))))
      (pss_one (ps_ret pe_bl))
      pss_nil)
      (pss_cons (ps_set (i := 5) sc_law_right.nd rfl (Or.inl rfl) (pe_callB (cr_sum rfl) (by rfl) T.n_sum (by decide +kernel) (pa_cons (pe_lc (own := [("k", 7)]) (g := (gName 7)) rfl sc_law_right.nd (pi_range1 rfl T.n_range (pa_cons (pe_callB call_len_seq (by rfl) T.n_len PySem.boot_len (pa_cons (pv 1) pa_nil)) pa_nil)) (blkOk_by (own := [("k", 7)]) (N := sc_law_right_N) (sc := defScope s_law_right) (by decide +kernel)) (fun _ _ _ _ _ => (pg_name (i := 7) sc_law_right.nd rfl (Or.inl rfl))) (fun _ _ _ _ _ => (pts_one (pt_cmpR (r := rIn K false) op_in_seq (pv 7) (pv 2) (by rfl)))) (fun _ _ _ _ _ => (pe_ix (r := rIxL K) ix_list (pv 1) (pv 7) (fun _ _ => rfl)))) pa_nil)))
      (pss_cons (ps_set (i := 6) sc_law_right.nd rfl (Or.inl rfl) (pe_meth (pv 0) T.cl_Committee T.me_Committee_weight_of G_Committee_weight_of (hr.mono (by decide)) b_Committee_weight_of .nil pass0 (pa_cons (pe_callTy call_list_of (by rfl) T.n_list (by decide +kernel) (pa_cons (pv 2) pa_nil)) pa_nil)))
      (pss_cons (ps_if (PW.pt (pw_or (pt_not (pt_val (pe_call G_law_is_integer (hr.mono (by decide)) rfl T.d_law_is_integer.g T.d_law_is_integer.kp b_law_is_integer .nil pass0 (pa_cons (pv 6) pa_nil)))) (pw_or1 (pt_cmpR op_ne (pv 6) (pv 5) (nomark _)))))
      (pss_one (ps_ret pe_bl))
      pss_nil)
      (C8.pss_cut (ps_if (PW.pt (pw_and (pt_cmpR op_isnot_bl (pe_meth (pv 0) T.cl_Committee T.me_Committee_is_quorum G_Committee_is_quorum (hr.mono (by decide)) b_Committee_is_quorum .nil pass0 (pa_cons (pe_callTy call_list_of (by rfl) T.n_list (by decide +kernel) (pa_cons (pv 2) pa_nil)) pa_nil)) pe_bl (nomark _)) (pw_and1 (pt_cmpR op_gt (pe_op op_mul pe_int (pv 5)) (pe_op op_mul pe_int (pe_callB (cr_sum rfl) (by rfl) T.n_sum (by decide +kernel) (pa_cons (pv 1) pa_nil))) (nomark _)))))
      (pss_one (ps_ret pe_bl))
      pss_nil)
      (C8.pss_cut (ps_if (PW.pt (pw_and (pt_cmpR op_isnot_bl (pe_meth (pv 0) T.cl_Committee T.me_Committee_is_quorum G_Committee_is_quorum (hr.mono (by decide)) b_Committee_is_quorum .nil pass0 (pa_cons (pe_callTy call_list_of (by rfl) T.n_list (by decide +kernel) (pa_cons (pv 2) pa_nil)) pa_nil)) pe_bl (nomark _)) (pw_and1 (pt_cmpR op_le (pe_op op_mul pe_int (pv 5)) (pe_op op_mul pe_int (pe_callB (cr_sum rfl) (by rfl) T.n_sum (by decide +kernel) (pa_cons (pv 1) pa_nil))) (nomark _)))))
      (pss_one (ps_ret pe_bl))
      pss_nil)
      (C8.pss_cut (ps_if (PW.pt (pw_and (pt_cmpR op_isnot_bl (pe_meth (pv 0) T.cl_Committee T.me_Committee_is_third G_Committee_is_third (hr.mono (by decide)) b_Committee_is_third .nil pass0 (pa_cons (pe_callTy call_list_of (by rfl) T.n_list (by decide +kernel) (pa_cons (pv 2) pa_nil)) pa_nil)) pe_bl (nomark _)) (pw_and1 (pt_cmpR op_gt (pe_op op_mul pe_int (pv 5)) (pe_callB (cr_sum rfl) (by rfl) T.n_sum (by decide +kernel) (pa_cons (pv 1) pa_nil)) (nomark _)))))
      (pss_one (ps_ret pe_bl))
      pss_nil)
      (C8.pss_cut (ps_if (PW.pt (pw_and (pt_cmpR op_isnot_bl (pe_meth (pv 0) T.cl_Committee T.me_Committee_is_third G_Committee_is_third (hr.mono (by decide)) b_Committee_is_third .nil pass0 (pa_cons (pe_callTy call_list_of (by rfl) T.n_list (by decide +kernel) (pa_cons (pv 2) pa_nil)) pa_nil)) pe_bl (nomark _)) (pw_and1 (pt_cmpR op_le (pe_op op_mul pe_int (pv 5)) (pe_callB (cr_sum rfl) (by rfl) T.n_sum (by decide +kernel) (pa_cons (pv 1) pa_nil)) (nomark _)))))
      (pss_one (ps_ret pe_bl))
      pss_nil)
      (pss_one (ps_ret (pe_cmpR op_eq (pe_meth (pv 0) T.cl_Committee T.me_Committee_leader G_Committee_leader (hr.mono (by decide)) b_Committee_leader .nil pass0 (pa_cons (pv 3) (pa_cons (pv 4) pa_nil))) (pe_op op_mod (pe_callTy call_int1 (by rfl) T.n_int (by decide +kernel) (pa_cons (pe_op op_add (pv 3) (pv 4)) pa_nil)) (pe_callB call_len_seq (by rfl) T.n_len PySem.boot_len (pa_cons (pv 1) pa_nil))) (nomark _))))))))))))), ?_⟩
    walk_at "rs"
    refine ⟨p, _, dx, _, .ref t, rfl, hp, T.cl_Committee, T.a_Committee_weights, cfs_w _ _, ?_⟩
    walk_at "rs"
    refine ⟨l, _, rfl, .inl ⟨hl, fun q hq => ?_⟩⟩
    have s1 : Same H (upd H q (.tup (ws.map V.int))) := same_new hq
    refine ⟨_, _, .tup (SqT.of (s1 _ _ htup)) (dp_ints _ _ ws), .tup (SqT.of upd_same) (dp_ints _ _ ws), shaped_tup ws, shaped_tup ws, ?_⟩
    rw [eqv_tup]
    have hp1 := s1 _ _ hp
    have hl1 := s1.seq hl
    have hm1 := s1.seq hm
    have hc1 := hc.same s1
    have htup1 := s1 _ _ htup
    generalize upd H q (.tup (ws.map V.int)) = H1 at hp1 hl1 hm1 hc1 htup1 ⊢
    walk_at "rs"
    refine ⟨p, _, dx, _, .ref t, rfl, hp1, T.cl_Committee, T.a_Committee_weights, cfs_w _ _, ?_⟩
    walk_at "rs"
    refine ⟨_, _, .type "tuple", .type "tuple", true, rfl, .ty _, .base (.tup htup1), kit_ty (by decide +kernel), ?_⟩
    walk_at "rs"
    refine ⟨p, _, dx, _, _, rfl, hp1, T.cl_Committee, T.a_Committee_size, cfs_s _ _, ?_⟩
    walk_at "rs"
    refine ⟨p, _, dx, _, _, rfl, hp1, T.cl_Committee, T.a_Committee_size, cfs_s _ _, ?_⟩
    walk_at "rs"
    refine ⟨l, _, rfl, .inl hl1, ?_⟩
    walk_at "rs"
    refine ite2 (fun c => ?_) (fun c => ?_)
    · exfalso
      revert c
      simp
    walk_at "rs"
    refine ⟨p, _, dx, _, _, rfl, hp1, T.cl_Committee, T.a_Committee_total, cfs_t _ _, ?_⟩
    walk_at "rs"
    refine ⟨l, ws, rfl, hl1, ?_⟩
    walk_at "rs"
    refine ite2 (fun c => ?_) (fun c => ?_)
    · exfalso
      revert c
      simp
    walk_at "rs"
    refine ⟨l, _, rfl, .inl hl1, ?_⟩
    walk_at "rs"
    have hN : ((ws.map V.int).length : Int) = ws.length := by rw [List.length_map]
    refine ⟨(by show -(2 ^ 62 : Int) ≤ _; omega), (by show _ < (2 ^ 62 : Int); omega), fun D hD => ?_⟩
    refine lc_range (lo := 0) (n := (((ws.map V.int).length : Int)).toNat) (fun i H2 => Same H1 H2 ∧ H2 D = some (.lst ((pick ws (fun k => decide (k ∈ ms)) i).map V.int))) ⟨same_new hD, upd_same⟩ ?_ ?_
    · rintro i H2 hi' ⟨s2, hd⟩
      have hi : i < ws.length := by omega
      have fit : ((pick ws (fun k => decide (k ∈ ms)) i).map V.int).length < sizeLine := by
        have := pick_len ws (fun k => decide (k ∈ ms)) i
        rw [List.length_map]
        exact small1000 (by omega)
      have e0 : (0 : Int) + (i : Int) = (i : Int) := Int.zero_add _
      rw [e0]
      refine ⟨rfl, ?_⟩
      walk_at "rs"
      refine ⟨m, _, rfl, .inl (s2.seq hm1), rfl, flat_ints ms, ?_⟩
      rw [if_neg Bool.false_ne_true, inV_ints]
      walk_at "rs"
      refine ite2 (fun c1 => ?_) (fun c1 => ?_)
      · walk_at "rs"
        refine ⟨l, _, _, .int (ws.getD i 0), rfl, rfl, s2.seq hl1, at_of (j := i) rfl (at_ints hi), ?_⟩
        walk_at "rs"
        refine ⟨_, hd, fit, same_upd s2 hD, ?_⟩
        rw [upd_same, pick, if_pos c1]
        simp
      · refine ⟨s2, ?_⟩
        rw [hd, pick, if_neg c1]
    · rintro H2 ⟨s2, hd⟩
      rw [hN, Int.toNat_natCast] at hd
      walk_at "rs"
      refine ⟨D, _, rfl, SqL.of hd, ?_⟩
      walk_at "rs"
      refine ⟨p, dx, _, rfl, s2 _ _ hp1, cfs_no _ _ (by decide +kernel) (by decide +kernel) (by decide +kernel), ?_⟩
      walk_at "rs"
      refine ⟨m, _, rfl, .inl (s2.seq hm1), fun r hr => ?_⟩
      have s3 : Same H2 (upd H2 r (.lst (ms.map V.int))) := same_new hr
      refine ⟨p, r, ws, ms, rfl, (hc1.same s2).same s3, wlen, SqL.of upd_same, by omega, fun H4 s4' => ?_⟩
      have s4 : Same H1 H4 := fun b o z => s4' _ _ (s3 _ _ (s2 _ _ z))
      clear s4' s3 hr s2 hd
      walk_at "rs"
      refine ite2 (fun c => ?_) (fun c => ?_)
      · exfalso
        revert c
        simp [wOf, wt]
      refine ⟨fun σ' H' => σ' = [some (.ref p), some (.ref l), some (.ref m), some (.int ht), some (.int tn), some (.int (wOf ws ms)), some (.int (wOf ws ms)), none] ∧ Same H1 H', ?_, ?_⟩
      · walk_at "rs"
        refine ⟨p, dx, _, rfl, s4 _ _ hp1, cfs_no _ _ (by decide +kernel) (by decide +kernel) (by decide +kernel), ?_⟩
        walk_at "rs"
        refine ⟨m, _, rfl, .inl (s4.seq hm1), fun r hr => ?_⟩
        have s5 : Same H4 (upd H4 r (.lst (ms.map V.int))) := same_new hr
        refine ⟨p, r, ws, ms, rfl, (hc1.same s4).same s5, wlen, SqL.of upd_same, by omega, fun H6 s6 => ?_⟩
        have s7 : Same H1 H6 := fun b o z => s6 _ _ (s5 _ _ (s4 _ _ z))
        walk_at "rs"
        refine ite2 (fun c1 => ?_) (fun c1 => ?_)
        · walk_at "rs"
          refine ⟨l, ws, rfl, s7.seq hl1, ?_⟩
          walk_at "rs"
          refine ite2 (fun c2 => ?_) (fun c2 => ?_)
          · exfalso
            have e : (pick ws (fun k => decide (k ∈ ms)) ws.length).sum = wOf ws ms := rfl
            simp at c1 c2
            omega
          · exact ⟨rfl, s7⟩
        · exact ⟨rfl, s7⟩
      rintro σ' H5 ⟨rfl, s5⟩
      clear s4
      have s4 := s5
      clear s5
      revert s4
      generalize H5 = H4
      intro s4
      refine ⟨fun σ' H' => σ' = [some (.ref p), some (.ref l), some (.ref m), some (.int ht), some (.int tn), some (.int (wOf ws ms)), some (.int (wOf ws ms)), none] ∧ Same H1 H', ?_, ?_⟩
      · walk_at "rs"
        refine ⟨p, dx, _, rfl, s4 _ _ hp1, cfs_no _ _ (by decide +kernel) (by decide +kernel) (by decide +kernel), ?_⟩
        walk_at "rs"
        refine ⟨m, _, rfl, .inl (s4.seq hm1), fun r hr => ?_⟩
        have s5 : Same H4 (upd H4 r (.lst (ms.map V.int))) := same_new hr
        refine ⟨p, r, ws, ms, rfl, (hc1.same s4).same s5, wlen, SqL.of upd_same, by omega, fun H6 s6 => ?_⟩
        have s7 : Same H1 H6 := fun b o z => s6 _ _ (s5 _ _ (s4 _ _ z))
        walk_at "rs"
        refine ite2 (fun c1 => ?_) (fun c1 => ?_)
        · walk_at "rs"
          refine ⟨l, ws, rfl, s7.seq hl1, ?_⟩
          walk_at "rs"
          refine ite2 (fun c2 => ?_) (fun c2 => ?_)
          · exfalso
            have e : (pick ws (fun k => decide (k ∈ ms)) ws.length).sum = wOf ws ms := rfl
            simp at c1 c2
            omega
          · exact ⟨rfl, s7⟩
        · exact ⟨rfl, s7⟩
      rintro σ' H5 ⟨rfl, s5⟩
      clear s4
      have s4 := s5
      clear s5
      revert s4
      generalize H5 = H4
      intro s4
      refine ⟨fun σ' H' => σ' = [some (.ref p), some (.ref l), some (.ref m), some (.int ht), some (.int tn), some (.int (wOf ws ms)), some (.int (wOf ws ms)), none] ∧ Same H1 H', ?_, ?_⟩
      · walk_at "rs"
        refine ⟨p, dx, _, rfl, s4 _ _ hp1, cfs_no _ _ (by decide +kernel) (by decide +kernel) (by decide +kernel), ?_⟩
        walk_at "rs"
        refine ⟨m, _, rfl, .inl (s4.seq hm1), fun r hr => ?_⟩
        have s5 : Same H4 (upd H4 r (.lst (ms.map V.int))) := same_new hr
        refine ⟨p, r, ws, ms, rfl, (hc1.same s4).same s5, wlen, SqL.of upd_same, by omega, fun H6 s6 => ?_⟩
        have s7 : Same H1 H6 := fun b o z => s6 _ _ (s5 _ _ (s4 _ _ z))
        walk_at "rs"
        refine ite2 (fun c1 => ?_) (fun c1 => ?_)
        · walk_at "rs"
          refine ⟨l, ws, rfl, s7.seq hl1, ?_⟩
          walk_at "rs"
          refine ite2 (fun c2 => ?_) (fun c2 => ?_)
          · exfalso
            have e : (pick ws (fun k => decide (k ∈ ms)) ws.length).sum = wOf ws ms := rfl
            simp at c1 c2
            omega
          · exact ⟨rfl, s7⟩
        · exact ⟨rfl, s7⟩
      rintro σ' H5 ⟨rfl, s5⟩
      clear s4
      have s4 := s5
      clear s5
      revert s4
      generalize H5 = H4
      intro s4
      refine ⟨fun σ' H' => σ' = [some (.ref p), some (.ref l), some (.ref m), some (.int ht), some (.int tn), some (.int (wOf ws ms)), some (.int (wOf ws ms)), none] ∧ Same H1 H', ?_, ?_⟩
      · walk_at "rs"
        refine ⟨p, dx, _, rfl, s4 _ _ hp1, cfs_no _ _ (by decide +kernel) (by decide +kernel) (by decide +kernel), ?_⟩
        walk_at "rs"
        refine ⟨m, _, rfl, .inl (s4.seq hm1), fun r hr => ?_⟩
        have s5 : Same H4 (upd H4 r (.lst (ms.map V.int))) := same_new hr
        refine ⟨p, r, ws, ms, rfl, (hc1.same s4).same s5, wlen, SqL.of upd_same, by omega, fun H6 s6 => ?_⟩
        have s7 : Same H1 H6 := fun b o z => s6 _ _ (s5 _ _ (s4 _ _ z))
        walk_at "rs"
        refine ite2 (fun c1 => ?_) (fun c1 => ?_)
        · walk_at "rs"
          refine ⟨l, ws, rfl, s7.seq hl1, ?_⟩
          walk_at "rs"
          refine ite2 (fun c2 => ?_) (fun c2 => ?_)
          · exfalso
            have e : (pick ws (fun k => decide (k ∈ ms)) ws.length).sum = wOf ws ms := rfl
            simp at c1 c2
            omega
          · exact ⟨rfl, s7⟩
        · exact ⟨rfl, s7⟩
      rintro σ' H5 ⟨rfl, s5⟩
      clear s4
      have s4 := s5
      clear s5
      revert s4
      generalize H5 = H4
      intro s4
      walk_at "rs"
      refine ⟨p, dx, _, rfl, s4 _ _ hp1, cfs_no _ _ (by decide +kernel) (by decide +kernel) (by decide +kernel), ?_⟩
      walk_at "rs"
      refine ⟨p, ws, ht, tn, rfl, hc1.same s4, gw.1, ?_⟩
      walk_at "rs"
      refine ⟨l, _, rfl, .inl (s4.seq hl1), ?_⟩
      have pos := gw.1
      rw [hN]
      refine ⟨_, _, rfl, rfl, (show (0 : Int) < _ by omega), ?_⟩
      walk_at "rs"
      show Q (V.bl (decide (V.int ((ht + tn) % (ws.length : Int)) = V.int ((ht + tn) % (ws.length : Int))))) H4
      rw [decide_eq_true rfl]
      exact k _
theorem map_cut (ns : List Int) (lo hi : Option Int) : cutV (ns.map V.int) lo hi = (((ns.drop (HT.sIx ns.length 0 lo)).take (HT.sIx ns.length ns.length hi - HT.sIx ns.length 0 lo))).map V.int := by
  unfold cutV
  rw [List.length_map, List.map_take, List.map_drop]
theorem ok_law {f : Addr} {fd : FuncData} (F : Fun K "law" "law" s_law f fd) (TE : TxtE P K mg a) (T : Txt K mg a) : FnOk P w K mg base CX0 6 f fd ["script"] (spLaw K) := by
  obtain ⟨fd_law_bad, G_law_bad, b_law_bad⟩ := ok_law_bad (P := P) (w := w) (base := base) T
  obtain ⟨fd_law_right, G_law_right, b_law_right⟩ := ok_law_right (P := P) (w := w) (base := base) T
  obtain ⟨fd_law_weight, G_law_weight, b_law_weight⟩ := ok_law_weight (P := P) (w := w) (base := base) T
  obtain ⟨fd_Committee_init, G_Committee_init, b_Committee_init⟩ := ok_Committee_init (P := P) (w := w) (base := base) TE T
  obtain ⟨fd_law_row, G_law_row, b_law_row⟩ := ok_law_row (P := P) (w := w) (base := base) T
  obtain ⟨fd_law_is_integer, G_law_is_integer, b_law_is_integer⟩ := ok_law_is_integer (P := P) (w := w) (base := base) T
  obtain ⟨fd_law_cell, G_law_cell, b_law_cell⟩ := ok_law_cell (P := P) (w := w) (base := base) T
  obtain ⟨fd_Committee_init, G_Committee_init, b_Committee_init⟩ := ok_Committee_init (P := P) (w := w) (base := base) TE T
  obtain ⟨fd_H, G_H, b_H⟩ := hot_law_is_integer (P := P) (w := w) (base := base) T
  obtain ⟨fdS, SupS, bS⟩ := TE.sup_BadWeights
  have nof := SupS.nof
  refine F.ok sc_law (fun vs H Q E h => ?_) (fun cdv A outer s H vs Q E hr h => ?_)
  · obtain ⟨_, _, rfl, _⟩ := h
    rfl
  · obtain ⟨l, ns, rfl, hS, hl, k⟩ := h
    refine ⟨_, (pss_cons (ps_setLc (i := 1) (own := [("cell", 7)]) (g := (gName 7)) (tt := tYes) rfl sc_law.nd rfl rfl (sw_true rfl rfl rfl (by decide +kernel)) (pi_list (pe_slice sl_list (pv 0) (po_some pe_int) (po_some pe_int))) (blkOk_by (own := [("cell", 7)]) (N := sc_law_N) (sc := defScope s_law) (by decide +kernel)) (fun _ _ _ _ _ => (pg_name (i := 7) sc_law.nd rfl (Or.inl rfl))) (fun _ _ _ _ _ => pts_nil) (fun _ _ _ _ _ => (pe_call G_law_weight (hr.mono (by decide)) rfl T.d_law_weight.g T.d_law_weight.kp b_law_weight .nil pass0 (pa_cons (pv 7) pa_nil))))
      (pss_cons (ps_set (i := 2) sc_law.nd rfl (Or.inl rfl) (pe_callTy call_list_of (by rfl) T.n_list (by decide +kernel) (pa_cons (pv 1) pa_nil)))
      (pss_cons (ps_set (i := 3) sc_law.nd rfl (Or.inl rfl) (pe_call G_law_bad (hr.mono (by decide)) rfl T.d_law_bad.g T.d_law_bad.kp b_law_bad .nil pass0 (pa_cons (pv 1) pa_nil)))
      (pss_cons (L2N.ps_try_as (i := 5) rfl rfl sc_law.nd rfl rfl ⟨rfl, by decide, .inl TE.g_TribunalError⟩ takes0N (fun W pn xe tk _ => (pss_one (ps_set (i := 4) sc_law.nd rfl (Or.inl rfl) (pe_makeS T.m_Committee G_Committee_init (hr.mono (by decide)) rfl T.g_Committee b_Committee_init (E := fun σ cls d H => W cls d σ H) (fun pins σ H s u s_ I c => tk u s_ (L2N.XE.of_call I (fun _ _ _ h => h) c)) (pa_cons (pv 1) pa_nil))))) (fun ae oe cls d pn hz hf => (pss_cons (ps_if (PW.pt (pw_or (pt_val (pe_callB (call_isXT hz.zc hf) (by rfl) T.n_isinstance (by decide +kernel) (pa_cons (pv 5) (pa_cons (pe_tup (pa_cons (pe_glob (v := .ref a.C_BadJournal) rfl TE.g_BadJournal rfl) (pa_cons (pe_glob (v := .ref a.C_BadLine) rfl TE.g_BadLine rfl) (pa_cons (pe_glob (v := .ref a.C_BadPaper) rfl TE.g_BadPaper rfl) (pa_cons (pe_glob (v := .ref a.C_Forged) rfl TE.g_Forged rfl) (pa_cons (pe_glob (v := .ref a.C_Refused) rfl TE.g_Refused rfl) pa_nil)))))) pa_nil)))) (pw_or1 (pt_not (pt_val (pe_callB (call_isX hz.zc hf) (by rfl) T.n_isinstance (by decide +kernel) (pa_cons (pv 5) (pa_cons (pe_bltn (v := .ty "ValueError") (u := .type "ValueError") (by rfl) T.n_ValueError (by decide +kernel) rfl) pa_nil)))))))) (pss_one (ps_ret pe_bl)) pss_nil) (pss_one (ps_ret (pe_and (pe_cmpR op_notN (pv 3) pe_non (nomark _)) (pe_and (pe_callB (call_isX hz.zc hf) (by rfl) T.n_isinstance (by decide +kernel) (pa_cons (pv 5) (pa_cons (pe_glob (v := .ref a.C_BadWeights) rfl TE.g_BadWeights rfl) pa_nil))) (pe_and (L2H.pe_callH (E := fun _ => E0) G_H ((L2H.roomH_mark hr _).mono (by decide)) (hot_of hz hf) rfl T.d_law_is_integer.g T.d_law_is_integer.kp b_H (fun _ _ _ _ _ _ _ h => h.elim) (pa_cons (pe_xf ⟨TE.xc_BadWeights.ga, TE.xc_BadWeights.gt, TE.xc_BadWeights.sub, TE.xc_BadWeights.has⟩ nof hz.zc hf (pv 5)) pa_nil)) (pe_one (pe_cmpR op_eq (pe_xf ⟨TE.xc_BadWeights.ga, TE.xc_BadWeights.gt, TE.xc_BadWeights.sub, TE.xc_BadWeights.has⟩ nof hz.zc hf (pv 5)) (pv 3) (nomark _)))))))))))
      (pss_cons (ps_if (PW.pt (pw_or (pt_cmpR op_notN (pv 3) pe_non (nomark _)) (pw_or1 (pt_cmpR (op_neD hr.units) (pv 1) (pv 2) (nomark _)))))
      (pss_one (ps_ret pe_bl))
      pss_nil)
      (pss_cons (ps_setLc (i := 6) (own := [("digit", 8)]) (g := (gName 8)) (tt := tYes) rfl sc_law.nd rfl rfl (sw_true rfl rfl rfl (by decide +kernel)) (pi_list (pe_call G_law_row (hr.mono (by decide)) rfl T.d_law_row.g T.d_law_row.kp b_law_row .nil pass0 (pa_cons (pe_call G_law_cell (hr.mono (by decide)) rfl T.d_law_cell.g T.d_law_cell.kp b_law_cell .nil pass0 (pa_cons (pv 0) (pa_cons pe_int pa_nil))) (pa_cons pe_int (pa_cons (pe_op op_add (pe_callB call_len_seq (by rfl) T.n_len PySem.boot_len (pa_cons (pv 1) pa_nil)) pe_int) pa_nil))))) (blkOk_by (own := [("digit", 8)]) (N := sc_law_N) (sc := defScope s_law) (by decide +kernel)) (fun _ _ _ _ _ => (pg_name (i := 8) sc_law.nd rfl (Or.inl rfl))) (fun _ _ _ _ _ => pts_nil) (fun _ _ _ _ _ => (pe_op op_sub (pv 8) pe_int)))
      (pss_cons (ps_set (i := 6) sc_law.nd rfl (Or.inl rfl) (pe_slice sl_list (pv 6) po_none (po_some (pe_op op_mod (pe_callTy call_int1 (by rfl) T.n_int (by decide +kernel) (pa_cons (pe_call G_law_cell (hr.mono (by decide)) rfl T.d_law_cell.g T.d_law_cell.kp b_law_cell .nil pass0 (pa_cons (pv 0) (pa_cons pe_int pa_nil))) pa_nil)) pe_int))))
      (pss_one (ps_ret (pe_call G_law_right (hr.mono (by decide)) rfl T.d_law_right.g T.d_law_right.kp b_law_right .nil pass0 (pa_cons (pv 4) (pa_cons (pv 1) (pa_cons (pv 6) (pa_cons (pe_op op_mod (pe_op op_fdiv (pe_call G_law_cell (hr.mono (by decide)) rfl T.d_law_cell.g T.d_law_cell.kp b_law_cell .nil pass0 (pa_cons (pv 0) (pa_cons pe_int pa_nil))) pe_int) pe_int) (pa_cons (pe_op op_mod (pe_callTy call_int1 (by rfl) T.n_int (by decide +kernel) (pa_cons (pe_call G_law_cell (hr.mono (by decide)) rfl T.d_law_cell.g T.d_law_cell.kp b_law_cell .nil pass0 (pa_cons (pv 0) (pa_cons pe_int pa_nil))) pa_nil)) pe_int) pa_nil))))))))))))))), ?_⟩
    walk_at "rs"
    refine ⟨l, _, rfl, hS, fun c0 hc0 => ?_⟩
    obtain ⟨cs, eC, lenC⟩ : ∃ cs : List Int, cutV (ns.map V.int) (some 2) (some 22) = cs.map V.int ∧ cs.length ≤ 63 := ⟨_, map_cut _ _ _, by
      rw [List.length_take, List.length_drop]
      omega⟩
    rw [eC]
    refine ⟨c0, rfl, ⟨_, SqL.of upd_same⟩, fun D hD => ?_⟩
    have s0 : Same H (upd H c0 (.lst (cs.map V.int))) := same_new hc0
    have hcs : (upd H c0 (.lst (cs.map V.int))) c0 = some (.lst (cs.map V.int)) := upd_same
    have hS1 := s0.seq hS
    generalize upd H c0 (.lst (cs.map V.int)) = H1 at s0 hcs hS1 hD ⊢
    refine lc_list (K := K) (a := c0) (xs := cs.map V.int) (fun i H2 => Same H1 H2 ∧ ∃ acc : List Int, H2 D = some (.lst (acc.map V.int)) ∧ acc.length = i) ⟨same_new hD, [], upd_same, rfl⟩ (fun i H2 _ ⟨s2, _⟩ => SqL.of (s2 _ _ hcs)) ?_ ?_
    · rintro i y H2 hy ⟨s2, acc, hd, hacc⟩
      have hi : i < cs.length := by
        have e := (List.getElem?_eq_some_iff.mp hy).1
        rwa [List.length_map] at e
      rw [at_ints hi] at hy
      cases hy
      refine ⟨rfl, ?_⟩
      walk_at "rs"
      intro z H3 s3
      exact ⟨_, s3 _ _ hd, by rw [List.length_map]; exact small1000 (by omega), same_upd (s2.trans s3) hD, acc ++ [z], by rw [upd_same]; simp, by simp; omega⟩
    · rintro H2 ⟨s2, ws, hw, hlen⟩
      rw [List.length_map] at hlen
      have hS2 := s2.seq hS1
      walk_at "rs"
      refine ⟨D, _, rfl, .inl (SqL.of hw), fun q hq => ?_⟩
      have s3 : Same H2 (upd H2 q (.lst (ws.map V.int))) := same_new hq
      have hw3 := s3 _ _ hw
      have hk3 : (upd H2 q (.lst (ws.map V.int))) q = some (.lst (ws.map V.int)) := upd_same
      have hS3 := s3.seq hS2
      generalize upd H2 q (.lst (ws.map V.int)) = H3 at s3 hw3 hk3 hS3 ⊢
      walk_at "rs"
      refine ⟨D, ws, rfl, SqL.of hw3, by omega, fun r H4 hfb s4 => ?_⟩
      have hw4 := s4 _ _ hw3
      have hk4 := s4 _ _ hk3
      have hS4 := s4.seq hS3
      walk_at "rs"
      intro x dx nx ndx nex
      have sm : Same H4 (upd (upd H4 dx (.own x)) x (.ins a.C_Committee dx [])) := same_upd (same_new ndx) nx
      refine ⟨x, dx, D, ws, rfl, upd_same, SqL.of (sm _ _ hw4), by omega, fun H5 hfb2 hc kp => ⟨rfl, ?_⟩, fun i d H5 hfb2 s5 hd5 => ?_⟩
      · have s5 : Same H4 H5 := Same.made nx ndx kp
        have er : r = none := hfb.one hfb2
        subst er
        have gw := hfb.good
        walk_at "rs"
        refine ⟨_, _, .lst (SqL.of (s5 _ _ hw4)) (dp_ints _ _ ws), .lst (SqL.of (s5 _ _ hk4)) (dp_ints _ _ ws), shaped_lst ws, shaped_lst ws, ?_⟩
        rw [eqv_lst]
        walk_at "rs"
        have hw5 := s5 _ _ hw4
        have hS5 := s5.seq hS4
        refine ⟨l, ns, 0, rfl, hS5, hl, by decide, ?_⟩
        walk_at "rs"
        refine ⟨D, _, rfl, .inl (SqL.of hw5), ?_⟩
        walk_at "rs"
        have wlen := gw.2.1
        refine ⟨_, _, _, rfl, by decide, by decide, by rw [List.length_map]; omega, by rw [List.length_map]; omega, fun pd row H6 s6 hrow rlen hb hpd => ?_⟩
        walk_at "rs"
        have hw6 := s6 _ _ hw5
        have hS6 := s6.seq hS5
        have hc6 := hc.same s6
        have rlen' : row.length = 12 := rlen
        refine ⟨⟨_, SqL.of hrow⟩, fun G hG => ?_⟩
        refine lc_list (K := K) (a := pd) (xs := row.map V.int) (fun i H7 => Same H6 H7 ∧ ∃ acc : List Int, H7 G = some (.lst (acc.map V.int)) ∧ acc.length = i) ⟨same_new hG, [], upd_same, rfl⟩ (fun i H7 _ ⟨s7, _⟩ => SqL.of (s7 _ _ hrow)) ?_ ?_
        · rintro i y H7 hy ⟨s7, acc, hd, hacc⟩
          have hi : i < row.length := by
            have e := (List.getElem?_eq_some_iff.mp hy).1
            rwa [List.length_map] at e
          rw [at_ints hi] at hy
          cases hy
          refine ⟨rfl, ?_⟩
          walk_at "rs"
          exact ⟨_, hd, by rw [List.length_map]; exact small1000 (by omega), same_upd s7 hG, acc ++ [row.getD i 0 - 2], by rw [upd_same]; simp, by simp; omega⟩
        · rintro H7 ⟨s7, ms, hm, mlen⟩
          rw [List.length_map] at mlen
          walk_at "rs"
          have hS7 := s7.seq hS6
          have hw7 := s7 _ _ hw6
          refine ⟨l, ns, 1, rfl, hS7, hl, by decide, ?_⟩
          walk_at "rs"
          refine ⟨G, _, rfl, SqL.of hm, fun pm hpm => ?_⟩
          rw [map_cut]
          generalize eM : List.take _ (List.drop _ ms) = mm
          have lenM : mm.length ≤ 100 := by
            rw [← eM, List.length_take, List.length_drop]
            omega
          clear eM
          have s8 : Same H7 (upd H7 pm (.lst (mm.map V.int))) := same_new hpm
          have hS8 := s8.seq hS7
          have hw8 := s8 _ _ hw7
          have hc8 := (hc6.same s7).same s8
          have hm8 : (upd H7 pm (.lst (mm.map V.int))) pm = some (.lst (mm.map V.int)) := upd_same
          generalize upd H7 pm (.lst (mm.map V.int)) = H8 at hS8 hw8 hc8 hm8 ⊢
          walk_at "rs"
          refine ⟨l, ns, 1, rfl, hS8, hl, by decide, ?_⟩
          walk_at "rs"
          refine ⟨l, ns, 0, rfl, hS8, hl, by decide, ?_⟩
          walk_at "rs"
          refine ⟨x, D, pm, ws, mm, _, _, rfl, hc8, SqL.of hw8, gw, SqL.of hm8, lenM, k⟩
      · have er : r = some i := hfb.one hfb2
        subst er
        refine ⟨true, TE.exm, fun _ ex hex => ?_, fun z => nomatch z⟩
        walk_at "rs"
        refine ⟨(by show 5 ≤ sizeLine; decide), fun tp htp => ?_⟩
        have hd6 : (upd H5 tp (.tup [V.ref a.C_BadJournal, V.ref a.C_BadLine, V.ref a.C_BadPaper, V.ref a.C_Forged, V.ref a.C_Refused])) d = some (.xd [(("at" : Str), .int i)]) := by
          rw [upd_ne (ne_of_none hd5 htp)]
          exact hd5
        refine ⟨a.C_BadWeights, d, tp, _, _, false, _, rfl, rfl, rfl, TE.xc_BadWeights, upd_same, .cons (.own _) (.cons (.own _) (.cons (.own _) (.cons (.own _) (.cons (.own _) .nil)))), hd6, TE.kt5, ?_⟩
        generalize upd H5 tp (.tup [V.ref a.C_BadJournal, V.ref a.C_BadLine, V.ref a.C_BadPaper, V.ref a.C_Forged, V.ref a.C_Refused]) = H6 at hd6 ⊢
        walk_at "rs"
        refine ⟨a.C_BadWeights, d, .ty "ValueError", .type "ValueError", true, _, rfl, rfl, rfl, TE.xc_BadWeights, .ty _, hd6, TE.kt1, ?_⟩
        walk_at "rs"
        refine ⟨a.C_BadWeights, d, .ref a.C_BadWeights, .ref a.C_BadWeights, true, _, rfl, rfl, rfl, TE.xc_BadWeights, .own _, hd6, TE.kt0, ?_⟩
        walk_at "rs"
        refine ⟨d, _, _, rfl, hd6, (by rfl : List.lookup ("at" : Str) [(("at" : Str), V.int i)] = some (.int i)), ?_⟩
        walk_at "rs"
        refine ⟨d, _, _, rfl, hd6, (by rfl : List.lookup ("at" : Str) [(("at" : Str), V.int i)] = some (.int i)), ?_⟩
        walk_at "rs"
        show Q (V.bl (decide (V.int i = V.int i))) H6
        rw [decide_eq_true rfl]
        exact k _
end

theorem all_mk {l : PySem.W.OpenLaw} {w : World} {K : PySem.W.Frag} {h : Heap} {mg : Str → Option Value} {fa : Addr} (X : K.In h) (G : h.Ns mainGlobals mg) (hfa : mg "law" = some (.ref fa))
    {t_MOST_MEMBERS : Tok} {t_MOST_WEIGHT : Tok} {C_Committee : Addr} {f_law_cell : Addr} {od_law_cell an_law_cell : Option Addr} {sl_law_cell : Array (Option Value)} {oc_law_cell kV_law_cell dc_law_cell pm_law_cell cd_law_cell ct_law_cell : Value} {f_law_is_integer : Addr} {od_law_is_integer an_law_is_integer : Option Addr} {sl_law_is_integer : Array (Option Value)} {oc_law_is_integer kV_law_is_integer dc_law_is_integer pm_law_is_integer cd_law_is_integer ct_law_is_integer : Value} {f_law_row : Addr} {od_law_row an_law_row : Option Addr} {sl_law_row : Array (Option Value)} {oc_law_row kV_law_row dc_law_row pm_law_row cd_law_row ct_law_row : Value} {f_law_weight : Addr} {od_law_weight an_law_weight : Option Addr} {sl_law_weight : Array (Option Value)} {oc_law_weight kV_law_weight dc_law_weight pm_law_weight cd_law_weight ct_law_weight : Value} {f_law_bad : Addr} {od_law_bad an_law_bad : Option Addr} {sl_law_bad : Array (Option Value)} {oc_law_bad kV_law_bad dc_law_bad pm_law_bad cd_law_bad ct_law_bad : Value} {f_first_wrong : Addr} {od_first_wrong an_first_wrong : Option Addr} {sl_first_wrong : Array (Option Value)} {oc_first_wrong kV_first_wrong dc_first_wrong pm_first_wrong cd_first_wrong ct_first_wrong : Value} {f_Committee_init : Addr} {od_Committee_init an_Committee_init : Option Addr} {sl_Committee_init : Array (Option Value)} {oc_Committee_init kV_Committee_init dc_Committee_init pm_Committee_init cd_Committee_init ct_Committee_init : Value} {f_Committee_weight_of : Addr} {od_Committee_weight_of an_Committee_weight_of : Option Addr} {sl_Committee_weight_of : Array (Option Value)} {oc_Committee_weight_of kV_Committee_weight_of dc_Committee_weight_of pm_Committee_weight_of cd_Committee_weight_of ct_Committee_weight_of : Value} {f_Committee_is_quorum : Addr} {od_Committee_is_quorum an_Committee_is_quorum : Option Addr} {sl_Committee_is_quorum : Array (Option Value)} {oc_Committee_is_quorum kV_Committee_is_quorum dc_Committee_is_quorum pm_Committee_is_quorum cd_Committee_is_quorum ct_Committee_is_quorum : Value} {f_Committee_is_third : Addr} {od_Committee_is_third an_Committee_is_third : Option Addr} {sl_Committee_is_third : Array (Option Value)} {oc_Committee_is_third kV_Committee_is_third dc_Committee_is_third pm_Committee_is_third cd_Committee_is_third ct_Committee_is_third : Value} {f_Committee_leader : Addr} {od_Committee_leader an_Committee_leader : Option Addr} {sl_Committee_leader : Array (Option Value)} {oc_Committee_leader kV_Committee_leader dc_Committee_leader pm_Committee_leader cd_Committee_leader ct_Committee_leader : Value} {f_law_right : Addr} {od_law_right an_law_right : Option Addr} {sl_law_right : Array (Option Value)} {oc_law_right kV_law_right dc_law_right pm_law_right cd_law_right ct_law_right : Value} {f_law : Addr} {od_law an_law : Option Addr} {sl_law : Array (Option Value)} {oc_law kV_law dc_law pm_law cd_law ct_law : Value} {C_BadWeights f_BadWeights_init : Addr} {nm_BadWeights q_BadWeights : Str} {N_BadWeights : Addr} {bs_BadWeights bm_BadWeights : List Value} {sn_BadWeights : List Str} {sub_BadWeights : List Value} {ab_BadWeights : Bool} {col_BadWeights : Option Bool} {dd_BadWeights : Option Addr} {k0_BadWeights k1_BadWeights k2_BadWeights k3_BadWeights k5_BadWeights : Option Value} {od_BadWeights_init an_BadWeights_init : Option Addr} {sl_BadWeights_init : Array (Option Value)} {oc_BadWeights_init kV_BadWeights_init dc_BadWeights_init pm_BadWeights_init ct_BadWeights_init : Value} {cda_BadWeights_init cc_BadWeights_init : Addr} {cl_BadWeights_init ccl_BadWeights_init : Value} {cld_BadWeights_init cdd_BadWeights_init : Option Addr} {csl_BadWeights_init ccs_BadWeights_init : Array (Option Value)} {vs_BadWeights_init : Array Value} {file_BadWeights_init : Str} {tf_BadWeights_init : Tok} {C_TribunalError : Addr} {C_BadJournal : Addr} {C_BadLine : Addr} {C_BadPaper : Addr} {C_Forged : Addr} {C_Refused : Addr}
    (c_MOST_MEMBERS : PySem.W.nsIn K mainGlobals "MOST_MEMBERS" = some (some (.int 16 t_MOST_MEMBERS)))
    (c_MOST_WEIGHT : PySem.W.nsIn K mainGlobals "MOST_WEIGHT" = some (some (.int 1000000000000 t_MOST_WEIGHT)))
    (n_len : PySem.W.nsIn K mainGlobals "len" = some none)
    (n_range : PySem.W.nsIn K mainGlobals "range" = some none)
    (n_int : PySem.W.nsIn K mainGlobals "int" = some none)
    (n_bool : PySem.W.nsIn K mainGlobals "bool" = some none)
    (n_isinstance : PySem.W.nsIn K mainGlobals "isinstance" = some none)
    (n_sum : PySem.W.nsIn K mainGlobals "sum" = some none)
    (n_enumerate : PySem.W.nsIn K mainGlobals "enumerate" = some none)
    (n_set : PySem.W.nsIn K mainGlobals "set" = some none)
    (n_tuple : PySem.W.nsIn K mainGlobals "tuple" = some none)
    (n_list : PySem.W.nsIn K mainGlobals "list" = some none)
    (n_super : PySem.W.nsIn K mainGlobals "super" = some none)
    (n_ValueError : PySem.W.nsIn K mainGlobals "ValueError" = some none)
    (g_Committee : PySem.W.nsIn K mainGlobals "Committee" = some (some (.ref C_Committee)))
    (a_law_cell : PySem.W.nsIn K mainGlobals "_law_cell" = some (some (.ref f_law_cell)))
    (l_law_cell : K.lookup f_law_cell = some ⟨oc_law_cell, od_law_cell, .func (PySem.W.fnOf "_law_cell" "_law_cell" (defArgs s_law_cell) (defBody s_law_cell) (defScope s_law_cell) .none kV_law_cell dc_law_cell pm_law_cell an_law_cell cd_law_cell ct_law_cell), sl_law_cell⟩)
    (q_law_cell : PySem.W.codeIn K cd_law_cell "_law_cell" = true)
    (k_law_cell : PySem.W.keepIn K (.ref f_law_cell) = true)
    (a_law_is_integer : PySem.W.nsIn K mainGlobals "_law_is_integer" = some (some (.ref f_law_is_integer)))
    (l_law_is_integer : K.lookup f_law_is_integer = some ⟨oc_law_is_integer, od_law_is_integer, .func (PySem.W.fnOf "_law_is_integer" "_law_is_integer" (defArgs s_law_is_integer) (defBody s_law_is_integer) (defScope s_law_is_integer) .none kV_law_is_integer dc_law_is_integer pm_law_is_integer an_law_is_integer cd_law_is_integer ct_law_is_integer), sl_law_is_integer⟩)
    (q_law_is_integer : PySem.W.codeIn K cd_law_is_integer "_law_is_integer" = true)
    (k_law_is_integer : PySem.W.keepIn K (.ref f_law_is_integer) = true)
    (a_law_row : PySem.W.nsIn K mainGlobals "_law_row" = some (some (.ref f_law_row)))
    (l_law_row : K.lookup f_law_row = some ⟨oc_law_row, od_law_row, .func (PySem.W.fnOf "_law_row" "_law_row" (defArgs s_law_row) (defBody s_law_row) (defScope s_law_row) .none kV_law_row dc_law_row pm_law_row an_law_row cd_law_row ct_law_row), sl_law_row⟩)
    (q_law_row : PySem.W.codeIn K cd_law_row "_law_row" = true)
    (k_law_row : PySem.W.keepIn K (.ref f_law_row) = true)
    (a_law_weight : PySem.W.nsIn K mainGlobals "_law_weight" = some (some (.ref f_law_weight)))
    (l_law_weight : K.lookup f_law_weight = some ⟨oc_law_weight, od_law_weight, .func (PySem.W.fnOf "_law_weight" "_law_weight" (defArgs s_law_weight) (defBody s_law_weight) (defScope s_law_weight) .none kV_law_weight dc_law_weight pm_law_weight an_law_weight cd_law_weight ct_law_weight), sl_law_weight⟩)
    (q_law_weight : PySem.W.codeIn K cd_law_weight "_law_weight" = true)
    (k_law_weight : PySem.W.keepIn K (.ref f_law_weight) = true)
    (a_law_bad : PySem.W.nsIn K mainGlobals "_law_bad" = some (some (.ref f_law_bad)))
    (l_law_bad : K.lookup f_law_bad = some ⟨oc_law_bad, od_law_bad, .func (PySem.W.fnOf "_law_bad" "_law_bad" (defArgs s_law_bad) (defBody s_law_bad) (defScope s_law_bad) .none kV_law_bad dc_law_bad pm_law_bad an_law_bad cd_law_bad ct_law_bad), sl_law_bad⟩)
    (q_law_bad : PySem.W.codeIn K cd_law_bad "_law_bad" = true)
    (k_law_bad : PySem.W.keepIn K (.ref f_law_bad) = true)
    (a_first_wrong : PySem.W.nsIn K mainGlobals "_first_wrong" = some (some (.ref f_first_wrong)))
    (l_first_wrong : K.lookup f_first_wrong = some ⟨oc_first_wrong, od_first_wrong, .func (PySem.W.fnOf "_first_wrong" "_first_wrong" (defArgs s_first_wrong) (defBody s_first_wrong) (defScope s_first_wrong) .none kV_first_wrong dc_first_wrong pm_first_wrong an_first_wrong cd_first_wrong ct_first_wrong), sl_first_wrong⟩)
    (q_first_wrong : PySem.W.codeIn K cd_first_wrong "_first_wrong" = true)
    (k_first_wrong : PySem.W.keepIn K (.ref f_first_wrong) = true)
    (a_Committee_init : PySem.W.findIn K (.ref C_Committee) "__init__" = some (some (.ref f_Committee_init)))
    (i_Committee_init : PySem.W.isFn K (.ref f_Committee_init) = true)
    (l_Committee_init : K.lookup f_Committee_init = some ⟨oc_Committee_init, od_Committee_init, .func (PySem.W.fnOf "__init__" "Committee.__init__" (defArgs s_Committee_init) (defBody s_Committee_init) (defScope s_Committee_init) .none kV_Committee_init dc_Committee_init pm_Committee_init an_Committee_init cd_Committee_init ct_Committee_init), sl_Committee_init⟩)
    (q_Committee_init : PySem.W.codeIn K cd_Committee_init "Committee.__init__" = true)
    (k_Committee_init : PySem.W.keepIn K (.ref f_Committee_init) = true)
    (a_Committee_weight_of : PySem.W.findIn K (.ref C_Committee) "weight_of" = some (some (.ref f_Committee_weight_of)))
    (i_Committee_weight_of : PySem.W.isFn K (.ref f_Committee_weight_of) = true)
    (l_Committee_weight_of : K.lookup f_Committee_weight_of = some ⟨oc_Committee_weight_of, od_Committee_weight_of, .func (PySem.W.fnOf "weight_of" "Committee.weight_of" (defArgs s_Committee_weight_of) (defBody s_Committee_weight_of) (defScope s_Committee_weight_of) .none kV_Committee_weight_of dc_Committee_weight_of pm_Committee_weight_of an_Committee_weight_of cd_Committee_weight_of ct_Committee_weight_of), sl_Committee_weight_of⟩)
    (q_Committee_weight_of : PySem.W.codeIn K cd_Committee_weight_of "Committee.weight_of" = true)
    (k_Committee_weight_of : PySem.W.keepIn K (.ref f_Committee_weight_of) = true)
    (a_Committee_is_quorum : PySem.W.findIn K (.ref C_Committee) "is_quorum" = some (some (.ref f_Committee_is_quorum)))
    (i_Committee_is_quorum : PySem.W.isFn K (.ref f_Committee_is_quorum) = true)
    (l_Committee_is_quorum : K.lookup f_Committee_is_quorum = some ⟨oc_Committee_is_quorum, od_Committee_is_quorum, .func (PySem.W.fnOf "is_quorum" "Committee.is_quorum" (defArgs s_Committee_is_quorum) (defBody s_Committee_is_quorum) (defScope s_Committee_is_quorum) .none kV_Committee_is_quorum dc_Committee_is_quorum pm_Committee_is_quorum an_Committee_is_quorum cd_Committee_is_quorum ct_Committee_is_quorum), sl_Committee_is_quorum⟩)
    (q_Committee_is_quorum : PySem.W.codeIn K cd_Committee_is_quorum "Committee.is_quorum" = true)
    (k_Committee_is_quorum : PySem.W.keepIn K (.ref f_Committee_is_quorum) = true)
    (a_Committee_is_third : PySem.W.findIn K (.ref C_Committee) "is_third" = some (some (.ref f_Committee_is_third)))
    (i_Committee_is_third : PySem.W.isFn K (.ref f_Committee_is_third) = true)
    (l_Committee_is_third : K.lookup f_Committee_is_third = some ⟨oc_Committee_is_third, od_Committee_is_third, .func (PySem.W.fnOf "is_third" "Committee.is_third" (defArgs s_Committee_is_third) (defBody s_Committee_is_third) (defScope s_Committee_is_third) .none kV_Committee_is_third dc_Committee_is_third pm_Committee_is_third an_Committee_is_third cd_Committee_is_third ct_Committee_is_third), sl_Committee_is_third⟩)
    (q_Committee_is_third : PySem.W.codeIn K cd_Committee_is_third "Committee.is_third" = true)
    (k_Committee_is_third : PySem.W.keepIn K (.ref f_Committee_is_third) = true)
    (a_Committee_leader : PySem.W.findIn K (.ref C_Committee) "leader" = some (some (.ref f_Committee_leader)))
    (i_Committee_leader : PySem.W.isFn K (.ref f_Committee_leader) = true)
    (l_Committee_leader : K.lookup f_Committee_leader = some ⟨oc_Committee_leader, od_Committee_leader, .func (PySem.W.fnOf "leader" "Committee.leader" (defArgs s_Committee_leader) (defBody s_Committee_leader) (defScope s_Committee_leader) .none kV_Committee_leader dc_Committee_leader pm_Committee_leader an_Committee_leader cd_Committee_leader ct_Committee_leader), sl_Committee_leader⟩)
    (q_Committee_leader : PySem.W.codeIn K cd_Committee_leader "Committee.leader" = true)
    (k_Committee_leader : PySem.W.keepIn K (.ref f_Committee_leader) = true)
    (a_law_right : PySem.W.nsIn K mainGlobals "_law_right" = some (some (.ref f_law_right)))
    (l_law_right : K.lookup f_law_right = some ⟨oc_law_right, od_law_right, .func (PySem.W.fnOf "_law_right" "_law_right" (defArgs s_law_right) (defBody s_law_right) (defScope s_law_right) .none kV_law_right dc_law_right pm_law_right an_law_right cd_law_right ct_law_right), sl_law_right⟩)
    (q_law_right : PySem.W.codeIn K cd_law_right "_law_right" = true)
    (k_law_right : PySem.W.keepIn K (.ref f_law_right) = true)
    (a_law : PySem.W.nsIn K mainGlobals "law" = some (some (.ref f_law)))
    (l_law : K.lookup f_law = some ⟨oc_law, od_law, .func (PySem.W.fnOf "law" "law" (defArgs s_law) (defBody s_law) (defScope s_law) .none kV_law dc_law pm_law an_law cd_law ct_law), sl_law⟩)
    (q_law : PySem.W.codeIn K cd_law "law" = true)
    (k_law : PySem.W.keepIn K (.ref f_law) = true)
    (pg_Committee : PySem.W.plainGet K C_Committee Str.empty = true)
    (hd_Committee : PySem.W.hasDictIn K C_Committee = true)
    (po_Committee : PySem.W.plainOver K C_Committee = true)
    (sa_Committee : PySem.W.findIn K (.ref C_Committee) "__setattr__" = some (some (.builtin "object.__setattr__")))
    (mk_Committee : PySem.W.makesIn K C_Committee = true)
    (kc_Committee : PySem.W.keepIn K (.ref C_Committee) = true)
    (no_Committee_weights : PySem.W.findIn K (.ref C_Committee) "weights" = some none)
    (no_Committee_size : PySem.W.findIn K (.ref C_Committee) "size" = some none)
    (no_Committee_total : PySem.W.findIn K (.ref C_Committee) "total" = some none)
    (g_BadWeights : PySem.W.nsIn K mainGlobals "BadWeights" = some (some (.ref C_BadWeights)))
    (lc_BadWeights : K.lookup C_BadWeights = some (excClassObj nm_BadWeights q_BadWeights C_BadWeights N_BadWeights bs_BadWeights bm_BadWeights true sn_BadWeights sub_BadWeights ab_BadWeights col_BadWeights dd_BadWeights k0_BadWeights k1_BadWeights k2_BadWeights k3_BadWeights k5_BadWeights "ValueError.__new__"))
    (rb_BadWeights : PySem.HandSPX.refsVE bm_BadWeights = true)
    (sa_BadWeights : PySem.W.findIn K (.ref C_BadWeights) "__setattr__" = some (some (.builtin "object.__setattr__")))
    (eb_BadWeights : PySem.W.subIn K (.ref C_BadWeights) (.type "BaseException") = some true)
    (ty_BadWeights : PySem.W.typeIn K (.ref C_BadWeights) = some (.type "type"))
    (kc_BadWeights : PySem.W.keepIn K (.ref C_BadWeights) = true)
    (a_BadWeights_init : PySem.W.findIn K (.ref C_BadWeights) "__init__" = some (some (.ref f_BadWeights_init)))
    (tI_BadWeights_init : PySem.W.typeIn K (.ref f_BadWeights_init) = some (.type "function"))
    (l_BadWeights_init : K.lookup f_BadWeights_init = some ⟨oc_BadWeights_init, od_BadWeights_init, .func (PySem.W.ksFn "__init__" "BadWeights.__init__" (defArgs s_BadWeights_init) (defBody s_BadWeights_init) (defScope s_BadWeights_init) .none kV_BadWeights_init dc_BadWeights_init pm_BadWeights_init an_BadWeights_init (.ref cda_BadWeights_init) ct_BadWeights_init cc_BadWeights_init), sl_BadWeights_init⟩)
    (q_BadWeights_init : PySem.W.codeIn K (.ref cda_BadWeights_init) "BadWeights.__init__" = true)
    (ce_BadWeights_init : K.lookup cc_BadWeights_init = some ⟨cl_BadWeights_init, cld_BadWeights_init, .cell (some (.ref C_BadWeights)), csl_BadWeights_init⟩)
    (co_BadWeights_init : K.lookup cda_BadWeights_init = some ⟨ccl_BadWeights_init, cdd_BadWeights_init, .fields vs_BadWeights_init, ccs_BadWeights_init⟩)
    (v2_BadWeights_init : vs_BadWeights_init[2]? = some (.str file_BadWeights_init tf_BadWeights_init))
    (fi_BadWeights_init : ((l.prog.main.file : Str) == file_BadWeights_init) = true)
    (su_BadWeights : PySem.W.ks_superIn K C_BadWeights C_BadWeights "__init__" = some (some (.builtin "ValueError.__init__")))
    (op_BadWeights : PySem.W.nsIn K cStatics "thirdparty.any" = some none)
    (sv_BadWeights : PySem.W.subIn K (.ref C_BadWeights) (.type "ValueError") = some true)
    (mc_BadWeights : PySem.W.mroIn K C_BadWeights (.ref C_BadWeights) = some true)
    (nf_BadWeights : PySem.W.findIn K (.ref C_BadWeights) "at" = some none)
    (ts_BadWeights : (l.prog.main.scope.names.lookup ("super" : Str)).isSome = false)
    (xga_BadWeights : PySem.W.findIn K (.ref C_BadWeights) "__getattribute__" = some (some (.builtin "BaseException.__getattribute__")))
    (xgt_BadWeights : PySem.W.findIn K (.ref C_BadWeights) "__getattr__" = some none)
    (xhd_BadWeights : PySem.W.hasDictIn K C_BadWeights = true)
    (xcc_BadWeights : PySem.W.findIn K (.ref C_BadWeights) "__class__" = some (some (.builtin "object.__class__")))
    (xsp_BadWeights : PySem.W.specialIn K (.builtin "object.__class__") "__get__" = some (some (.builtin "getset_descriptor.__get__")))
    (xtk_BadWeights : PySem.W.takesIn K (.builtin "object.__class__") = some true)
    (xmo_BadWeights : PySem.W.mroIn K C_BadWeights (.type "object") = some true)
    (g_TribunalError : PySem.W.nsIn K mainGlobals "TribunalError" = some (some (.ref C_TribunalError)))
    (g_BadJournal : PySem.W.nsIn K mainGlobals "BadJournal" = some (some (.ref C_BadJournal)))
    (g_BadLine : PySem.W.nsIn K mainGlobals "BadLine" = some (some (.ref C_BadLine)))
    (g_BadPaper : PySem.W.nsIn K mainGlobals "BadPaper" = some (some (.ref C_BadPaper)))
    (g_Forged : PySem.W.nsIn K mainGlobals "Forged" = some (some (.ref C_Forged)))
    (g_Refused : PySem.W.nsIn K mainGlobals "Refused" = some (some (.ref C_Refused)))
    (te1 : PySem.W.subIn K (.ref C_TribunalError) (.type "BaseException") = some true)
    (te2 : PySem.W.hasDictIn K C_TribunalError = true)
    (te3 : PySem.W.typeIn K (.ref C_TribunalError) = some (.type "type"))
    (te4 : PySem.W.subIn K (.ref C_BadWeights) (.ref C_TribunalError) = some true)
    (kt5 : PySem.W.kitAny K (.ref C_BadWeights) [.ref C_BadJournal, .ref C_BadLine, .ref C_BadPaper, .ref C_Forged, .ref C_Refused] = some false)
    (kt0 : PySem.W.kitOne K (.ref C_BadWeights) (.ref C_BadWeights) = some true)
    (kt1 : PySem.W.kitOne K (.ref C_BadWeights) (.type "ValueError") = some true) :
    ∃ fd : FuncData, (∀ (s : Shared) (v : Value), BindsTo s fd ⟨[v], []⟩ [("script", v)]) ∧ ∀ base : Heap, K.In base → base.Ns mainGlobals mg → FnOk l.prog w K mg base CX0 6 fa fd ["script"] (spLaw K) := by
  have e := hfa.symm.trans (PySem.W.mg_of X G a_law)
  cases e
  have T : Txt K mg ⟨C_Committee, f_law_cell, f_law_is_integer, f_law_row, f_law_weight, f_law_bad, f_first_wrong, f_Committee_init, f_Committee_weight_of, f_Committee_is_quorum, f_Committee_is_third, f_Committee_leader, f_law_right, C_BadWeights, f_BadWeights_init, C_TribunalError, C_BadJournal, C_BadLine, C_BadPaper, C_Forged, C_Refused⟩ := {
    n_len := mg_no X G n_len
    n_range := mg_no X G n_range
    n_int := mg_no X G n_int
    n_bool := mg_no X G n_bool
    n_isinstance := mg_no X G n_isinstance
    n_sum := mg_no X G n_sum
    n_enumerate := mg_no X G n_enumerate
    n_set := mg_no X G n_set
    n_tuple := mg_no X G n_tuple
    n_list := mg_no X G n_list
    n_super := mg_no X G n_super
    n_ValueError := mg_no X G n_ValueError
    c_MOST_MEMBERS := ⟨_, PySem.W.mg_of X G c_MOST_MEMBERS⟩
    c_MOST_WEIGHT := ⟨_, PySem.W.mg_of X G c_MOST_WEIGHT⟩
    g_Committee := PySem.W.mg_of X G g_Committee
    cl_Committee := ⟨pg_Committee, hd_Committee, po_Committee, sa_Committee⟩
    kc_Committee := kc_Committee
    mk_Committee := mk_Committee
    a_Committee_weights := no_Committee_weights
    a_Committee_size := no_Committee_size
    a_Committee_total := no_Committee_total
    d_law_cell := ⟨def_mk l_law_cell q_law_cell k_law_cell (fun _ _ _ _ _ _ us hl => match us, hl with | [_, _], _ => rfl), PySem.W.mg_of X G a_law_cell, k_law_cell⟩
    d_law_is_integer := ⟨def_mk l_law_is_integer q_law_is_integer k_law_is_integer (fun _ _ _ _ _ _ us hl => match us, hl with | [_], _ => rfl), PySem.W.mg_of X G a_law_is_integer, k_law_is_integer⟩
    d_law_row := ⟨def_mk l_law_row q_law_row k_law_row (fun _ _ _ _ _ _ us hl => match us, hl with | [_, _, _], _ => rfl), PySem.W.mg_of X G a_law_row, k_law_row⟩
    d_law_weight := ⟨def_mk l_law_weight q_law_weight k_law_weight (fun _ _ _ _ _ _ us hl => match us, hl with | [_], _ => rfl), PySem.W.mg_of X G a_law_weight, k_law_weight⟩
    d_law_bad := ⟨def_mk l_law_bad q_law_bad k_law_bad (fun _ _ _ _ _ _ us hl => match us, hl with | [_], _ => rfl), PySem.W.mg_of X G a_law_bad, k_law_bad⟩
    d_first_wrong := ⟨def_mk l_first_wrong q_first_wrong k_first_wrong (fun _ _ _ _ _ _ us hl => match us, hl with | [_], _ => rfl), PySem.W.mg_of X G a_first_wrong, k_first_wrong⟩
    d_Committee_init := ⟨def_mk l_Committee_init q_Committee_init k_Committee_init (fun _ _ _ _ _ _ us hl => match us, hl with | [_, _], _ => rfl), a_Committee_init, i_Committee_init, k_Committee_init⟩
    d_Committee_weight_of := ⟨def_mk l_Committee_weight_of q_Committee_weight_of k_Committee_weight_of (fun _ _ _ _ _ _ us hl => match us, hl with | [_, _], _ => rfl), a_Committee_weight_of, i_Committee_weight_of, k_Committee_weight_of⟩
    d_Committee_is_quorum := ⟨def_mk l_Committee_is_quorum q_Committee_is_quorum k_Committee_is_quorum (fun _ _ _ _ _ _ us hl => match us, hl with | [_, _], _ => rfl), a_Committee_is_quorum, i_Committee_is_quorum, k_Committee_is_quorum⟩
    d_Committee_is_third := ⟨def_mk l_Committee_is_third q_Committee_is_third k_Committee_is_third (fun _ _ _ _ _ _ us hl => match us, hl with | [_, _], _ => rfl), a_Committee_is_third, i_Committee_is_third, k_Committee_is_third⟩
    d_Committee_leader := ⟨def_mk l_Committee_leader q_Committee_leader k_Committee_leader (fun _ _ _ _ _ _ us hl => match us, hl with | [_, _, _], _ => rfl), a_Committee_leader, i_Committee_leader, k_Committee_leader⟩
    d_law_right := ⟨def_mk l_law_right q_law_right k_law_right (fun _ _ _ _ _ _ us hl => match us, hl with | [_, _, _, _, _], _ => rfl), PySem.W.mg_of X G a_law_right, k_law_right⟩ }
  have TE : TxtE l.prog K mg ⟨C_Committee, f_law_cell, f_law_is_integer, f_law_row, f_law_weight, f_law_bad, f_first_wrong, f_Committee_init, f_Committee_weight_of, f_Committee_is_quorum, f_Committee_is_third, f_Committee_leader, f_law_right, C_BadWeights, f_BadWeights_init, C_TribunalError, C_BadJournal, C_BadLine, C_BadPaper, C_Forged, C_Refused⟩ := {
    g_BadWeights := PySem.W.mg_of X G g_BadWeights
    sup_BadWeights := ⟨_, { fn := ⟨_, _, _, _, _, _, _, _, _, _, _, _, _, _, _, _, _, _, _, rfl, l_BadWeights_init, q_BadWeights_init, ce_BadWeights_init, co_BadWeights_init, v2_BadWeights_init, fi_BadWeights_init⟩, oex := ⟨⟨_, _, _, _, _, _, _, _, _, _, _, _, _, _, _, lc_BadWeights, rb_BadWeights⟩, sa_BadWeights, eb_BadWeights, ty_BadWeights, kc_BadWeights⟩, sup := su_BadWeights, opq := op_BadWeights, subV := sv_BadWeights, mroC := mc_BadWeights, nof := nf_BadWeights, topS := ts_BadWeights }, .all fun us hl => match us, hl with | [_, _], _ => rfl⟩
    iC_BadWeights := a_BadWeights_init
    tI_BadWeights := tI_BadWeights_init
    oex_BadWeights := ⟨⟨_, _, _, _, _, _, _, _, _, _, _, _, _, _, _, lc_BadWeights, rb_BadWeights⟩, sa_BadWeights, eb_BadWeights, ty_BadWeights, kc_BadWeights⟩
    xc_BadWeights := ⟨by unfold PySem.W.clsIn; rw [lc_BadWeights]; rfl, xga_BadWeights, xgt_BadWeights, eb_BadWeights, xhd_BadWeights, xcc_BadWeights, xsp_BadWeights, xtk_BadWeights, xmo_BadWeights⟩
    g_TribunalError := PySem.W.mg_of X G g_TribunalError
    g_BadJournal := PySem.W.mg_of X G g_BadJournal
    g_BadLine := PySem.W.mg_of X G g_BadLine
    g_BadPaper := PySem.W.mg_of X G g_BadPaper
    g_Forged := PySem.W.mg_of X G g_Forged
    g_Refused := PySem.W.mg_of X G g_Refused
    exm := PySem.W.exm_ref te1 te2 te3 te4
    kt5 := kt5
    kt0 := kt0
    kt1 := kt1 }
  have F5 := fun_mk (st := s_law) l_law q_law k_law
  exact ⟨PySem.W.fnOf "law" "law" (defArgs s_law) (defBody s_law) (defScope s_law) .none kV_law dc_law pm_law an_law cd_law ct_law, fun s v => .of_eq rfl, fun base _ _ => ok_law F5 TE T⟩
theorem walk {l : PySem.W.OpenLaw} {q : Program} {loose : List Str} {XP : (Str → Option Value) → Heap → Prop} {YP : World → Heap → Prop} {d : DefRec} {K : Params → PySem.W.Frag} (hn : l.most = some 63) (hdf : d.params.defaults = [])
    (hY : ∀ (w : World) (h : Heap), YP w h → (K w.params).In h)
    (F : ∀ (w : World) (mg : Str → Option Value) (fa : Addr) (h : Heap), (K w.params).In h → h.Ns mainGlobals mg → mg d.name = some (.ref fa) →
      ∃ fd : FuncData, (∀ (s : Shared) (u : Value), BindsTo s fd ⟨[u], []⟩ [("script", u)]) ∧ ∀ base : Heap, (K w.params).In base → base.Ns mainGlobals mg → FnOk l.prog w (K w.params) mg base CX0 6 fa fd ["script"] (spLaw (K w.params))) :
    PySem.W.WalkO q loose XP YP l.row.toRowW d [] (fun f vs => PySem.call f vs) :=
  L2.walk_of (n := 63) (k := 6) (x := "script") (CX := fun _ => CX0) (sp := fun w => spLaw (K w.params)) hn (by decide) hdf ⟨rfl, by decide, by decide⟩ hY F (fun _ _ a ns hl _ hS => ⟨a, ns, rfl, hS, hl, fun _ => rfl⟩) fun _ _ _ _ _ z => z
end Toy
open PySem PySem.W PyProof.Rows
set_option maxRecDepth 100000 in
set_option maxHeartbeats 0 in
theorem PySem.Challenge.cw_tribunal_k00_weights_and_quorums_holds : PySem.Challenge.rw_tribunal_k00_weights_and_quorums.Holds := by
  w_on; o_law; k_head; (case hw => w_witness2)
  k_fill
  refine Toy.walk (l := PySem.Challenge.rw_tribunal_k00_weights_and_quorums) rfl rfl (fun w h Y => PySem.W.kIn_of Y) ?F
  case F =>
    intro w mg fa h KX G hmg
    refine' Toy.all_mk KX G hmg ?c_MOST_MEMBERS ?c_MOST_WEIGHT ?n_len ?n_range ?n_int ?n_bool ?n_isinstance ?n_sum ?n_enumerate ?n_set ?n_tuple ?n_list ?n_super ?n_ValueError ?g_Committee ?a_law_cell ?l_law_cell ?q_law_cell ?k_law_cell ?a_law_is_integer ?l_law_is_integer ?q_law_is_integer ?k_law_is_integer ?a_law_row ?l_law_row ?q_law_row ?k_law_row ?a_law_weight ?l_law_weight ?q_law_weight ?k_law_weight ?a_law_bad ?l_law_bad ?q_law_bad ?k_law_bad ?a_first_wrong ?l_first_wrong ?q_first_wrong ?k_first_wrong ?a_Committee_init ?i_Committee_init ?l_Committee_init ?q_Committee_init ?k_Committee_init ?a_Committee_weight_of ?i_Committee_weight_of ?l_Committee_weight_of ?q_Committee_weight_of ?k_Committee_weight_of ?a_Committee_is_quorum ?i_Committee_is_quorum ?l_Committee_is_quorum ?q_Committee_is_quorum ?k_Committee_is_quorum ?a_Committee_is_third ?i_Committee_is_third ?l_Committee_is_third ?q_Committee_is_third ?k_Committee_is_third ?a_Committee_leader ?i_Committee_leader ?l_Committee_leader ?q_Committee_leader ?k_Committee_leader ?a_law_right ?l_law_right ?q_law_right ?k_law_right ?a_law ?l_law ?q_law ?k_law ?pg_Committee ?hd_Committee ?po_Committee ?sa_Committee ?mk_Committee ?kc_Committee ?no_Committee_weights ?no_Committee_size ?no_Committee_total ?g_BadWeights ?lc_BadWeights ?rb_BadWeights ?sa_BadWeights ?eb_BadWeights ?ty_BadWeights ?kc_BadWeights ?a_BadWeights_init ?tI_BadWeights_init ?l_BadWeights_init ?q_BadWeights_init ?ce_BadWeights_init ?co_BadWeights_init ?v2_BadWeights_init ?fi_BadWeights_init ?su_BadWeights ?op_BadWeights ?sv_BadWeights ?mc_BadWeights ?nf_BadWeights ?ts_BadWeights ?xga_BadWeights ?xgt_BadWeights ?xhd_BadWeights ?xcc_BadWeights ?xsp_BadWeights ?xtk_BadWeights ?xmo_BadWeights ?g_TribunalError ?g_BadJournal ?g_BadLine ?g_BadPaper ?g_Forged ?g_Refused ?te1 ?te2 ?te3 ?te4 ?kt5 ?kt0 ?kt1
    (case c_MOST_MEMBERS => k_is)
    (case c_MOST_WEIGHT => k_is)
    (case n_len => k_is)
    (case n_range => k_is)
    (case n_int => k_is)
    (case n_bool => k_is)
    (case n_isinstance => k_is)
    (case n_sum => k_is)
    (case n_enumerate => k_is)
    (case n_set => k_is)
    (case n_tuple => k_is)
    (case n_list => k_is)
    (case n_super => k_is)
    (case n_ValueError => k_is)
    (case g_Committee => k_is)
    (case a_law_cell => k_is)
    (case l_law_cell => k_is)
    (case q_law_cell => k_is)
    (case k_law_cell => k_is)
    (case a_law_is_integer => k_is)
    (case l_law_is_integer => k_is)
    (case q_law_is_integer => k_is)
    (case k_law_is_integer => k_is)
    (case a_law_row => k_is)
    (case l_law_row => k_is)
    (case q_law_row => k_is)
    (case k_law_row => k_is)
    (case a_law_weight => k_is)
    (case l_law_weight => k_is)
    (case q_law_weight => k_is)
    (case k_law_weight => k_is)
    (case a_law_bad => k_is)
    (case l_law_bad => k_is)
    (case q_law_bad => k_is)
    (case k_law_bad => k_is)
    (case a_first_wrong => k_is)
    (case l_first_wrong => k_is)
    (case q_first_wrong => k_is)
    (case k_first_wrong => k_is)
    (case a_Committee_init => k_is)
    (case i_Committee_init => k_is)
    (case l_Committee_init => k_is)
    (case q_Committee_init => k_is)
    (case k_Committee_init => k_is)
    (case a_Committee_weight_of => k_is)
    (case i_Committee_weight_of => k_is)
    (case l_Committee_weight_of => k_is)
    (case q_Committee_weight_of => k_is)
    (case k_Committee_weight_of => k_is)
    (case a_Committee_is_quorum => k_is)
    (case i_Committee_is_quorum => k_is)
    (case l_Committee_is_quorum => k_is)
    (case q_Committee_is_quorum => k_is)
    (case k_Committee_is_quorum => k_is)
    (case a_Committee_is_third => k_is)
    (case i_Committee_is_third => k_is)
    (case l_Committee_is_third => k_is)
    (case q_Committee_is_third => k_is)
    (case k_Committee_is_third => k_is)
    (case a_Committee_leader => k_is)
    (case i_Committee_leader => k_is)
    (case l_Committee_leader => k_is)
    (case q_Committee_leader => k_is)
    (case k_Committee_leader => k_is)
    (case a_law_right => k_is)
    (case l_law_right => k_is)
    (case q_law_right => k_is)
    (case k_law_right => k_is)
    (case a_law => k_is)
    (case l_law => k_is)
    (case q_law => k_is)
    (case k_law => k_is)
    (case pg_Committee => k_is)
    (case hd_Committee => k_is)
    (case po_Committee => k_is)
    (case sa_Committee => k_is)
    (case mk_Committee => k_is)
    (case kc_Committee => k_is)
    (case no_Committee_weights => k_is)
    (case no_Committee_size => k_is)
    (case no_Committee_total => k_is)
    (case g_BadWeights => k_is)
    (case lc_BadWeights => k_is)
    (case rb_BadWeights => decide +kernel)
    (case sa_BadWeights => k_is)
    (case eb_BadWeights => k_is)
    (case ty_BadWeights => k_is)
    (case kc_BadWeights => k_is)
    (case a_BadWeights_init => k_is)
    (case tI_BadWeights_init => k_is)
    (case l_BadWeights_init => k_is)
    (case q_BadWeights_init => k_is)
    (case ce_BadWeights_init => k_is)
    (case co_BadWeights_init => k_is)
    (case v2_BadWeights_init => rfl)
    (case fi_BadWeights_init => decide +kernel)
    (case su_BadWeights => ks_is)
    (case op_BadWeights => k_is)
    (case sv_BadWeights => k_is)
    (case mc_BadWeights => k_is)
    (case nf_BadWeights => k_is)
    (case ts_BadWeights => decide +kernel)
    (case xga_BadWeights => k_is)
    (case xgt_BadWeights => k_is)
    (case xhd_BadWeights => k_is)
    (case xcc_BadWeights => k_is)
    (case xsp_BadWeights => k_is)
    (case xtk_BadWeights => k_is)
    (case xmo_BadWeights => k_is)
    (case g_TribunalError => k_is)
    (case g_BadJournal => k_is)
    (case g_BadLine => k_is)
    (case g_BadPaper => k_is)
    (case g_Forged => k_is)
    (case g_Refused => k_is)
    (case te1 => k_is)
    (case te2 => k_is)
    (case te3 => k_is)
    (case te4 => k_is)
    (case kt5 => kit_is)
    (case kt0 => kit_is)
    (case kt1 => kit_is)
