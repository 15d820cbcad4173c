/-
  strings.SplitSeq AT ONE COMMA: its iterator's contract ('Sq.Seq'): the pieces 'spl' parts a text into, one a round.
-/
import Derived.RangeFuncNested
import Derived.RangeFuncBound
import Derived.RangeFuncCalls
import Derived.Shelf.Abstract
import Derived.Shelf.RegionOpen
import Derived.WalkKit
import Derived.OwnWalkIn
import Derived.TacticsInMore
import Derived.LoopNIn
import Derived.LoopIn
import Derived.Maps.AppendAt
import Derived.RangeFuncBox
import Derived.Lib.Hide
import Derived.Lib.IndexLaws
import Derived.IntWalk
import Derived.Test.YtgpkkdimafmehaaDoorShelf
import Derived.Test.YtgpkkdimafmehaaDoorSeqT
import Derived.Test.YtgpkkdimafmehaaDoorCondPlain
set_option linter.unusedVariables false
namespace Go.Proofs.YtgpkkdimafmehaaDoor.Co
open Go.Lib Go.RowKit Go.Shelf Sq
attribute [local go_sem] Oper.semAt_some

theorem byte_at (l : List UInt8) (c : UInt8) : (indexByte l c = -1 ∧ c ∉ l) ∨ ∃ k : Nat, indexByte l c = k ∧ k < l.length ∧ c ∉ l.take k ∧ l = l.take k ++ c :: l.drop (k + 1) := by
  have hge := indexByte_ge l c
  by_cases h : indexByte l c = -1
  · left
    refine ⟨h, fun hm => ?_⟩
    obtain ⟨k, hk⟩ := List.mem_iff_getElem?.1 hm
    exact indexByte_none h k hk
  · right
    obtain ⟨k, hk⟩ : ∃ k : Nat, indexByte l c = k := ⟨(indexByte l c).toNat, by omega⟩
    obtain ⟨h1, h2⟩ := indexByte_some hk
    obtain ⟨hlt, hv⟩ := List.getElem?_eq_some_iff.1 h1
    refine ⟨k, hk, hlt, fun hm => ?_, ?_⟩
    · obtain ⟨j, hj⟩ := List.mem_iff_getElem?.1 hm
      rw [List.getElem?_take] at hj
      split at hj
      · exact h2 j ‹_› hj
      · cases hj
    · conv => lhs; rw [← List.take_append_drop k l, List.drop_eq_getElem_cons hlt, hv]

/-- the iterator's step: its own box is stored into -/
def TB (B : Nat) (X Y : World) : Prop := ∃ v, Y = X.setCell ⟨B, 0, none⟩ v
/-- the three boxes lie on -/
def KB (B : Nat) (X Y : World) : Prop := ∀ k, B ≤ k → k < B + 3 → Y.heap[k]? = X.heap[k]?
def Box3 (B : Nat) (r : ByteArray) (W : World) : Prop := Boxed W B 9 (.string r) ∧ Boxed W (B + 1) 9 (.string ⟨#[44]⟩) ∧ Boxed W (B + 2) 3 (.int .i64 0)
theorem Box3.kept {B : Nat} {r : ByteArray} {X Y : World} (h : Box3 B r X) (k : KB B X Y) : Box3 B r Y :=
  ⟨(k B (Nat.le_refl _) (by omega)).trans h.1, (k (B + 1) (by omega) (by omega)).trans h.2.1, (k (B + 2) (by omega) (by omega)).trans h.2.2⟩
theorem box_other {W : World} {B C : Nat} {t : TypeId} {v : Value} (h : Boxed W C t v) (hne : C ≠ B) (u : Value) : Boxed (W.setCell ⟨B, 0, none⟩ u) C t v := (Below.heap_setCell W ⟨B, 0, none⟩ u C hne).trans h
theorem Box3.set {B : Nat} {r : ByteArray} {X : World} (h : Box3 B r X) (r' : ByteArray) : Box3 B r' (X.setCell ⟨B, 0, none⟩ (.string r')) :=
  ⟨h.1.set _, box_other h.2.1 (by omega) _, box_other h.2.2 (by omega) _⟩
/-- what a round may know of its piece -/
def Pr (s : ByteArray) (pre : List ByteArray) (x : ByteArray) : Prop := x.size ≤ s.size ∧ ∃ r, spl s.data.toList = (pre.map fun y => y.data.toList) ++ x.data.toList :: r
def Sx (s : ByteArray) (xs : List ByteArray) : Prop := spl s.data.toList = xs.map fun y => y.data.toList
def left (B : Nat) (W : World) : Nat := match W.cell? ⟨B, 0, none⟩ with | some (.string r) => r.size | _ => 0
theorem left_eq {B : Nat} {r : ByteArray} {W : World} (h : Box3 B r W) : left B W = r.size := by unfold left; rw [h.1.cell]

set_option maxRecDepth 100000 in
set_option maxHeartbeats 4000000 in
theorem seq_in (B : Nat) (s : ByteArray) (hs : s.size ≤ 140737488355328) :
    Seq Fence.wide 5 Tryd.prog 42 #[.pointer (some ⟨B + 1, 0, none⟩), .pointer (some ⟨B, 0, none⟩), .pointer (some ⟨B + 2, 0, none⟩)] (fun x : ByteArray => #[.string x]) (TB B) (KB B) (Pr s) (Box3 B s) (Sx s) := fun l J Jx W hJ hJx hK hR h0 => by
  have hJ' := Lib.hid hJ
  have hR' := Lib.hid hR
  have hcB := hK.2.1.cell
  clear hJ hR hJx
  refine callsIn_of_wp Tryd.func42 rfl trivial ?_ rfl
  simp only [Tryd.ntmps42, List.size_toArray, List.length_cons, List.length_nil, Nat.reduceAdd, Nat.reduceSub, Array.replicate_succ, Array.replicate_zero, List.push_toArray, List.append_toArray, List.nil_append, List.cons_append]
  gi_wp2
  gi_loopw [7, 8] (fun s7 s8 wr => ∃ (pre : List ByteArray) (r : ByteArray), Box3 B r wr ∧ r.size ≤ s.size ∧ spl s.data.toList = (pre.map fun y => y.data.toList) ++ spl r.data.toList ∧ J pre wr) (fun s7 s8 wr => left B wr)
  case atStart => exact ⟨[], s, hK, Nat.le_refl _, rfl, h0⟩
  case round =>
    obtain ⟨pre, r, hB, hsz, hspl, hJs⟩ := hrel
    have c0 := hB.1.cell
    have c1 := hB.2.1.cell
    have c2 := hB.2.2.cell
    have cI := fun W => Tryd.strings_Index_one r 44 W
    rcases byte_at r.data.toList 44 with ⟨h1, h2⟩ | ⟨k, h1, h2, h3, h4⟩
    · rw [h1] at cI
      obtain ⟨fn, tmps, assign, body, hy, hRd⟩ := hR'.out pre r wr hJs ⟨hsz, [], by rw [hspl, spl_own h2]⟩
      have hfin : Sx s (pre ++ [r]) := by unfold Sx; rw [hspl, spl_own h2]; simp
      have hfin' := Lib.hid hfin
      clear hfin h1 h2 hspl hJs
      dsimp only at hy
      gi_wp2_with (refine ⟨trivial, ?_⟩; gi_at_call 44; refine (callsIn_wide.2 (cI _)).mono ?_; rintro e w' ⟨rfl, rfl⟩)
      refine hRd.mono ?_
      rintro e W3 (⟨rfl, hJ3, hk3⟩ | ⟨rfl, hJx3⟩)
      · gi_wp2
        go_end0
        exact ⟨⟨_, rfl⟩, .inl ⟨_, hfin'.out, hJ3⟩⟩
      · gi_wp2
        go_end0
        exact ⟨⟨_, rfl⟩, .inr ⟨_, hJx3⟩⟩
    · rw [h1] at cI
      rw [← Lib.size_eq] at h2
      have hkz : (k : Int) ≤ (r.size : Int) := by omega
      have e1 : (r.extract 0 k).data.toList = r.data.toList.take k := by rw [Lib.extract_data]; rfl
      have e2 : (r.extract (k + 1) r.size).data.toList = r.data.toList.drop (k + 1) := Lib.extract_to_end r (k + 1)
      have hsp2 : spl s.data.toList = (pre.map fun y => y.data.toList) ++ (r.extract 0 k).data.toList :: spl (r.extract (k + 1) r.size).data.toList := by
        rw [hspl, e1, e2]
        conv => lhs; rw [h4]
        rw [spl_at _ h3]
      have hx1 : (r.extract 0 k).size = k := by rw [Lib.size_eq, e1, List.length_take, ← Lib.size_eq]; omega
      have hx2 : (r.extract (k + 1) r.size).size = r.size - (k + 1) := by rw [Lib.size_eq, e2, List.length_drop, ← Lib.size_eq]
      obtain ⟨fn, tmps, assign, body, hy, hRd⟩ := hR'.out pre (r.extract 0 k) wr hJs ⟨by omega, _, hsp2⟩
      have hx1' := Lib.hid hx1
      have hx2' := Lib.hid hx2
      have hsp2' := Lib.hid hsp2
      have hw0 : IntKind.i64.wrap (k : Int) = (k : Int) := IntWalk.i64_in _ (by omega)
      have hw : IntKind.i64.wrap ((k : Int) + 1) = (k : Int) + 1 := IntWalk.i64_in _ (by omega)
      clear h1 h3 h4 hspl hJs hx1 hx2 hsp2 e1 e2
      dsimp only at hy
      gi_wp2_with (refine ⟨trivial, ?_⟩; gi_at_call 44; refine (callsIn_wide.2 (cI _)).mono ?_; rintro e w' ⟨rfl, rfl⟩)
      refine hRd.mono ?_
      rintro e W3 (⟨rfl, hJ3, hk3⟩ | ⟨rfl, hJx3⟩)
      · have hB3 := hB.kept hk3
        have d0 := hB3.1.cell
        have d1 := hB3.2.1.cell
        have f0 := hB3.1.frozen
        gi_wp2
        go_roundw
        case rel => exact ⟨pre ++ [r.extract 0 k], r.extract (k + 1) r.size, hB3.set _, by rw [hx2'.out]; omega, by rw [hsp2'.out]; simp, hJ'.out _ _ _ hJ3 ⟨_, rfl⟩⟩
        case measure => rw [left_eq (hB3.set _), left_eq hB, hx2'.out]; omega
      · gi_wp2
        refine bodyPost_ret (results_none rfl _ _ _) rfl ?_
        exact ⟨⟨_, rfl⟩, .inr ⟨_, hJx3⟩⟩
end Go.Proofs.YtgpkkdimafmehaaDoor.Co
