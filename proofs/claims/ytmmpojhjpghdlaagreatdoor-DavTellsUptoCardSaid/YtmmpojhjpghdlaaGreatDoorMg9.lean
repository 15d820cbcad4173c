import Derived.Test.YtmmpojhjpghdlaaGreatDoorMg8
import Derived.Test.YtmmpojhjpghdlaaGreatDoorMg4
import Derived.Deep.AppendLies
import Derived.Test.YtmmpojhjpghdlaaGreatDoorMg5

/-
  MAKERS, GO ON: dav.response (written by tools/genresp.py): an item as pieces.
-/
set_option linter.unusedVariables false
namespace Go.Proofs.YtmmpojhjpghdlaaGreatDoor.Dv
open Go.Lib Go.RowKit Rg
open Xm (Row Pc sv PsOwn PcsAt append_piece below_then sv_some left_of)

variable {cc : Nat}
theorem whNe {b : Bool} {t : Row} {ps : List Pc} (h : b = true ↔ t ≠ []) : (if b = true then ps else []) = if t = [] then [] else ps := by
  cases b
  · have : t = [] := Classical.byContradiction fun h' => by have := h.2 h'; cases this
    rw [if_pos this]; rfl
  · rw [if_neg (h.1 rfl)]; rfl
theorem itm {W : World} {g : Nat} {x0 x2 x3 : ByteArray} {b1 b4 : Bool} {t : TypeId} (h : W.heap[g]? = some (.cells #[.string x0, .bool b1, .string x2, .string x3, .bool b4] t (0, 0))) :
    W.cell? ⟨g, 0, none⟩ = some (.string x0) ∧ W.cell? ⟨g, 1, none⟩ = some (.bool b1) ∧ W.cell? ⟨g, 2, none⟩ = some (.string x2) ∧ W.cell? ⟨g, 3, none⟩ = some (.string x3) ∧ W.cell? ⟨g, 4, none⟩ = some (.bool b4) :=
  ⟨(Lib.cell_of_heap h 0).trans rfl, (Lib.cell_of_heap h 1).trans rfl, (Lib.cell_of_heap h 2).trans rfl, (Lib.cell_of_heap h 3).trans rfl, (Lib.cell_of_heap h 4).trans rfl⟩
theorem blk_of {w W : World} {k : Nat} {o : Obj} (h : w.heap[k]? = some o) (hb : Below w.heap.size w W) : W.heap[k]? = some o := (hb.block k (Array.getElem?_eq_some_iff.1 h).1).trans h
theorem flat2 (a b : List Pc) : [a, b].flatten = a ++ b := by simp
theorem flat3 (a b c : List Pc) : [a, b, c].flatten = a ++ (b ++ c) := by simp
def FRg (cc g : Nat) (x0 x2 x3 : ByteArray) (b4 : Bool) (P3 P4 : List Pc) : Nat → Value → World → Prop
  | 0, v, W => v = .agg #[.int .i64 1, .string ⟨#[114, 101, 115, 112, 111, 110, 115, 101]⟩]
  | 1, v, W => v = .pointer (some ⟨g, 0, none⟩)
  | 2, v, W => v = .string x0
  | 3, v, W => Mk cc W v (full 1 hrefS x0.data.toList)
  | 4, v, W => Mk cc W v (full 1 statusS (⟨#[72, 84, 84, 80, 47, 49, 46, 49, 32, 52, 48, 52, 32, 78, 111, 116, 32, 70, 111, 117, 110, 100]⟩ : ByteArray).data.toList)
  | 5, v, W => PartsAt cc W v [(full 1 hrefS x0.data.toList), full 1 statusS (⟨#[72, 84, 84, 80, 47, 49, 46, 49, 32, 52, 48, 52, 32, 78, 111, 116, 32, 70, 111, 117, 110, 100]⟩ : ByteArray).data.toList]
  | 6, v, W => Mk cc W v (el 1 (⟨#[114, 101, 115, 112, 111, 110, 115, 101]⟩ : ByteArray).data.toList ([(full 1 hrefS x0.data.toList), full 1 statusS (⟨#[72, 84, 84, 80, 47, 49, 46, 49, 32, 52, 48, 52, 32, 78, 111, 116, 32, 70, 111, 117, 110, 100]⟩ : ByteArray).data.toList] : List (List Pc)).flatten)
  | 7, v, W => Mk cc W v (el 1 (⟨#[114, 101, 115, 112, 111, 110, 115, 101]⟩ : ByteArray).data.toList ([(full 1 hrefS x0.data.toList), full 1 statusS (⟨#[72, 84, 84, 80, 47, 49, 46, 49, 32, 52, 48, 52, 32, 78, 111, 116, 32, 70, 111, 117, 110, 100]⟩ : ByteArray).data.toList] : List (List Pc)).flatten)
  | _, _, _ => True
theorem FRg_mono (cc g : Nat) (x0 x2 x3 : ByteArray) (b4 : Bool) (P3 P4 : List Pc) : ∀ i v W W', FRg cc g x0 x2 x3 b4 P3 P4 i v W → Below W.heap.size W W' → FRg cc g x0 x2 x3 b4 P3 P4 i v W'
  | 0, _, _, _, h, hb => h
  | 1, _, _, _, h, hb => h
  | 2, _, _, _, h, hb => h
  | 3, _, _, _, h, hb => Mk.below h hb
  | 4, _, _, _, h, hb => Mk.below h hb
  | 5, _, _, _, h, hb => PartsAt.below h hb
  | 6, _, _, _, h, hb => Mk.below h hb
  | 7, _, _, _, h, hb => Mk.below h hb
  | _ + 8, _, _, _, _, _ => trivial
def FRp (cc g : Nat) (x0 x2 x3 : ByteArray) (b4 : Bool) (P3 P4 : List Pc) : Nat → Value → World → Prop
  | 0, v, W => v = .agg #[.int .i64 1, .string ⟨#[112, 114, 111, 112]⟩]
  | 1, v, W => v = .pointer (some ⟨g, 2, none⟩)
  | 2, v, W => v = .string x2
  | 3, v, W => ∃ b, v = .bool b ∧ (b = true ↔ x2.data.toList ≠ [])
  | 4, v, W => v = .agg #[.int .i64 1, .string ⟨#[103, 101, 116, 101, 116, 97, 103]⟩]
  | 5, v, W => v = .pointer (some ⟨g, 2, none⟩)
  | 6, v, W => v = .string x2
  | 7, v, W => Mk cc W v ([⟨3, 0, [], x2.data.toList⟩])
  | 8, v, W => PartsAt cc W v [[⟨3, 0, [], x2.data.toList⟩]]
  | 9, v, W => Mk cc W v (el 1 (⟨#[103, 101, 116, 101, 116, 97, 103]⟩ : ByteArray).data.toList ([[⟨3, 0, [], x2.data.toList⟩]] : List (List Pc)).flatten)
  | 10, v, W => Mk cc W v (if x2.data.toList = [] then [] else (el 1 (⟨#[103, 101, 116, 101, 116, 97, 103]⟩ : ByteArray).data.toList ([[⟨3, 0, [], x2.data.toList⟩]] : List (List Pc)).flatten))
  | 11, v, W => v = .pointer (some ⟨g, 3, none⟩)
  | 12, v, W => v = .string x3
  | 13, v, W => ∃ b, v = .bool b ∧ (b = true ↔ x3.data.toList ≠ [])
  | 14, v, W => v = .agg #[.int .i64 2, .string ⟨#[97, 100, 100, 114, 101, 115, 115, 45, 100, 97, 116, 97]⟩]
  | 15, v, W => v = .pointer (some ⟨g, 3, none⟩)
  | 16, v, W => v = .string x3
  | 17, v, W => Mk cc W v ([⟨3, 0, [], x3.data.toList⟩])
  | 18, v, W => PartsAt cc W v [[⟨3, 0, [], x3.data.toList⟩]]
  | 19, v, W => Mk cc W v (el 2 (⟨#[97, 100, 100, 114, 101, 115, 115, 45, 100, 97, 116, 97]⟩ : ByteArray).data.toList ([[⟨3, 0, [], x3.data.toList⟩]] : List (List Pc)).flatten)
  | 20, v, W => Mk cc W v (if x3.data.toList = [] then [] else (el 2 (⟨#[97, 100, 100, 114, 101, 115, 115, 45, 100, 97, 116, 97]⟩ : ByteArray).data.toList ([[⟨3, 0, [], x3.data.toList⟩]] : List (List Pc)).flatten))
  | 21, v, W => v = .pointer (some ⟨g, 4, none⟩)
  | 22, v, W => v = .bool b4
  | 23, v, W => Mk cc W v P3
  | 24, v, W => Mk cc W v (if b4 = true then P3 else [])
  | 25, v, W => PartsAt cc W v [(if x2.data.toList = [] then [] else (el 1 (⟨#[103, 101, 116, 101, 116, 97, 103]⟩ : ByteArray).data.toList ([[⟨3, 0, [], x2.data.toList⟩]] : List (List Pc)).flatten)), (if x3.data.toList = [] then [] else (el 2 (⟨#[97, 100, 100, 114, 101, 115, 115, 45, 100, 97, 116, 97]⟩ : ByteArray).data.toList ([[⟨3, 0, [], x3.data.toList⟩]] : List (List Pc)).flatten)), (if b4 = true then P3 else [])]
  | 26, v, W => Mk cc W v (el 1 (⟨#[112, 114, 111, 112]⟩ : ByteArray).data.toList ([(if x2.data.toList = [] then [] else (el 1 (⟨#[103, 101, 116, 101, 116, 97, 103]⟩ : ByteArray).data.toList ([[⟨3, 0, [], x2.data.toList⟩]] : List (List Pc)).flatten)), (if x3.data.toList = [] then [] else (el 2 (⟨#[97, 100, 100, 114, 101, 115, 115, 45, 100, 97, 116, 97]⟩ : ByteArray).data.toList ([[⟨3, 0, [], x3.data.toList⟩]] : List (List Pc)).flatten)), (if b4 = true then P3 else [])] : List (List Pc)).flatten)
  | 27, v, W => Mk cc W v (el 1 (⟨#[112, 114, 111, 112]⟩ : ByteArray).data.toList ([(if x2.data.toList = [] then [] else (el 1 (⟨#[103, 101, 116, 101, 116, 97, 103]⟩ : ByteArray).data.toList ([[⟨3, 0, [], x2.data.toList⟩]] : List (List Pc)).flatten)), (if x3.data.toList = [] then [] else (el 2 (⟨#[97, 100, 100, 114, 101, 115, 115, 45, 100, 97, 116, 97]⟩ : ByteArray).data.toList ([[⟨3, 0, [], x3.data.toList⟩]] : List (List Pc)).flatten)), (if b4 = true then P3 else [])] : List (List Pc)).flatten)
  | _, _, _ => True
theorem FRp_mono (cc g : Nat) (x0 x2 x3 : ByteArray) (b4 : Bool) (P3 P4 : List Pc) : ∀ i v W W', FRp cc g x0 x2 x3 b4 P3 P4 i v W → Below W.heap.size W W' → FRp cc g x0 x2 x3 b4 P3 P4 i v W'
  | 0, _, _, _, h, hb => h
  | 1, _, _, _, h, hb => h
  | 2, _, _, _, h, hb => h
  | 3, _, _, _, h, hb => h
  | 4, _, _, _, h, hb => h
  | 5, _, _, _, h, hb => h
  | 6, _, _, _, h, hb => h
  | 7, _, _, _, h, hb => Mk.below h hb
  | 8, _, _, _, h, hb => PartsAt.below h hb
  | 9, _, _, _, h, hb => Mk.below h hb
  | 10, _, _, _, h, hb => Mk.below h hb
  | 11, _, _, _, h, hb => h
  | 12, _, _, _, h, hb => h
  | 13, _, _, _, h, hb => h
  | 14, _, _, _, h, hb => h
  | 15, _, _, _, h, hb => h
  | 16, _, _, _, h, hb => h
  | 17, _, _, _, h, hb => Mk.below h hb
  | 18, _, _, _, h, hb => PartsAt.below h hb
  | 19, _, _, _, h, hb => Mk.below h hb
  | 20, _, _, _, h, hb => Mk.below h hb
  | 21, _, _, _, h, hb => h
  | 22, _, _, _, h, hb => h
  | 23, _, _, _, h, hb => Mk.below h hb
  | 24, _, _, _, h, hb => Mk.below h hb
  | 25, _, _, _, h, hb => PartsAt.below h hb
  | 26, _, _, _, h, hb => Mk.below h hb
  | 27, _, _, _, h, hb => Mk.below h hb
  | _ + 28, _, _, _, _, _ => trivial
def FRo (cc g : Nat) (x0 x2 x3 : ByteArray) (b4 : Bool) (P3 P4 : List Pc) : Nat → Value → World → Prop
  | 0, v, W => v = .agg #[.int .i64 1, .string ⟨#[114, 101, 115, 112, 111, 110, 115, 101]⟩]
  | 1, v, W => v = .pointer (some ⟨g, 0, none⟩)
  | 2, v, W => v = .string x0
  | 3, v, W => Mk cc W v (full 1 hrefS x0.data.toList)
  | 4, v, W => v = .agg #[.int .i64 1, .string ⟨#[112, 114, 111, 112, 115, 116, 97, 116]⟩]
  | 5, v, W => Mk cc W v P4
  | 6, v, W => Mk cc W v (full 1 statusS (⟨#[72, 84, 84, 80, 47, 49, 46, 49, 32, 50, 48, 48, 32, 79, 75]⟩ : ByteArray).data.toList)
  | 7, v, W => PartsAt cc W v [P4, full 1 statusS (⟨#[72, 84, 84, 80, 47, 49, 46, 49, 32, 50, 48, 48, 32, 79, 75]⟩ : ByteArray).data.toList]
  | 8, v, W => Mk cc W v (el 1 (⟨#[112, 114, 111, 112, 115, 116, 97, 116]⟩ : ByteArray).data.toList ([P4, full 1 statusS (⟨#[72, 84, 84, 80, 47, 49, 46, 49, 32, 50, 48, 48, 32, 79, 75]⟩ : ByteArray).data.toList] : List (List Pc)).flatten)
  | 9, v, W => PartsAt cc W v [(full 1 hrefS x0.data.toList), (el 1 (⟨#[112, 114, 111, 112, 115, 116, 97, 116]⟩ : ByteArray).data.toList ([P4, full 1 statusS (⟨#[72, 84, 84, 80, 47, 49, 46, 49, 32, 50, 48, 48, 32, 79, 75]⟩ : ByteArray).data.toList] : List (List Pc)).flatten)]
  | 10, v, W => Mk cc W v (el 1 (⟨#[114, 101, 115, 112, 111, 110, 115, 101]⟩ : ByteArray).data.toList ([(full 1 hrefS x0.data.toList), (el 1 (⟨#[112, 114, 111, 112, 115, 116, 97, 116]⟩ : ByteArray).data.toList ([P4, full 1 statusS (⟨#[72, 84, 84, 80, 47, 49, 46, 49, 32, 50, 48, 48, 32, 79, 75]⟩ : ByteArray).data.toList] : List (List Pc)).flatten)] : List (List Pc)).flatten)
  | 11, v, W => Mk cc W v (el 1 (⟨#[114, 101, 115, 112, 111, 110, 115, 101]⟩ : ByteArray).data.toList ([(full 1 hrefS x0.data.toList), (el 1 (⟨#[112, 114, 111, 112, 115, 116, 97, 116]⟩ : ByteArray).data.toList ([P4, full 1 statusS (⟨#[72, 84, 84, 80, 47, 49, 46, 49, 32, 50, 48, 48, 32, 79, 75]⟩ : ByteArray).data.toList] : List (List Pc)).flatten)] : List (List Pc)).flatten)
  | _, _, _ => True
theorem FRo_mono (cc g : Nat) (x0 x2 x3 : ByteArray) (b4 : Bool) (P3 P4 : List Pc) : ∀ i v W W', FRo cc g x0 x2 x3 b4 P3 P4 i v W → Below W.heap.size W W' → FRo cc g x0 x2 x3 b4 P3 P4 i v W'
  | 0, _, _, _, h, hb => h
  | 1, _, _, _, h, hb => h
  | 2, _, _, _, h, hb => h
  | 3, _, _, _, h, hb => Mk.below h hb
  | 4, _, _, _, h, hb => h
  | 5, _, _, _, h, hb => Mk.below h hb
  | 6, _, _, _, h, hb => Mk.below h hb
  | 7, _, _, _, h, hb => PartsAt.below h hb
  | 8, _, _, _, h, hb => Mk.below h hb
  | 9, _, _, _, h, hb => PartsAt.below h hb
  | 10, _, _, _, h, hb => Mk.below h hb
  | 11, _, _, _, h, hb => Mk.below h hb
  | _ + 12, _, _, _, _, _ => trivial

set_option maxHeartbeats 8000000 in
set_option maxRecDepth 100000 in
theorem response_gone (x0 x2 x3 : ByteArray) (b4 : Bool) (w : World) : Calls Tryz.prog 61 #[.agg #[.string x0, .bool true, .string x2, .string x3, .bool b4]] w fun e w' => (∃ v, e = .returned v ∧ Mk cc w' v (el 1 respS (full 1 hrefS x0.data.toList ++ full 1 statusS s404))) ∧ Below w.heap.size w w' := by
    obtain ⟨wb, hwb⟩ : ∃ wb, w.alloc (.cells #[.string x0, .bool true, .string x2, .string x3, .bool b4] 79) = wb := ⟨_, rfl⟩
    have hk : wb.heap[w.heap.size]? = some (.cells #[.string x0, .bool true, .string x2, .string x3, .bool b4] 79 (0, 0)) := by rw [← hwb]; exact heap_alloc_new w _
    have hbS := Lib.hid (show Below w.heap.size w wb by rw [← hwb]; exact (Below.refl _ _).alloc (Nat.le_refl _) _)
    obtain ⟨k0, k1, k2, k3, k4⟩ := itm hk
    have hkS := Lib.hid hk
    clear hk
    obtain ⟨R, hR⟩ : ∃ R, el 1 respS (full 1 hrefS x0.data.toList ++ full 1 statusS s404) = R := ⟨_, rfl⟩
    rw [hR]
    have hR' := Lib.hid hR
    clear hR
    go_enter Tryz.func61, Tryz.ntmps61
    go_upto_region 2 with fail
    go_cut [2] from 7 to 13 (fun sv wx => Hid (Mk cc wx sv (R)) ∧ Hid (Below w.heap.size w wx))
    case first =>
      rename_i J K' hJ hK'
      have qc0 : ∀ W, Below wb.heap.size wb W → W.cell? ⟨w.heap.size, 0, none⟩ = some (.string x0) := fun W hW => (itm (blk_of hkS.out hW)).1
      have qc2 : ∀ W, Below wb.heap.size wb W → W.cell? ⟨w.heap.size, 2, none⟩ = some (.string x2) := fun W hW => (itm (blk_of hkS.out hW)).2.2.1
      have qc3 : ∀ W, Below wb.heap.size wb W → W.cell? ⟨w.heap.size, 3, none⟩ = some (.string x3) := fun W hW => (itm (blk_of hkS.out hW)).2.2.2.1
      have qc4 : ∀ W, Below wb.heap.size wb W → W.cell? ⟨w.heap.size, 4, none⟩ = some (.bool b4) := fun W hW => (itm (blk_of hkS.out hW)).2.2.2.2
      refine Rg.region_mono (by kernel_rfl) [7, 8, 9, 10, 11, 12, 13, 2] (by decide) (by kernel_rfl) rfl (by kernel_rfl) rfl (FRg cc w.heap.size x0 x2 x3 b4 [] []) (FRg_mono cc w.heap.size x0 x2 x3 b4 [] []) ?_ ?_
      · exact ⟨nmCall rfl rfl rfl ⟨#[114, 101, 115, 112, 111, 110, 115, 101]⟩ rfl (fun _ => rfl),
              faItem0 rfl rfl rfl rfl (by decide) (w.heap.size) rfl (fun _ => rfl),
              ldStr rfl rfl rfl (k := 1) rfl (by decide) rfl ⟨w.heap.size, 0, none⟩ x0 (fun _ _ h => h) qc0 (fun _ => rfl),
              hrCall rfl rfl rfl (k := 2) rfl (by decide) rfl x0 (fun _ _ h => h) (fun _ _ h => h),
              stCall rfl rfl rfl ⟨#[72, 84, 84, 80, 47, 49, 46, 49, 32, 52, 48, 52, 32, 78, 111, 116, 32, 70, 111, 117, 110, 100]⟩ rfl (fun _ _ h => h),
              bs2 rfl rfl rfl (k := 3) (k' := 4) rfl (by decide) rfl (by decide) rfl ((full 1 hrefS x0.data.toList)) (full 1 statusS (⟨#[72, 84, 84, 80, 47, 49, 46, 49, 32, 52, 48, 52, 32, 78, 111, 116, 32, 70, 111, 117, 110, 100]⟩ : ByteArray).data.toList) (fun _ _ h => h) (fun _ _ h => h) (fun _ _ h => h),
              arCall rfl rfl rfl (k := 0) (k' := 5) rfl (by decide) rfl (by decide) rfl 1 ⟨#[114, 101, 115, 112, 111, 110, 115, 101]⟩ [(full 1 hrefS x0.data.toList), full 1 statusS (⟨#[72, 84, 84, 80, 47, 49, 46, 49, 32, 52, 48, 52, 32, 78, 111, 116, 32, 70, 111, 117, 110, 100]⟩ : ByteArray).data.toList] (fun _ _ h => h) (fun _ _ h => h) (fun _ _ h => h),
              asNew rfl rfl rfl (k := 6) rfl (by decide) rfl (fun _ _ h => h), trivial⟩
      · intro u W hW hu
        have r1 : Mk cc W (u 2) _ := hu 7 2 rfl
        clear hu
        show K' _ _
        refine hK' _ _ (Met.intro (hJ _ _ ?_))
        unfold Rg.puts
        simp only [List.foldl_cons, List.foldl_nil, Act.put, List.setIfInBounds_toArray, List.set_cons_succ, List.set_cons_zero]
        repeat apply Exists.intro
        refine ⟨?rel2, rfl⟩
        exact ⟨Lib.hid (by rw [← hR'.out]; exact r1), Lib.hid (below_then hbS.out hW)⟩
    case rest =>
      obtain ⟨m2, hb2⟩ := hcut
      obtain ⟨f, caps, es⟩ := m2.out.form
      subst es
      go_wp2
      go_ret
      exact ⟨⟨_, rfl, m2.out⟩, hb2.out⟩

set_option maxHeartbeats 8000000 in
set_option maxRecDepth 100000 in
theorem response_live (x0 x2 x3 : ByteArray) (b4 : Bool) (w : World) : Calls Tryz.prog 61 #[.agg #[.string x0, .bool false, .string x2, .string x3, .bool b4]] w fun e w' => (∃ v, e = .returned v ∧ Mk cc w' v (pcI ⟨x0.data.toList, false, x2.data.toList, x3.data.toList, b4⟩)) ∧ Below w.heap.size w w' := by
    have c1 := fun W => dav_any ⟨#[114, 101, 115, 111, 117, 114, 99, 101, 116, 121, 112, 101]⟩ W
    have c2 := fun W => dav_any ⟨#[99, 111, 108, 108, 101, 99, 116, 105, 111, 110]⟩ W
    have c3 := Lib.hid (fun W => around_any (cc := cc) 1 ⟨#[99, 111, 108, 108, 101, 99, 116, 105, 111, 110]⟩ (.slice none 0 0) [] W (.inl ⟨rfl, rfl⟩))
    have c4 := Lib.hid (fun W => card_any ⟨#[97, 100, 100, 114, 101, 115, 115, 98, 111, 111, 107]⟩ W)
    have c5 := Lib.hid (fun W => around_any (cc := cc) 2 ⟨#[97, 100, 100, 114, 101, 115, 115, 98, 111, 111, 107]⟩ (.slice none 0 0) [] W (.inl ⟨rfl, rfl⟩))
    have c6 := Lib.hid (fun pv pss W (h : PartsAt cc W pv pss) => around_any 1 ⟨#[114, 101, 115, 111, 117, 114, 99, 101, 116, 121, 112, 101]⟩ pv pss W h)
    obtain ⟨wb, hwb⟩ : ∃ wb, w.alloc (.cells #[.string x0, .bool false, .string x2, .string x3, .bool b4] 79) = wb := ⟨_, rfl⟩
    have hk : wb.heap[w.heap.size]? = some (.cells #[.string x0, .bool false, .string x2, .string x3, .bool b4] 79 (0, 0)) := by rw [← hwb]; exact heap_alloc_new w _
    have hbS := (show Below w.heap.size w wb by rw [← hwb]; exact (Below.refl _ _).alloc (Nat.le_refl _) _)
    obtain ⟨k0, k1, k2, k3, k4⟩ := itm hk
    have hkB := Lib.hid hk
    have hbB := Lib.hid hbS
    clear hk hbS
    obtain ⟨R, hR⟩ : ∃ R, pcI ⟨x0.data.toList, false, x2.data.toList, x3.data.toList, b4⟩ = R := ⟨_, rfl⟩
    rw [hR]
    have hR' := Lib.hid hR
    clear hR
    go_enter Tryz.func61, Tryz.ntmps61
    go_wp2_with fail
    go_at_call 40
    with_reducible refine (c1 _).mono ?_
    rintro e w1 ⟨rfl, hb1⟩
    clear c1 k0 k1 k2 k3 k4 hwb
    have hb1' := below_then hbB.out hb1
    have hk1 := blk_of hkB.out hb1
    have d2 := c2 w1
    clear c2 hb1
    go_wp2_with fail
    go_at_call 40
    with_reducible refine d2.mono ?_
    rintro e w2 ⟨rfl, hb2⟩
    have hb2' := below_then hb1' hb2
    have hk2 := Lib.hid (blk_of hk1 hb2)
    have d3 := c3.out w2
    clear c3 hb2 hb1' hk1 d2
    go_wp2_with fail
    go_at_call 58
    with_reducible refine d3.mono ?_
    rintro e w3 ⟨⟨v3, rfl, m3⟩, hb3⟩
    have hb3' := Lib.hid (below_then hb2' hb3)
    have hk3 := Lib.hid (blk_of hk2.out hb3)
    have d4 := c4.out w3
    obtain ⟨f3, q3, rfl⟩ := m3.form
    have m3' := Lib.hid m3
    clear c4 hb3 hb2' hk2 d3 m3
    go_wp2_with fail
    go_at_call 43
    with_reducible refine d4.mono ?_
    rintro e w4 ⟨rfl, hb4⟩
    have hb4' := Lib.hid (below_then hb3'.out hb4)
    have hk4 := Lib.hid (blk_of hk3.out hb4)
    have m4 := Lib.hid (m3'.out.below hb4)
    have d5 := c5.out w4
    clear c5 hb4 hb3' hk3 d4 m3'
    go_wp2_with fail
    go_at_call 58
    with_reducible refine d5.mono ?_
    rintro e w5 ⟨⟨v5, rfl, n5⟩, hb5⟩
    have hb5' := Lib.hid (below_then hb4'.out hb5)
    have hk5 := Lib.hid (blk_of hk4.out hb5)
    have hp := parts2 (m4.out.below hb5) n5
    obtain ⟨f5, q5, rfl⟩ := n5.form
    have d6 := c6.out _ _ _ hp
    have hb6 : Below w5.heap.size w5 (w5.alloc (.cells #[.func (.func f3) #[] q3, .func (.func f5) #[] q5] 86)) := (Below.refl _ _).alloc (Nat.le_refl _) _
    have hb6' := Lib.hid (below_then hb5'.out hb6)
    have hk6 := Lib.hid (blk_of hk5.out hb6)
    clear c6 hb5 hb4' hk4 d5 m4 n5 hp hb6 hb5' hk5
    go_wp2_with fail
    go_at_call 58
    with_reducible refine d6.mono ?_
    rintro e wS ⟨⟨v3, rfl, m3⟩, hb7⟩
    have hbS := Lib.hid (below_then hb6'.out hb7)
    have hkS := Lib.hid (blk_of hk6.out hb7)
    obtain ⟨P3, hP3⟩ : ∃ P3, (el 1 rtypeS (el 1 collS [] ++ el 2 abookS [])) = P3 := ⟨_, rfl⟩
    replace m3 : Mk cc wS v3 (el 1 rtypeS (el 1 collS [] ++ el 2 abookS [])) := m3
    rw [hP3] at m3
    have hP3' := Lib.hid hP3
    clear hP3
    obtain ⟨f7, q7, e7⟩ := m3.form
    subst e7
    have m3 := Lib.hid m3
    clear d6 hb6' hk6 hb7
    go_upto_region 4 with fail
    go_cut [4] from 21 to 47 (fun sv wx => Hid (Mk cc wx sv (el 1 propS (pcP ⟨x0.data.toList, false, x2.data.toList, x3.data.toList, b4⟩))) ∧ Hid (Below w.heap.size w wx) ∧ Hid (wx.heap[w.heap.size]? = some (.cells #[.string x0, .bool false, .string x2, .string x3, .bool b4] 79 (0, 0))))
    case first =>
      rename_i J K' hJ hK'
      have qc0 : ∀ W, Below wS.heap.size wS W → W.cell? ⟨w.heap.size, 0, none⟩ = some (.string x0) := fun W hW => (itm (blk_of hkS.out hW)).1
      have qc2 : ∀ W, Below wS.heap.size wS W → W.cell? ⟨w.heap.size, 2, none⟩ = some (.string x2) := fun W hW => (itm (blk_of hkS.out hW)).2.2.1
      have qc3 : ∀ W, Below wS.heap.size wS W → W.cell? ⟨w.heap.size, 3, none⟩ = some (.string x3) := fun W hW => (itm (blk_of hkS.out hW)).2.2.2.1
      have qc4 : ∀ W, Below wS.heap.size wS W → W.cell? ⟨w.heap.size, 4, none⟩ = some (.bool b4) := fun W hW => (itm (blk_of hkS.out hW)).2.2.2.2
      refine Rg.region_mono (by kernel_rfl) [21, 22, 23, 24, 25, 26, 27, 28, 29, 30, 31, 32, 33, 34, 35, 36, 37, 38, 39, 40, 41, 42, 43, 44, 45, 46, 47, 4] (by decide) (by kernel_rfl) rfl (by kernel_rfl) rfl (FRp cc w.heap.size x0 x2 x3 b4 P3 []) (FRp_mono cc w.heap.size x0 x2 x3 b4 P3 []) ?_ ?_
      · exact ⟨nmCall rfl rfl rfl ⟨#[112, 114, 111, 112]⟩ rfl (fun _ => rfl),
              faItem2 rfl rfl rfl rfl (by decide) (w.heap.size) rfl (fun _ => rfl),
              ldStr rfl rfl rfl (k := 1) rfl (by decide) rfl ⟨w.heap.size, 2, none⟩ x2 (fun _ _ h => h) qc2 (fun _ => rfl),
              neStr rfl rfl rfl (k := 2) rfl (by decide) rfl x2 (fun _ _ h => h) (fun _ b h => ⟨b, rfl, h⟩),
              nmCall rfl rfl rfl ⟨#[103, 101, 116, 101, 116, 97, 103]⟩ rfl (fun _ => rfl),
              faItem2 rfl rfl rfl rfl (by decide) (w.heap.size) rfl (fun _ => rfl),
              ldStr rfl rfl rfl (k := 5) rfl (by decide) rfl ⟨w.heap.size, 2, none⟩ x2 (fun _ _ h => h) qc2 (fun _ => rfl),
              chCall rfl rfl rfl (k := 6) rfl (by decide) rfl x2 (fun _ _ h => h) (fun _ _ h => h),
              bs1 rfl rfl rfl (k := 7) rfl (by decide) rfl ([⟨3, 0, [], x2.data.toList⟩]) (fun _ _ h => h) (fun _ _ h => h),
              arCall rfl rfl rfl (k := 4) (k' := 8) rfl (by decide) rfl (by decide) rfl 1 ⟨#[103, 101, 116, 101, 116, 97, 103]⟩ [[⟨3, 0, [], x2.data.toList⟩]] (fun _ _ h => h) (fun _ _ h => h) (fun _ _ h => h),
              whCall rfl rfl rfl (k := 3) (k' := 9) rfl (by decide) rfl (by decide) rfl (fun b => b = true ↔ x2.data.toList ≠ []) ((el 1 (⟨#[103, 101, 116, 101, 116, 97, 103]⟩ : ByteArray).data.toList ([[⟨3, 0, [], x2.data.toList⟩]] : List (List Pc)).flatten)) (fun _ _ h => h) (fun _ _ h => h) (fun W v b hb h => by rw [whNe hb] at h; exact h),
              faItem3 rfl rfl rfl rfl (by decide) (w.heap.size) rfl (fun _ => rfl),
              ldStr rfl rfl rfl (k := 11) rfl (by decide) rfl ⟨w.heap.size, 3, none⟩ x3 (fun _ _ h => h) qc3 (fun _ => rfl),
              neStr rfl rfl rfl (k := 12) rfl (by decide) rfl x3 (fun _ _ h => h) (fun _ b h => ⟨b, rfl, h⟩),
              cdCall rfl rfl rfl ⟨#[97, 100, 100, 114, 101, 115, 115, 45, 100, 97, 116, 97]⟩ rfl (fun _ => rfl),
              faItem3 rfl rfl rfl rfl (by decide) (w.heap.size) rfl (fun _ => rfl),
              ldStr rfl rfl rfl (k := 15) rfl (by decide) rfl ⟨w.heap.size, 3, none⟩ x3 (fun _ _ h => h) qc3 (fun _ => rfl),
              chCall rfl rfl rfl (k := 16) rfl (by decide) rfl x3 (fun _ _ h => h) (fun _ _ h => h),
              bs1 rfl rfl rfl (k := 17) rfl (by decide) rfl ([⟨3, 0, [], x3.data.toList⟩]) (fun _ _ h => h) (fun _ _ h => h),
              arCall rfl rfl rfl (k := 14) (k' := 18) rfl (by decide) rfl (by decide) rfl 2 ⟨#[97, 100, 100, 114, 101, 115, 115, 45, 100, 97, 116, 97]⟩ [[⟨3, 0, [], x3.data.toList⟩]] (fun _ _ h => h) (fun _ _ h => h) (fun _ _ h => h),
              whCall rfl rfl rfl (k := 13) (k' := 19) rfl (by decide) rfl (by decide) rfl (fun b => b = true ↔ x3.data.toList ≠ []) ((el 2 (⟨#[97, 100, 100, 114, 101, 115, 115, 45, 100, 97, 116, 97]⟩ : ByteArray).data.toList ([[⟨3, 0, [], x3.data.toList⟩]] : List (List Pc)).flatten)) (fun _ _ h => h) (fun _ _ h => h) (fun W v b hb h => by rw [whNe hb] at h; exact h),
              faItem4 rfl rfl rfl rfl (by decide) (w.heap.size) rfl (fun _ => rfl),
              ldBool rfl rfl rfl (k := 21) rfl (by decide) rfl ⟨w.heap.size, 4, none⟩ b4 (fun _ _ h => h) qc4 (fun _ => rfl),
              mvOld rfl rfl rfl rfl (by decide) (.func (.func f7) #[] q7) rfl (fun W h => m3.out.below h),
              whCall rfl rfl rfl (k := 22) (k' := 23) rfl (by decide) rfl (by decide) rfl (fun b => b = b4) (P3) (fun v W h => ⟨b4, h, rfl⟩) (fun _ _ h => h) (fun W v b hb h => by rw [hb] at h; exact h),
              bs3 rfl rfl rfl (k := 10) (k' := 20) (k'' := 24) rfl (by decide) rfl (by decide) rfl (by decide) rfl ((if x2.data.toList = [] then [] else (el 1 (⟨#[103, 101, 116, 101, 116, 97, 103]⟩ : ByteArray).data.toList ([[⟨3, 0, [], x2.data.toList⟩]] : List (List Pc)).flatten))) ((if x3.data.toList = [] then [] else (el 2 (⟨#[97, 100, 100, 114, 101, 115, 115, 45, 100, 97, 116, 97]⟩ : ByteArray).data.toList ([[⟨3, 0, [], x3.data.toList⟩]] : List (List Pc)).flatten))) ((if b4 = true then P3 else [])) (fun _ _ h => h) (fun _ _ h => h) (fun _ _ h => h) (fun _ _ h => h),
              arCall rfl rfl rfl (k := 0) (k' := 25) rfl (by decide) rfl (by decide) rfl 1 ⟨#[112, 114, 111, 112]⟩ [(if x2.data.toList = [] then [] else (el 1 (⟨#[103, 101, 116, 101, 116, 97, 103]⟩ : ByteArray).data.toList ([[⟨3, 0, [], x2.data.toList⟩]] : List (List Pc)).flatten)), (if x3.data.toList = [] then [] else (el 2 (⟨#[97, 100, 100, 114, 101, 115, 115, 45, 100, 97, 116, 97]⟩ : ByteArray).data.toList ([[⟨3, 0, [], x3.data.toList⟩]] : List (List Pc)).flatten)), (if b4 = true then P3 else [])] (fun _ _ h => h) (fun _ _ h => h) (fun _ _ h => h),
              asNew rfl rfl rfl (k := 26) rfl (by decide) rfl (fun _ _ h => h), trivial⟩
      · intro u W hW hu
        have r1 : Mk cc W (u 4) _ := hu 27 4 rfl
        clear hu
        show K' _ _
        refine hK' _ _ (Met.intro (hJ _ _ ?_))
        unfold Rg.puts
        simp only [List.foldl_cons, List.foldl_nil, Act.put, List.setIfInBounds_toArray, List.set_cons_succ, List.set_cons_zero]
        repeat apply Exists.intro
        refine ⟨?rel4, rfl⟩
        exact ⟨Lib.hid (by rw [flat3, ← hP3'.out] at r1; exact r1), Lib.hid (below_then hbS.out hW), Lib.hid (blk_of hkS.out hW)⟩
    case rest =>
      obtain ⟨m4, hbS, hkS⟩ := hcut
      obtain ⟨f4, q4, es⟩ := m4.out.form
      subst es
      obtain ⟨P4, hP4⟩ : ∃ P4, (el 1 propS (pcP ⟨x0.data.toList, false, x2.data.toList, x3.data.toList, b4⟩)) = P4 := ⟨_, rfl⟩
      rw [hP4] at m4
      have hP4' := Lib.hid hP4
      clear hP4
      go_upto_region 5 with fail
      go_cut [2] from 48 to 58 (fun sv wx => Hid (Mk cc wx sv (R)) ∧ Hid (Below w.heap.size w wx))
      case first =>
        rename_i J K' hJ hK'
        have qc0 : ∀ W, Below wc.heap.size wc W → W.cell? ⟨w.heap.size, 0, none⟩ = some (.string x0) := fun W hW => (itm (blk_of hkS.out hW)).1
        have qc2 : ∀ W, Below wc.heap.size wc W → W.cell? ⟨w.heap.size, 2, none⟩ = some (.string x2) := fun W hW => (itm (blk_of hkS.out hW)).2.2.1
        have qc3 : ∀ W, Below wc.heap.size wc W → W.cell? ⟨w.heap.size, 3, none⟩ = some (.string x3) := fun W hW => (itm (blk_of hkS.out hW)).2.2.2.1
        have qc4 : ∀ W, Below wc.heap.size wc W → W.cell? ⟨w.heap.size, 4, none⟩ = some (.bool b4) := fun W hW => (itm (blk_of hkS.out hW)).2.2.2.2
        refine Rg.region_mono (by kernel_rfl) [48, 49, 50, 51, 52, 53, 54, 55, 56, 57, 58, 2] (by decide) (by kernel_rfl) rfl (by kernel_rfl) rfl (FRo cc w.heap.size x0 x2 x3 b4 [] P4) (FRo_mono cc w.heap.size x0 x2 x3 b4 [] P4) ?_ ?_
        · exact ⟨nmCall rfl rfl rfl ⟨#[114, 101, 115, 112, 111, 110, 115, 101]⟩ rfl (fun _ => rfl),
                faItem0 rfl rfl rfl rfl (by decide) (w.heap.size) rfl (fun _ => rfl),
                ldStr rfl rfl rfl (k := 1) rfl (by decide) rfl ⟨w.heap.size, 0, none⟩ x0 (fun _ _ h => h) qc0 (fun _ => rfl),
                hrCall rfl rfl rfl (k := 2) rfl (by decide) rfl x0 (fun _ _ h => h) (fun _ _ h => h),
                nmCall rfl rfl rfl ⟨#[112, 114, 111, 112, 115, 116, 97, 116]⟩ rfl (fun _ => rfl),
                mvOld rfl rfl rfl rfl (by decide) (.func (.func f4) #[] q4) rfl (fun W h => m4.out.below h),
                stCall rfl rfl rfl ⟨#[72, 84, 84, 80, 47, 49, 46, 49, 32, 50, 48, 48, 32, 79, 75]⟩ rfl (fun _ _ h => h),
                bs2 rfl rfl rfl (k := 5) (k' := 6) rfl (by decide) rfl (by decide) rfl (P4) (full 1 statusS (⟨#[72, 84, 84, 80, 47, 49, 46, 49, 32, 50, 48, 48, 32, 79, 75]⟩ : ByteArray).data.toList) (fun _ _ h => h) (fun _ _ h => h) (fun _ _ h => h),
                arCall rfl rfl rfl (k := 4) (k' := 7) rfl (by decide) rfl (by decide) rfl 1 ⟨#[112, 114, 111, 112, 115, 116, 97, 116]⟩ [P4, full 1 statusS (⟨#[72, 84, 84, 80, 47, 49, 46, 49, 32, 50, 48, 48, 32, 79, 75]⟩ : ByteArray).data.toList] (fun _ _ h => h) (fun _ _ h => h) (fun _ _ h => h),
                bs2 rfl rfl rfl (k := 3) (k' := 8) rfl (by decide) rfl (by decide) rfl ((full 1 hrefS x0.data.toList)) ((el 1 (⟨#[112, 114, 111, 112, 115, 116, 97, 116]⟩ : ByteArray).data.toList ([P4, full 1 statusS (⟨#[72, 84, 84, 80, 47, 49, 46, 49, 32, 50, 48, 48, 32, 79, 75]⟩ : ByteArray).data.toList] : List (List Pc)).flatten)) (fun _ _ h => h) (fun _ _ h => h) (fun _ _ h => h),
                arCall rfl rfl rfl (k := 0) (k' := 9) rfl (by decide) rfl (by decide) rfl 1 ⟨#[114, 101, 115, 112, 111, 110, 115, 101]⟩ [(full 1 hrefS x0.data.toList), (el 1 (⟨#[112, 114, 111, 112, 115, 116, 97, 116]⟩ : ByteArray).data.toList ([P4, full 1 statusS (⟨#[72, 84, 84, 80, 47, 49, 46, 49, 32, 50, 48, 48, 32, 79, 75]⟩ : ByteArray).data.toList] : List (List Pc)).flatten)] (fun _ _ h => h) (fun _ _ h => h) (fun _ _ h => h),
                asNew rfl rfl rfl (k := 10) rfl (by decide) rfl (fun _ _ h => h), trivial⟩
        · intro u W hW hu
          have r1 : Mk cc W (u 2) _ := hu 11 2 rfl
          clear hu
          show K' _ _
          refine hK' _ _ (Met.intro (hJ _ _ ?_))
          unfold Rg.puts
          simp only [List.foldl_cons, List.foldl_nil, Act.put, List.setIfInBounds_toArray, List.set_cons_succ, List.set_cons_zero]
          repeat apply Exists.intro
          refine ⟨?rel5, rfl⟩
          exact ⟨Lib.hid (by rw [flat2, flat2, ← hP4'.out] at r1; rw [← hR'.out]; exact r1), Lib.hid (below_then hbS.out hW)⟩
      case rest =>
        obtain ⟨m2, hb2⟩ := hcut
        obtain ⟨f, caps, es⟩ := m2.out.form
        subst es
        go_wp2
        go_ret
        exact ⟨⟨_, rfl, m2.out⟩, hb2.out⟩
theorem response_any (x0 x2 x3 : ByteArray) (b1 b4 : Bool) (w : World) : Calls Tryz.prog 61 #[.agg #[.string x0, .bool b1, .string x2, .string x3, .bool b4]] w fun e w' => (∃ v, e = .returned v ∧ Mk cc w' v (pcI ⟨x0.data.toList, b1, x2.data.toList, x3.data.toList, b4⟩)) ∧ Below w.heap.size w w' := by
  cases b1
  · exact response_live x0 x2 x3 b4 w
  · exact response_gone x0 x2 x3 b4 w
end Go.Proofs.YtmmpojhjpghdlaaGreatDoor.Dv

/-
  MAKERS, GO ON: each (at items), telling.
-/
set_option linter.unusedVariables false
namespace Go.Proofs.YtmmpojhjpghdlaaGreatDoor.Dv
open Go.Lib Go.RowKit Rg
open Xm (Row Pc sv PsOwn PcsAt append_piece below_then sv_some left_of)

variable {cc : Nat}
theorem pcs_take {is : List It} {k : Nat} {i : It} (h : is[k]? = some i) : pcs (is.take (k + 1)) = pcs (is.take k) ++ pcI i := by
  obtain ⟨hl, hv⟩ := List.getElem?_eq_some_iff.1 h
  unfold pcs
  rw [List.take_succ_eq_append_getElem hl, List.flatMap_append, hv]; simp
theorem pcs_le (is : List It) (k : Nat) : (pcs (is.take k)).length ≤ (pcs is).length := by
  have h : pcs is = pcs (is.take k) ++ pcs (is.drop k) := by unfold pcs; rw [← List.flatMap_append, List.take_append_drop]
  rw [h, List.length_append]; omega
set_option maxHeartbeats 4000000 in
set_option maxRecDepth 100000 in
theorem each_do (v : Value) (is : List It) (g1 g2 : Nat) (W : World) (B : Nat) (rv : Value) (qs : List Pc) (hi : ItsAt cc W v is)
    (hg1 : W.heap[g1]? = some (.cells #[v] 39 (0, 0))) (hg2 : W.heap[g2]? = some (.cells #[.func (.func 61) #[] #[]] 114 (0, 0))) (hown : PsOwn B rv qs W) (hB : B ≤ W.heap.size) (hcB : cc ≤ B) (hl : qs.length + (pcs is).length ≤ 1099511627776) :
    Calls Tryz.prog 91 #[rv, .pointer (some ⟨g1, 0, none⟩), .pointer (some ⟨g2, 0, none⟩)] W fun e W' => ∃ rv', e = .returned rv' ∧ PsOwn B rv' (qs ++ pcs is) W' ∧ Below B W W' ∧ KeptP cc W W' := by
  have hF : ∀ w', KeptP cc W w' → w'.cell? ⟨g1, 0, none⟩ = some v ∧ w'.cell? ⟨g2, 0, none⟩ = some (.func (.func 61) #[] #[]) ∧ g2 < w'.heap.size := fun w' hk => by
    have h1 := hk.at hg1 (by decide)
    have h2 := hk.at hg2 (by decide)
    exact ⟨(Lib.cell_of_heap h1 0).trans rfl, (Lib.cell_of_heap h2 0).trans rfl, (Array.getElem?_eq_some_iff.1 h2).1⟩
  have hef := enters_of Tryz.func61 (by kernel_rfl) rfl
  have hfl := pcs_le is
  have hft := fun k i => @pcs_take is k i
  obtain ⟨A, b, off, c0, rfl, hn1, hn2, hn3, hn4⟩ := hi
  obtain ⟨N, hN⟩ : ∃ N, is.length = N := ⟨_, rfl⟩
  rw [hN] at hn1 hn3 hF hg1
  have hcl : ∀ (k : Nat) w', KeptP cc W w' → k < N → ∃ i, A = some ⟨b, off, none⟩ ∧ is[k]? = some i ∧ ItCells w' b (off + k * 5) i := fun k w' hk hlt => by
    have hps : is[k]? = some (is[k]'(by omega)) := List.getElem?_eq_getElem _
    obtain ⟨q1, q2, q3⟩ := hn3 (by omega)
    exact ⟨_, q1, hps, (hn4 k _ hps).same (hk.low b q2 q3)⟩
  obtain ⟨k1, k2, k3⟩ := hF W (KeptP.refl W)
  have hown' := Lib.hid hown
  have hF' := Lib.hid hF
  have hfl' := Lib.hid hfl
  have hft' := Lib.hid hft
  have hcl' := Lib.hid hcl
  have hN' := Lib.hid hN
  unfold maxLen at hn2
  obtain ⟨ao, co, rfl⟩ := Xm.ownsRow_form hown
  clear hown hF hfl hft hcl hN hg1 hg2 hn3 hn4
  go_enter Tryz.func91, Tryz.ntmps91
  go_wp2
  go_loopw [0, 9] (fun s0 s9 wr => ∃ k : Nat, s9 = .int .i64 (k : Int) ∧ k ≤ N ∧ Hid (PsOwn B s0 (qs ++ pcs (is.take k)) wr) ∧ Hid (Below B W wr) ∧ Hid (KeptP cc W wr)) (fun s0 s9 wr => N - (RowKit.intOf s9).toNat)
  case atStart => exact ⟨0, rfl, Nat.zero_le _, Lib.hid (by simpa [pcs] using hown'.out), Lib.hid (Below.refl _ _), Lib.hid (KeptP.refl _)⟩
  case round =>
    clear hown' k1 k2 k3
    obtain ⟨k, rfl, hk, hownr, hbr, hkr⟩ := hrel
    have hzr := Nat.le_trans hB hbr.out.size
    obtain ⟨as0, cs0, es⟩ := Xm.ownsRow_form hownr.out
    obtain ⟨M, hM⟩ : ∃ M, (qs ++ pcs (is.take k)).length = M := ⟨_, rfl⟩
    rw [hM] at es
    have hM' := Lib.hid hM
    clear hM
    subst es
    by_cases hlt : k < N
    · obtain ⟨i, rfl, hps, q0, q1, q2, q3, q4⟩ := hcl'.out k wr hkr.out hlt
      obtain ⟨x0, e0, d0⟩ := sv_some i.href
      obtain ⟨x2, e2, d2⟩ := sv_some i.tag
      obtain ⟨x3, e3, d3⟩ := sv_some i.data
      rw [e0] at q0
      rw [e2] at q2
      rw [e3] at q3
      obtain ⟨b1, hb1⟩ : ∃ b1, i.gone = b1 := ⟨_, rfl⟩
      obtain ⟨b4, hb4⟩ : ∃ b4, i.book = b4 := ⟨_, rfl⟩
      rw [hb1] at q1
      rw [hb4] at q4
      have hi0 := Lib.hid (show (⟨x0.data.toList, b1, x2.data.toList, x3.data.toList, b4⟩ : It) = i by rw [d0, d2, d3, ← hb1, ← hb4])
      have cR := Lib.hid (fun W => response_any (cc := cc) x0 x2 x3 b1 b4 W)
      obtain ⟨_, f1, f2⟩ := hF'.out wr hkr.out
      have hps' := Lib.hid hps
      clear e0 e2 e3 d0 d2 d3 hb1 hb4 hps
      have hbx : Below wr.heap.size wr (wr.alloc (.cells #[.string x0, .bool b1, .string x2, .string x3, .bool b4] 79)) := (Below.refl _ _).alloc (Nat.le_refl _) _
      have hbx' := Lib.hid hbx
      have hlk := hfl'.out (k + 1)
      rw [hft'.out k i hps'.out, List.length_append] at hlk
      have hlk' := Lib.hid (show (qs ++ pcs (is.take k)).length + (pcI i).length ≤ 1099511627776 by rw [List.length_append]; omega)
      clear hbx hlk
      go_wp2_with fail
      go_at_call 61
      with_reducible refine (cR.out _).mono ?_
      rintro e w3 ⟨⟨v3, rfl, m3⟩, hb3⟩
      rw [hi0.out] at m3
      have hb3' := Lib.hid (below_then hbx'.out hb3)
      have hown3 := Lib.hid (hownr.out.kept hb3'.out)
      obtain ⟨f, caps, rfl, hf, hdo⟩ := m3
      have hd := hdo w3 B _ _ (KeptP.refl _) hown3.out (Nat.le_trans hzr hb3'.out.size) hcB hlk'.out
      clear hdo hb3 q0 q1 q2 q3 q4 f1 f2 hbx' cR
      go_wp2_with (go_at_fn f; refine hd.mono ?_; rintro e w4 ⟨rv4, rfl, h4⟩)
      have h4' := Lib.hid h4
      clear h4 hd
      go_wp2
      go_roundw
      case rel =>
        obtain ⟨r1, r2, r3⟩ := h4'.out
        have hbB : Below B wr w3 := hb3'.out.mono hzr
        refine ⟨k + 1, by go_num, by omega, Lib.hid ?_, Lib.hid ((hbr.out.trans hbB).trans r2), Lib.hid ((hkr.out.trans (KeptP.of_below hb3'.out)).trans r3)⟩
        rw [hft'.out k i hps'.out, ← List.append_assoc]; exact r1
      case measure => simp [RowKit.intOf]; omega
    · have htk : is.take k = is := List.take_of_length_le (by have := hN'.out; omega)
      rw [htk] at hownr
      clear htk
      go_wp2
      go_ret
      exact ⟨_, rfl, hownr.out, hbr.out, hkr.out⟩
set_option maxHeartbeats 2000000 in
set_option maxRecDepth 100000 in
theorem each_any (v : Value) (is : List It) (w : World) (hi : ItsAt cc w v is) :
    Calls Tryz.prog 60 #[v, .func (.func 61) #[] #[]] w fun e w' => (∃ fv, e = .returned fv ∧ Mk cc w' fv (pcs is)) ∧ Below w.heap.size w w' := by
  have hi' := Lib.hid hi
  obtain ⟨A, k, rfl⟩ := hi.form
  obtain ⟨N, hN⟩ : ∃ N, is.length = N := ⟨_, rfl⟩
  rw [hN] at hi'
  rw [hN]
  clear hi hN
  go_enter Tryz.func60, Tryz.ntmps60
  go_wp2
  go_ret
  refine ⟨⟨_, rfl, 91, #[.pointer (some ⟨w.heap.size, 0, none⟩), .pointer (some ⟨w.heap.size + 1, 0, none⟩)], rfl, enters_of Tryz.func91 (by kernel_rfl) rfl, fun W B rv qs hW hown hB hcB hl => ?_⟩, below_two _ _ _⟩
  have hk : KeptP cc w W := (KeptP.of_below (below_two _ _ _)).trans hW
  exact each_do _ is w.heap.size (w.heap.size + 1) W B rv qs (hi'.out.same hk.size hk.low) (hW.at (heap_alloc2_old w _ _) (by decide)) (hW.at (heap_alloc2_new w _ _) (by decide)) hown hB hcB hl
end Go.Proofs.YtmmpojhjpghdlaaGreatDoor.Dv

/-
  HOW ELEMENTS LIE IN MEMORY: an element by value ('EV': its kids' slice as it stands), rows of them, wherever they read ('EsAt') and of the call's own ('EsOwn'); trees of them ('KidsAt', 'ElAt'), in blocks of which 'ok' holds.
-/
set_option linter.unusedVariables false
namespace Go.Proofs.YtmmpojhjpghdlaaGreatDoor.Dv
open Go.Lib Go.RowKit
open Xm (Row Pc sv PsOwn PcsAt below_then sv_some info_parts ownsRow_kept PcCells)

structure EV where
  s : Int
  n : Row
  t : Row
  k : Value
def ev (e : EV) : Value := .agg #[.int .i64 e.s, sv e.n, sv e.t, e.k]
def zeroEl : Value := .agg #[.int .i64 0, .string ⟨#[]⟩, .string ⟨#[]⟩, .slice none 0 0]
theorem infoEl : (Tryz.prog.info? 59).map (fun i => (i.zero, i.size, i.bytes)) = some (some zeroEl, 4, 64) := by kernel_rfl
def ecells : List EV → List Value
  | [] => []
  | e :: es => .int .i64 e.s :: sv e.n :: sv e.t :: e.k :: ecells es
theorem ecells_snoc : ∀ (es : List EV) (e : EV), ecells (es ++ [e]) = ecells es ++ [.int .i64 e.s, sv e.n, sv e.t, e.k]
  | [], _ => rfl
  | q :: es, e => by
    have := ecells_snoc es e
    simp only [List.cons_append, ecells, this]
theorem ecells_len : ∀ (es : List EV), (ecells es).length = es.length * 4
  | [] => rfl
  | e :: es => by
    have := ecells_len es
    simp only [ecells, List.length_cons]; omega
theorem ecells_at : ∀ (es : List EV) (j : Nat) (e : EV), es[j]? = some e →
    (ecells es)[j * 4]? = some (.int .i64 e.s) ∧ (ecells es)[j * 4 + 1]? = some (sv e.n) ∧ (ecells es)[j * 4 + 2]? = some (sv e.t) ∧ (ecells es)[j * 4 + 3]? = some e.k
  | [], j, e, h => by simp at h
  | q :: es, 0, e, h => by
    simp at h; subst h
    exact ⟨rfl, rfl, rfl, rfl⟩
  | q :: es, j + 1, e, h => by
    have := ecells_at es j e (by simpa using h)
    rw [show (j + 1) * 4 = j * 4 + 1 + 1 + 1 + 1 by omega]
    simpa [ecells] using this
def EsOwn (B : Nat) (v : Value) (es : List EV) (w : World) : Prop := w.ownsRow B 59 4 v es.length (ecells es)
theorem EsOwn.nil (B : Nat) (w : World) : EsOwn B (.slice none 0 0) [] w := World.ownsRow_nil w B _ 4
theorem EsOwn.kept {w w' : World} {B : Nat} {v : Value} {es : List EV} (h : EsOwn B v es w) (hb : Below w.heap.size w w') : EsOwn B v es w' := ownsRow_kept h hb
def EvCells (w : World) (b o : Nat) (e : EV) : Prop := w.cell? ⟨b, o, none⟩ = some (.int .i64 e.s) ∧ w.cell? ⟨b, o + 1, none⟩ = some (sv e.n) ∧ w.cell? ⟨b, o + 2, none⟩ = some (sv e.t) ∧ w.cell? ⟨b, o + 3, none⟩ = some e.k
theorem EvCells.same {w w' : World} {b o : Nat} {e : EV} (h : EvCells w b o e) (hb : w'.heap[b]? = w.heap[b]?) : EvCells w' b o e := by
  unfold EvCells
  have q : ∀ k, w'.cell? ⟨b, k, none⟩ = w.cell? ⟨b, k, none⟩ := fun k => World.cell?_of_block (a := ⟨b, k, none⟩) hb
  rw [q, q, q, q]
  exact h
/-- elements, wherever they read, in a block of which ok holds -/
def EsAt (ok : Nat → Prop) (w : World) (v : Value) (es : List EV) : Prop :=
  ∃ (A : Option Addr) (b off k : Nat), v = .slice A es.length k ∧ es.length ≤ k ∧ k ≤ maxLen ∧ (0 < es.length → A = some ⟨b, off, none⟩ ∧ ok b ∧ b < w.heap.size) ∧
    ∀ (j : Nat) (e : EV), es[j]? = some e → EvCells w b (off + j * 4) e
theorem EsAt.nil (ok : Nat → Prop) (w : World) : EsAt ok w (.slice none 0 0) [] := ⟨none, 0, 0, 0, rfl, Nat.le_refl _, Nat.zero_le _, fun h => absurd h (by simp), fun j p h => by simp at h⟩
theorem EsAt.same {ok : Nat → Prop} {w w' : World} {v : Value} {es : List EV} (h : EsAt ok w v es) (hz : w.heap.size ≤ w'.heap.size) (hb : ∀ k, ok k → k < w.heap.size → w'.heap[k]? = w.heap[k]?) : EsAt ok w' v es := by
  obtain ⟨A, b, off, k, h1, h2, h3, h4, h5⟩ := h
  refine ⟨A, b, off, k, h1, h2, h3, fun hl => ⟨(h4 hl).1, (h4 hl).2.1, Nat.lt_of_lt_of_le (h4 hl).2.2 hz⟩, fun j e hj => (h5 j e hj).same ?_⟩
  obtain ⟨_, q1, q2⟩ := h4 (by have := (List.getElem?_eq_some_iff.1 hj).1; omega)
  exact hb b q1 q2
theorem EsAt.mono {ok ok' : Nat → Prop} {w : World} {v : Value} {es : List EV} (h : EsAt ok w v es) (ho : ∀ k, ok k → k < w.heap.size → ok' k) : EsAt ok' w v es := by
  obtain ⟨A, b, off, k, h1, h2, h3, h4, h5⟩ := h
  exact ⟨A, b, off, k, h1, h2, h3, fun hl => ⟨(h4 hl).1, ho _ (h4 hl).2.1 (h4 hl).2.2, (h4 hl).2.2⟩, h5⟩
theorem EsAt.form {ok : Nat → Prop} {w : World} {v : Value} {es : List EV} (h : EsAt ok w v es) : ∃ A k, v = .slice A es.length k := by
  obtain ⟨A, b, off, k, h, _⟩ := h
  exact ⟨A, k, h⟩
theorem EsOwn.at {B : Nat} {v : Value} {es : List EV} {w : World} (h : EsOwn B v es w) : EsAt (fun b => some b = v.ownBlock) w v es := by
  obtain ⟨h1, h2 | ⟨g, cap, cur, e1, e2, e3, e4, e5, e6, e7⟩⟩ := h
  · obtain rfl : es = [] := List.eq_nil_of_length_eq_zero h2.2
    rw [h2.1]
    exact EsAt.nil _ _
  · refine ⟨_, g, 0, cap, e1, e4, e5, fun _ => ⟨rfl, by rw [e1]; rfl, (Array.getElem?_eq_some_iff.1 e3).1⟩, fun j p hj => ?_⟩
    have hlt := (List.getElem?_eq_some_iff.1 hj).1
    obtain ⟨c0, c1, c2, c3⟩ := ecells_at es j p hj
    have key : ∀ i x, i < es.length * 4 → (ecells es)[i]? = some x → w.cell? ⟨g, 0 + i, none⟩ = some x := fun i x hi hx => by
      rw [Lib.cell_of_heap e3, Nat.zero_add]
      have : (cur.toList.take (es.length * 4))[i]? = (ecells es)[i]? := by rw [e7]
      rw [List.getElem?_take, if_pos hi, hx] at this
      rw [← Array.getElem?_toList, this]
    have k1 := key (j * 4 + 1) _ (by omega) c1
    have k2 := key (j * 4 + 2) _ (by omega) c2
    have k3 := key (j * 4 + 3) _ (by omega) c3
    rw [← Nat.add_assoc] at k1 k2 k3
    exact ⟨key _ _ (by omega) c0, k1, k2, k3⟩
/-- one element more -/
theorem append_el {w0 : World} {ops : Array Oper} {rest : List Oper} {o : Oper} {a : Act} {Q : Exit → Act → World → Prop} (e : EV) (a1 a2 : ByteArray) (s0 : Int) (kA : Option Addr) (kn kc : Nat) (hs0 : e.s = s0) (h1 : sv e.n = .string a1) (h2 : sv e.t = .string a2) (h3 : e.k = .slice kA kn kc)
    (hgd : o.guard = none) (s xo : Operand) (ho : o.op = .call { callee := .builtin .append, args := #[s, xo], argTypes := #[57, 57] }) (base : Nat) (v : Value) (es : List EV) (g : Nat) (hgz : g = w0.heap.size) (hs : a.eval s = v) (hx : a.eval xo = .slice (some ⟨g, 0, none⟩) 1 1)
    (hown : EsOwn base v es w0) (hl : es.length ≤ 1099511627776) (hbase : base ≤ w0.heap.size)
    (h : ∀ h' cap w', EsOwn base (.slice (some ⟨h', 0, none⟩) (es.length + 1) cap) (es ++ [e]) w' → (w0.alloc (.cells #[.int .i64 s0, .string a1, .string a2, .slice kA kn kc] 59)).grownBy w' v.ownBlock → (v.ownBlock = some h' ∨ h' = w0.heap.size + 1) → h' < w'.heap.size →
      wpList Tryz.prog ops Q rest (a.put o.dst (.slice (some ⟨h', 0, none⟩) (es.length + 1) cap)) w') :
    wpList Tryz.prog ops Q (o :: rest) a (w0.alloc (.cells #[.int .i64 s0, .string a1, .string a2, .slice kA kn kc] 59)) := by
  obtain ⟨i0, hi, hz0, hz1, hz2⟩ := info_parts infoEl
  subst hgz
  subst hs0
  have hrow : w0.ownsRow base 59 4 v es.length (ecells es) := hown
  refine wpList_plain hgd fun K hK => ?_
  refine wp_append_lies _ s xo 57 ho base 59 i0 zeroEl 4 64 Tryz.underlying57 hi hz0 hz1 hz2 rfl (by decide) v es.length (ecells es) hs (World.ownsRow.alloc hrow _) ⟨w0.heap.size, 0, none⟩ 1 1 [.int .i64 e.s, .string a1, .string a2, .slice kA kn kc] hx rfl (fun j u hj => ?_) (fun u hu => ?_) (by decide) (by unfold maxLen; omega) (by omega) (by simp; omega) (w0.heap.size + 1) (by simp)
    (fun g cap w' h5 h6 h7 h8 => hK _ _ (h g cap w' ?_ h6 h7 h8))
  · match j, hj with
    | 0, hj => simp at hj; subst hj; simp [Addr.add]
    | 1, hj => simp at hj; subst hj; simp [Addr.add]
    | 2, hj => simp at hj; subst hj; simp [Addr.add]
    | 3, hj => simp at hj; subst hj; simp [Addr.add]
  · simp at hu
    rcases hu with rfl | rfl | rfl | rfl <;> rfl
  · unfold EsOwn
    rw [ecells_snoc, List.length_append, h1, h2, h3]
    exact h5
/-! ### trees -/
def Like (e : EV) (x : El) : Prop := e.s = x.s ∧ e.n = x.n ∧ e.t = x.t
inductive KidsAt (ok : Nat → Prop) (w : World) : Value → List El → Prop
  | mk (v : Value) (L : List EV) (es : List El) (h1 : EsAt ok w v L) (h2 : L.length = es.length) (h3 : ∀ (j : Nat) (e : EV) (x : El), L[j]? = some e → es[j]? = some x → Like e x)
      (h4 : ∀ (j : Nat) (e : EV) (x : El), L[j]? = some e → es[j]? = some x → KidsAt ok w e.k x.ks) : KidsAt ok w v es
theorem KidsAt.same {ok : Nat → Prop} {w w' : World} {v : Value} {es : List El} (h : KidsAt ok w v es) (hz : w.heap.size ≤ w'.heap.size) (hb : ∀ k, ok k → k < w.heap.size → w'.heap[k]? = w.heap[k]?) : KidsAt ok w' v es := by
  induction h with
  | mk v L es h1 h2 h3 h4 ih => exact .mk v L es (h1.same hz hb) h2 h3 ih
theorem KidsAt.mono {ok ok' : Nat → Prop} {w : World} {v : Value} {es : List El} (h : KidsAt ok w v es) (ho : ∀ k, ok k → k < w.heap.size → ok' k) : KidsAt ok' w v es := by
  induction h with
  | mk v L es h1 h2 h3 h4 ih => exact .mk v L es (h1.mono ho) h2 h3 ih
theorem KidsAt.keep {ok : Nat → Prop} {w w' : World} {v : Value} {es : List El} (h : KidsAt ok w v es) (hb : Below w.heap.size w w') : KidsAt ok w' v es := h.same hb.size fun k _ hk => hb.block k hk
theorem KidsAt.form {ok : Nat → Prop} {w : World} {v : Value} {es : List El} (h : KidsAt ok w v es) : ∃ A k, v = .slice A es.length k := by
  obtain ⟨_, L, _, h1, h2, _⟩ := h
  obtain ⟨A, k, h⟩ := h1.form
  exact ⟨A, k, by rw [h, h2]⟩
def ElAt (ok : Nat → Prop) (w : World) (v : Value) (x : El) : Prop := ∃ kv, v = .agg #[.int .i64 x.s, sv x.n, sv x.t, kv] ∧ KidsAt ok w kv x.ks
end Go.Proofs.YtmmpojhjpghdlaaGreatDoor.Dv

/-
  dav.element's named AND only: the elements that have one of the names.
-/
set_option linter.unusedVariables false
namespace Go.Proofs.YtmmpojhjpghdlaaGreatDoor.Dv
open Go.Lib Go.RowKit
open Xm (Row Pc sv PsOwn PcsAt PcCells below_then below_drewN sv_some sv_str info_parts ownsRow_kept fieldG field_run)

theorem fields_pr : (Tryz.prog.fieldsOf 24).toList.map fieldG = [(true, 22, 0), (true, 9, 1)] := by kernel_rfl
theorem two_of {L : List Field} {a b : Bool × TypeId × Nat} (h : L.map fieldG = [a, b]) : ∃ f0 f1, L = [f0, f1] ∧ fieldG f0 = a ∧ fieldG f1 = b := by
  rcases L with _ | ⟨f0, _ | ⟨f1, _ | ⟨f2, L⟩⟩⟩ <;> simp at h
  exact ⟨f0, f1, rfl, h.1, h.2⟩
set_option maxRecDepth 100000 in
theorem eq_pr (s1 s2 : Int) (n1 n2 : ByteArray) (W : World) : (Op.equalIn 10000 24 (.agg #[.int .i64 s1, .string n1]) (.agg #[.int .i64 s2, .string n2])).run Tryz.prog W = .ok (s1 == s2 && n1.toList == n2.toList) W := by
  rw [run_equalIn_struct W 9999 24 _ _ (by kernel_rfl) (by kernel_rfl)]
  obtain ⟨f0, f1, e, h0, h1⟩ := two_of fields_pr
  rw [e]
  rw [field_run h0 9999 _ _ _ W (by kernel_rfl) (.int .i64 s1) (.int .i64 s2) (s1 == s2) rfl rfl (run_equalIn_int W 9998 _ .i64 .i64 s1 s2 Tryz.underlying22)]
  rw [field_run h1 9999 _ _ _ W (by kernel_rfl) (.string n1) (.string n2) (n1.toList == n2.toList) rfl rfl (run_equalIn_string W 9998 _ n1 n2 Tryz.underlying9)]
  cases s1 == s2 <;> cases n1.toList == n2.toList <;> simp [Op.eqFields]
abbrev NB := Int × ByteArray
def nmR (q : NB) : Nm := (q.1, q.2.data.toList)
/-- a row of names -/
def NmsAt (w : World) (v : Value) (ns : List NB) : Prop :=
  ∃ b, v = .slice (some ⟨b, 0, none⟩) ns.length ns.length ∧ b < w.heap.size ∧ ns.length ≤ 100 ∧ ∀ (j : Nat) (q : NB), ns[j]? = some q → w.cell? ⟨b, j * 2, none⟩ = some (.int .i64 q.1) ∧ w.cell? ⟨b, j * 2 + 1, none⟩ = some (.string q.2)
theorem NmsAt.kept {w w' : World} {v : Value} {ns : List NB} (h : NmsAt w v ns) (hb : Below w.heap.size w w') : NmsAt w' v ns := by
  obtain ⟨b, h1, h2, h3, h4⟩ := h
  exact ⟨b, h1, Nat.lt_of_lt_of_le h2 hb.size, h3, fun j q hj => by rw [hb.cell (p := ⟨b, j * 2, none⟩) h2, hb.cell (p := ⟨b, j * 2 + 1, none⟩) h2]; exact h4 j q hj⟩
def hasN (ns : List NB) (s : Int) (n : Row) : Bool := (ns.map nmR).contains (s, n)
def eqN (s : Int) (n : ByteArray) (q : NB) : Bool := s == q.1 && n.toList == q.2.toList
theorem has_any (ns : List NB) (s : Int) (n : ByteArray) : hasN ns s n.data.toList = ns.any (eqN s n) := by
  unfold hasN
  rw [List.contains_eq_any_beq, List.any_map]
  congr 1
  funext q
  show ((s, n.data.toList) == (q.1, q.2.data.toList)) = _
  unfold eqN
  rw [Lib.toList_data, Lib.toList_data]
  rfl
set_option maxHeartbeats 4000000 in
set_option maxRecDepth 100000 in
theorem indexN (v : Value) (ns : List NB) (s : Int) (n : ByteArray) (w : World) (hv : NmsAt w v ns) :
    Calls Tryz.prog 53 #[v, .agg #[.int .i64 s, .string n]] w fun e w' => (∃ i : Int, e = .returned (.int .i64 i) ∧ hasN ns s n.data.toList = decide (0 ≤ i)) ∧ Below w.heap.size w w' := by
  rw [has_any]
  obtain ⟨b, rfl, hb, hl, hc⟩ := hv
  obtain ⟨N, hN⟩ : ∃ N, ns.length = N := ⟨_, rfl⟩
  rw [hN] at hl ⊢
  have hN' := Lib.hid hN
  have hc' := Lib.hid hc
  obtain ⟨R, hR⟩ : ∃ R, ns.any (eqN s n) = R := ⟨_, rfl⟩
  rw [hR]
  have hR' := Lib.hid hR
  obtain ⟨wB, hwB⟩ : ∃ wB, w.alloc (.cells #[.int .i64 s, .string n] 24) = wB := ⟨_, rfl⟩
  have hbB : Below w.heap.size w wB := by rw [← hwB]; exact (Below.refl _ _).alloc (Nat.le_refl _) _
  have hk : wB.heap[w.heap.size]? = some (.cells #[.int .i64 s, .string n] 24 (0, 0)) := by rw [← hwB]; exact heap_alloc_new w _
  have hF : Hid (∀ wr, Below wB.heap.size wB wr → wr.cell? ⟨w.heap.size, 0, none⟩ = some (.int .i64 s) ∧ wr.cell? ⟨w.heap.size, 1, none⟩ = some (.string n) ∧ w.heap.size < wr.heap.size ∧ Below w.heap.size w wr) := Lib.hid fun wr hr => by
    have h := (hr.block w.heap.size (Array.getElem?_eq_some_iff.1 hk).1).trans hk
    exact ⟨(Lib.cell_of_heap h 0).trans rfl, (Lib.cell_of_heap h 1).trans rfl, (Array.getElem?_eq_some_iff.1 h).1, hbB.trans (hr.mono hbB.size)⟩
  clear hN hc hR hbB hk
  go_enter Tryz.func53, Tryz.ntmps53
  go_wp2
  go_loopw [8] (fun s8 wr => ∃ k : Nat, s8 = .int .i64 (k : Int) ∧ k ≤ N ∧ Below wB.heap.size wB wr ∧ ∀ y ∈ ns.take k, eqN s n y = false) (fun s8 wr => N - (RowKit.intOf s8).toNat)
  case atStart => exact ⟨0, rfl, Nat.zero_le _, Below.refl _ _, fun y hy => by simp at hy⟩
  case round =>
    obtain ⟨k, rfl, hk, hbw, hall⟩ := hrel
    have hall' := Lib.hid hall
    clear hall
    obtain ⟨x0, x1, xz, xb⟩ := hF.out wr hbw
    by_cases hlt : k < N
    · have hv : ns[k]? = some (ns[k]'(by have := hN'.out; omega)) := List.getElem?_eq_getElem _
      obtain ⟨q, hQ⟩ : ∃ q, ns[k]'(by have := hN'.out; omega) = q := ⟨_, rfl⟩
      rw [hQ] at hv
      obtain ⟨c0, c1⟩ := hc'.out k q hv
      rw [← xb.cell (p := ⟨b, k * 2, none⟩) hb] at c0
      rw [← xb.cell (p := ⟨b, k * 2 + 1, none⟩) hb] at c1
      obtain ⟨q1, q2⟩ := q
      simp only at c0 c1
      have hE := eq_pr s q1 n q2
      have hv' := Lib.hid hv
      have xb' := Lib.hid xb
      clear hv hQ xb
      cases hq : eqN s n (q1, q2)
      · have hnx := Lib.hid (show ∀ y ∈ ns.take (k + 1), eqN s n y = false from by
          obtain ⟨hl, hvv⟩ := List.getElem?_eq_some_iff.1 hv'.out
          intro y hy
          rw [List.take_succ_eq_append_getElem hl, List.mem_append, List.mem_singleton, hvv] at hy
          rcases hy with hy | rfl
          · exact hall'.out y hy
          · exact hq)
        have hq2 : (s == q1 && n.toList == q2.toList) = false := hq
        rw [hq2] at hE
        clear hq hq2
        go_wp2
        go_quiet (fail)
        go_wp2
        go_roundw
        case rel => exact ⟨k + 1, by go_num, by omega, below_drewN _ hbw, hnx.out⟩
        case measure => simp [RowKit.intOf]; omega
      · have hq2 : (s == q1 && n.toList == q2.toList) = true := hq
        rw [hq2] at hE
        have hf := Lib.hid (show R = true by rw [← hR'.out]; exact List.any_eq_true.2 ⟨_, List.mem_of_getElem? hv'.out, hq⟩)
        clear hq hq2
        go_wp2
        go_quiet (fail)
        go_wp2
        go_ret
        exact ⟨⟨_, rfl, by rw [hf.out, decide_eq_true (by omega)]⟩, below_drewN _ xb'.out⟩
    · have hf := Lib.hid (show R = false by
        rw [← hR'.out, List.any_eq_false]
        intro y hy
        have := hall'.out
        rw [List.take_of_length_le (by have := hN'.out; omega)] at this
        rw [this y hy]; decide)
      have xb' := Lib.hid xb
      clear xb
      go_wp2
      go_ret
      exact ⟨⟨_, rfl, by rw [hf.out]; rfl⟩, xb'.out⟩
set_option maxHeartbeats 4000000 in
set_option maxRecDepth 100000 in
theorem containsN (v : Value) (ns : List NB) (s : Int) (n : ByteArray) (w : World) (hv : NmsAt w v ns) :
    Calls Tryz.prog 26 #[v, .agg #[.int .i64 s, .string n]] w fun e w' => e = .returned (.bool (hasN ns s n.data.toList)) ∧ Below w.heap.size w w' := by
  obtain ⟨wB, hwB⟩ : ∃ wB, w.alloc (.cells #[.int .i64 s, .string n] 24) = wB := ⟨_, rfl⟩
  have hbB : Below w.heap.size w wB := by rw [← hwB]; exact (Below.refl _ _).alloc (Nat.le_refl _) _
  have cI := indexN v ns s n wB (hv.kept hbB)
  have hk : wB.heap[w.heap.size]? = some (.cells #[.int .i64 s, .string n] 24 (0, 0)) := by rw [← hwB]; exact heap_alloc_new w _
  have k0 : wB.cell? ⟨w.heap.size, 0, none⟩ = some (.int .i64 s) := (Lib.cell_of_heap hk 0).trans rfl
  have k1 : wB.cell? ⟨w.heap.size, 1, none⟩ = some (.string n) := (Lib.cell_of_heap hk 1).trans rfl
  clear hk
  generalize hasN ns s n.data.toList = R at cI ⊢
  obtain ⟨b, rfl, _⟩ := hv
  obtain ⟨N, hN⟩ : ∃ N, ns.length = N := ⟨_, rfl⟩
  rw [hN] at cI ⊢
  have hbB' := Lib.hid hbB
  clear hN hbB
  go_enter Tryz.func26, Tryz.ntmps26
  go_wp2_with fail
  go_at_call 53
  with_reducible refine cI.mono ?_
  rintro e w' ⟨⟨i, rfl, hi⟩, hb⟩
  subst hi
  go_wp2
  go_ret
  exact ⟨rfl, below_then hbB'.out hb⟩
end Go.Proofs.YtmmpojhjpghdlaaGreatDoor.Dv
