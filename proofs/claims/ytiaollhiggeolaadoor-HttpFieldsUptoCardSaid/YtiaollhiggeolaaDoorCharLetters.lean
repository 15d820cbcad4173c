/-
  THE WALKS OF LETTERS: char.Lower, char.Upper, the reference's Lower and Upper, char.Same: for every string that a slice of bytes can hold.
-/
import Derived.Test.YtiaollhiggeolaaDoorProg
import Derived.Test.YtiaollhiggeolaaDoorCharPlain
import Derived.WalkKit
import Derived.WalkMore
import Derived.Below
import Derived.LoopTactic
import Derived.Laws.IdiomStrings
import Derived.Laws.MakeOwn
import Derived.Laws.OwnMore
import Derived.Outline
import Derived.Lib.Hide
import Derived.Lib.ItoaMem
set_option linter.unusedVariables false
namespace Go.Proofs.YtiaollhiggeolaaDoor.Ch
open Go.Lib Go.RowKit

/-! ### a row of bytes that is gone through -/
/-- The first k bytes of the row are f of those of s, the others are r's; below the row's block nothing has changed. -/
def RowF (f : UInt8 → UInt8) (r : Nat → UInt8) (s : ByteArray) (B k : Nat) (w0 w : World) : Prop :=
  Below B w0 w ∧ B < w.heap.size ∧ ∀ j (hj : j < s.data.size), w.cell? ⟨B, j, none⟩ = some (.int .u8 ((if j < k then f s.data[j] else r j).toNat : Int)) ∧ w.frozen? ⟨B, j, none⟩ = false
def rest (s : ByteArray) (j : Nat) : UInt8 := s.data[j]?.getD 0
theorem rest_at (s : ByteArray) (j : Nat) (hj : j < s.data.size) : rest s j = s.data[j] := by unfold rest; rw [Array.getElem?_eq_getElem hj]; rfl
theorem rowF_start (f : UInt8 → UInt8) (s : ByteArray) (w : World) (C : Array Value) (t : TypeId) (hC : ∀ j (hj : j < s.data.size), C[j]? = some (.int .u8 (s.data[j].toNat : Int))) (hsz : s.data.size ≤ C.size) :
    RowF f (rest s) s w.heap.size 0 w (w.alloc (.cells C t (C.size, C.size + 1))).drew := by
  refine ⟨((Below.refl _ _).alloc (Nat.le_refl _) _).drew, by simp, fun j hj => ⟨?_, ?_⟩⟩
  · show (w.alloc (.cells C t (C.size, C.size + 1))).cell? _ = _
    rw [World.cell?_alloc_mark, hC j hj, if_neg (Nat.not_lt_zero j), rest_at s j hj]
  · show (w.alloc (.cells C t (C.size, C.size + 1))).frozen? _ = _
    rw [World.frozen?_alloc_mark]
    simp
    omega
theorem rowF_made (f : UInt8 → UInt8) (s : ByteArray) (w w' : World) (t : TypeId) (hown : w'.ownsRow w.heap.size t 1 (.slice (some ⟨w.heap.size, 0, none⟩) s.data.size s.data.size) s.data.size (madeCells (Value.int .u8 0).cells (s.data.size * 1)).toList) (hg : w.grownBy w' none) :
    RowF f (fun _ => 0) s w.heap.size 0 w w' := by
  have hlt : w.heap.size < w'.heap.size := by
    rcases hown.2 with ⟨h', _⟩ | ⟨g', cap', cur, h', _, hg', _⟩
    · cases h'
    · injection h' with h1 _ _
      injection h1 with h1
      injection h1 with h1
      subst h1
      rcases Nat.lt_or_ge w.heap.size w'.heap.size with h | h
      · exact h
      · rw [Array.getElem?_eq_none h] at hg'; cases hg'
  refine ⟨(Below.refl _ _).grown hg (Nat.le_refl _) (fun _ h => by cases h), hlt, fun j hj => ⟨?_, hown.frozenAt j⟩⟩
  rw [hown.cellAt j (by omega), show (Value.int .u8 0).cells = #[Value.int .u8 0] from rfl, toList_madeCells_one, List.getElem?_replicate, if_pos (by rw [Nat.mul_one]; exact hj)]
  simp
theorem rowF_get {f : UInt8 → UInt8} {r : Nat → UInt8} {s : ByteArray} {B k : Nat} {w0 w : World} (h : RowF f r s B k w0 w) (hk : k < s.data.size) :
    w.cell? ⟨B, k, none⟩ = some (.int .u8 ((r k).toNat : Int)) ∧ w.frozen? ⟨B, k, none⟩ = false := by
  have := h.2.2 k hk
  rwa [if_neg (Nat.lt_irrefl k)] at this
theorem rowF_skip {f : UInt8 → UInt8} {r : Nat → UInt8} {s : ByteArray} {B k : Nat} {w0 w : World} (h : RowF f r s B k w0 w) (hk : k < s.data.size) (hf : f s.data[k] = r k) : RowF f r s B (k + 1) w0 w := by
  refine ⟨h.1, h.2.1, fun j hj => ?_⟩
  have := h.2.2 j hj
  by_cases hjk : j = k
  · subst hjk
    rw [if_neg (Nat.lt_irrefl j)] at this
    rw [if_pos (by omega), hf]
    exact this
  · by_cases hlt : j < k
    · rw [if_pos hlt] at this; rw [if_pos (by omega)]; exact this
    · rw [if_neg hlt] at this; rw [if_neg (by omega)]; exact this
theorem rowF_put {f : UInt8 → UInt8} {r : Nat → UInt8} {s : ByteArray} {B k : Nat} {w0 w : World} (h : RowF f r s B k w0 w) (hk : k < s.data.size) (z : Int) (hz : ((f s.data[k]).toNat : Int) = z) (hB : B = w0.heap.size) : RowF f r s B (k + 1) w0 (w.setCell ⟨B, k, none⟩ (.int .u8 z)) := by
  refine ⟨h.1.setCell (by subst hB; exact Nat.le_refl _) _, by simpa using h.2.1, fun j hj => ?_⟩
  have := h.2.2 j hj
  rw [World.frozen?_setCell]
  by_cases hjk : j = k
  · subst hjk
    rw [World.cell?_setCell_same _ _ _ this.1, if_pos (by omega), hz]
    exact ⟨rfl, this.2⟩
  · rw [World.cell?_setCell_other _ _ _ _ (by simp)]
    by_cases hlt : j < k
    · rw [if_pos hlt] at this; rw [if_pos (by omega)]; exact this
    · rw [if_neg hlt] at this; rw [if_neg (by omega)]; exact this
/-- Written twice at one place. -/
theorem rowF_put2 {f : UInt8 → UInt8} {r : Nat → UInt8} {s : ByteArray} {B k : Nat} {w0 w : World} (h : RowF f r s B k w0 w) (hk : k < s.data.size) (u : Value) (z : Int) (hz : ((f s.data[k]).toNat : Int) = z) (hB : B = w0.heap.size) : RowF f r s B (k + 1) w0 ((w.setCell ⟨B, k, none⟩ u).setCell ⟨B, k, none⟩ (.int .u8 z)) := by
  refine ⟨(h.1.setCell (by subst hB; exact Nat.le_refl _) _).setCell (by subst hB; exact Nat.le_refl _) _, by simpa using h.2.1, fun j hj => ?_⟩
  have := h.2.2 j hj
  rw [World.frozen?_setCell, World.frozen?_setCell]
  by_cases hjk : j = k
  · subst hjk
    rw [World.cell?_setCell_same _ _ _ (World.cell?_setCell_same _ _ _ this.1), if_pos (by omega), hz]
    exact ⟨rfl, this.2⟩
  · rw [World.cell?_setCell_other _ _ _ _ (by simp), World.cell?_setCell_other _ _ _ _ (by simp)]
    by_cases hlt : j < k
    · rw [if_pos hlt] at this; rw [if_pos (by omega)]; exact this
    · rw [if_neg hlt] at this; rw [if_neg (by omega)]; exact this
theorem rowF_text {f : UInt8 → UInt8} {r : Nat → UInt8} {s : ByteArray} {B : Nat} {w0 w : World} (h : RowF f r s B s.data.size w0 w) (cap : Nat) :
    (convert 52 9 (.slice (some ⟨B, 0, none⟩) s.data.size cap)).run Tryd.prog w = .ok (.string ⟨(s.data.toList.map f).toArray⟩) w := by
  have := run_convert_bytes_back (P := Tryd.prog) w 52 9 5 ⟨B, 0, none⟩ cap (s.data.toList.map f) Tryd.underlying52 Tryd.underlying5 Tryd.underlying9 (fun j hj => by
    have hj' : j < s.data.size := by simpa using hj
    have := (h.2.2 j hj').1
    rw [if_pos hj'] at this
    have e : (⟨B, 0, none⟩ : Addr).add j = ⟨B, j, none⟩ := Lib.add_plain B 0 j |>.trans (by rw [Nat.zero_add])
    rw [e, this]
    simp)
  rwa [List.length_map, Array.length_toList] at this
/-- '[]byte(s)': what it lays. -/
theorem bytes_new (w : World) (s : ByteArray) : ∃ (cap : Nat) (C : Array Value),
    (convert 9 52 (.string s)).run Tryd.prog w = .ok (.slice (some ⟨w.heap.size, 0, none⟩) s.size cap) (w.drew.alloc (.cells C 5 (C.size, C.size + 1))) ∧
    (∀ j (hj : j < s.data.size), C[j]? = some (.int .u8 (s.data[j].toNat : Int))) ∧ s.data.size ≤ C.size := by
  refine ⟨_, _, run_bytes_of_string w 9 52 5 s Tryd.underlying9 Tryd.underlying52 Tryd.underlying5, fun j hj => bytesRow_at s _ j hj, ?_⟩
  simp [bytesRow]
theorem info_u8 : (Tryd.prog.info? 5).map (fun i => (i.zero, i.size, i.bytes)) = some (some (.int .u8 0), 1, 1) := by kernel_rfl
/-- 'make([]byte, n)': what it lays. -/
theorem bytes_made (f : UInt8 → UInt8) (w : World) (s : ByteArray) (hs : s.size ≤ 281474976710656) : ∃ w',
    (Instr.makeSlice 52 (.int .i64 (s.data.size : Int)) (.int .i64 (s.data.size : Int))).run Tryd.prog w = .ok (.slice (some ⟨w.heap.size, 0, none⟩) s.data.size s.data.size) w' ∧ RowF f (fun _ => 0) s w.heap.size 0 w w' := by
  obtain ⟨i0, hi, hz0, hz1, hz2⟩ := info_parts info_u8
  have hss : s.size = s.data.size := rfl
  obtain ⟨w', h1, h2, h3⟩ := run_make_full (P := Tryd.prog) w w.heap.size 52 5 i0 (.int .u8 0) 1 Tryd.underlying52 hi hz0 hz1 .i64 .i64 s.data.size (by rw [hz2]; omega) (by unfold maxLen; omega) (Nat.le_refl _)
  exact ⟨w', h1, rowF_made f s w w' _ h2 h3⟩

set_option maxHeartbeats 1000000 in
set_option maxRecDepth 100000 in
theorem lower_any (s : ByteArray) (w : World) (hs : s.size ≤ 9223372036854775807) :
    Calls Tryd.prog 50 #[.string s] w fun e w' => e = .returned (.string ⟨(low s.data.toList).toArray⟩) ∧ Below w.heap.size w w' := by
  obtain ⟨cap, C, hconv, hC, hCs⟩ := bytes_new w s
  have hst := rowF_start lowB s w C 5 hC hCs
  have hst' := Lib.hid hst
  have hss : s.size = s.data.size := rfl
  obtain ⟨n, hn⟩ : ∃ n, s.data.size = n := ⟨_, rfl⟩
  have hsz : s.size = n := hn
  clear hC hCs hst
  rw [hsz] at hconv hs
  have hn' := Lib.hid hn
  clear hn hss hsz
  go_enter Tryd.func50, Tryd.ntmps50
  go_wp2
  go_loopw [10] (fun i wr => ∃ k : Nat, k ≤ n ∧ i = .int .i64 k ∧ RowF lowB (rest s) s w.heap.size k w wr) (fun i _ => n - (RowKit.intOf i).toNat)
  case atStart => exact ⟨0, Nat.zero_le _, rfl, hst'.out⟩
  case round =>
    obtain ⟨k, hk, rfl, hrow⟩ := hrel
    by_cases hlt : k < n
    · have hkd : k < s.data.size := by rw [hn'.out]; exact hlt
      have hgd : rest s k = s.data[k] := rest_at s k hkd
      obtain ⟨x, hx⟩ : ∃ x, s.data[k] = x := ⟨_, rfl⟩
      obtain ⟨g1, g2⟩ := rowF_get hrow hkd
      rw [hgd, hx] at g1
      have hx' := Lib.hid hx
      have hgd' := Lib.hid hgd
      have hxl := x.toNat_lt
      have HR := Lib.hid hrow
      clear hx hrow hgd
      by_cases h1 : 65 ≤ x.toNat
      · by_cases h2 : x.toNat ≤ 90
        · go_wp2
          go_roundw
          case rel => exact ⟨k + 1, by omega, by go_num, rowF_put HR.out hkd _ (by rw [hx'.out, lowB_yes x h1 h2]; omega) rfl⟩
          case measure => simp [RowKit.intOf]; omega
        · go_wp2
          go_roundw
          case rel => exact ⟨k + 1, by omega, by go_num, rowF_skip HR.out hkd (by rw [hgd'.out, hx'.out]; exact lowB_no x (by omega))⟩
          case measure => simp [RowKit.intOf]; omega
      · go_wp2
        go_roundw
        case rel => exact ⟨k + 1, by omega, by go_num, rowF_skip HR.out hkd (by rw [hgd'.out, hx'.out]; exact lowB_no x (by omega))⟩
        case measure => simp [RowKit.intOf]; omega
    · obtain rfl : k = n := by omega
      have ht := rowF_text (s := s) (by rw [hn'.out]; exact hrow) cap
      rw [hn'.out] at ht
      have hb := hrow.1
      clear hrow
      go_wp2
      go_ret
      exact ⟨rfl, hb⟩


set_option maxHeartbeats 1000000 in
set_option maxRecDepth 100000 in
theorem refLower_any (s : ByteArray) (w : World) (hs : s.size ≤ 281474976710656) :
    Calls Tryd.prog 20 #[.string s] w fun e w' => e = .returned (.string ⟨(low s.data.toList).toArray⟩) ∧ Below w.heap.size w w' := by
  obtain ⟨w1, hmk, hst⟩ := bytes_made lowB w s hs
  have hst' := Lib.hid hst
  have hss : s.size = s.data.size := rfl
  obtain ⟨n, hn⟩ : ∃ n, s.data.size = n := ⟨_, rfl⟩
  have hsz : s.size = n := hn
  have hs' : n ≤ 9223372036854775807 := by omega
  clear hst hs
  rw [hn] at hmk
  have hn' := Lib.hid hn
  clear hn hss
  go_enter Tryd.func20, Tryd.ntmps20
  go_wp2
  go_loopw [10] (fun i wr => ∃ k : Nat, k ≤ n ∧ i = .int .i64 k ∧ RowF lowB (fun _ => 0) s w.heap.size k w wr) (fun i _ => n - (RowKit.intOf i).toNat)
  case atStart => exact ⟨0, Nat.zero_le _, rfl, hst'.out⟩
  case round =>
    obtain ⟨k, hk, rfl, hrow⟩ := hrel
    by_cases hlt : k < n
    · have hkd : k < s.data.size := by rw [hn'.out]; exact hlt
      obtain ⟨x, hx⟩ : ∃ x, s.data[k] = x := ⟨_, rfl⟩
      obtain ⟨g1, g2⟩ := rowF_get hrow hkd
      have hxl := x.toNat_lt
      have HR := Lib.hid hrow
      clear hrow
      have hsk : s[k]'(hkd) = s.data[k] := rfl
      have hsk' := Lib.hid hsk
      clear hsk hx
      go_wp2
      · have c1 : 65 ≤ (s[k]'(hkd)).toNat := by omega
        have c2 : (s[k]'(hkd)).toNat ≤ 90 := by omega
        go_roundw
        case rel => exact ⟨k + 1, by omega, by go_num, rowF_put2 HR.out hkd _ _ (by rw [← hsk'.out, lowB_yes _ c1 c2]; omega) rfl⟩
        case measure => simp [RowKit.intOf]; omega
      · have c2 : ¬ (s[k]'(hkd)).toNat ≤ 90 := by omega
        go_roundw
        case rel => exact ⟨k + 1, by omega, by go_num, rowF_put HR.out hkd _ (by rw [← hsk'.out, lowB_no _ (fun h => c2 h.2)]) rfl⟩
        case measure => simp [RowKit.intOf]; omega
      · have c1 : ¬ 65 ≤ (s[k]'(hkd)).toNat := by omega
        go_roundw
        case rel => exact ⟨k + 1, by omega, by go_num, rowF_put HR.out hkd _ (by rw [← hsk'.out, lowB_no _ (fun h => c1 h.1)]) rfl⟩
        case measure => simp [RowKit.intOf]; omega
    · obtain rfl : k = n := by omega
      have ht := rowF_text (s := s) (by rw [hn'.out]; exact hrow) k
      rw [hn'.out] at ht
      have hb := hrow.1
      clear hrow
      go_wp2
      go_ret
      exact ⟨rfl, hb⟩


set_option maxHeartbeats 1000000 in
set_option maxRecDepth 100000 in
theorem same_any (s t : ByteArray) (w : World) (hs : s.size ≤ 9223372036854775807) (ht : t.size ≤ 9223372036854775807) :
    Calls Tryd.prog 33 #[.string s, .string t] w fun e w' => e = .returned (.bool (low s.data.toList == low t.data.toList)) ∧ Below w.heap.size w w' := by
  go_enter Tryd.func33, Tryd.ntmps33
  go_wp2_with fail
  go_at_call 50
  refine (lower_any s w hs).mono ?_
  rintro e w1 ⟨rfl, hb1⟩
  go_wp2_with fail
  go_at_call 50
  refine (lower_any t w1 ht).mono ?_
  rintro e w2 ⟨rfl, hb2⟩
  go_wp2
  go_ret
  exact ⟨rfl, hb1.trans (hb2.mono (Nat.le_of_lt_succ (Nat.lt_succ_of_le hb1.size)))⟩
end Go.Proofs.YtiaollhiggeolaaDoor.Ch
