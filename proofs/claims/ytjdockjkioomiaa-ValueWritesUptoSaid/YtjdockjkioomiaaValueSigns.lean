/-
  THE LAW ValueSigns.
-/
import Derived.Test.YtjdockjkioomiaaValueFirst
set_option linter.unusedVariables false
namespace Go.Proofs.Ytjdockjkioomiaa.Va
open Go.Lib Go.RowKit Bu

theorem cat_data (a b c : ByteArray) (h : a ++ b = c) : c.data.toList = a.data.toList ++ b.data.toList := by rw [← h, ByteArray.data_append, Array.toList_append]
theorem cat_size (a b c : ByteArray) (h : a ++ b = c) : c.size = a.size + b.size := by rw [← h, ByteArray.size_append]
theorem put_size {s x : ByteArray} (h : x.data.toList = put s.data.toList) : x.size ≤ 2 * s.size := by
  rw [Lib.size_eq, h, Lib.size_eq]; exact put_len _
/-- one string in a slice -/
theorem str_at {w : World} {v : Value} {a : ByteArray} (h : StrsAt w v [a.data.toList]) : ∃ (b off c : Nat), v = .slice (some ⟨b, off, none⟩) 1 c ∧ 1 ≤ c ∧ c ≤ maxLen ∧ b < w.heap.size ∧ w.cell? ⟨b, off, none⟩ = some (.string a) := by
  obtain ⟨A, b, off, c, h1, h2, h3, h4, h5⟩ := h
  obtain ⟨rfl, hb⟩ := h4 (by simp)
  obtain ⟨u, hu, rfl⟩ := h5 0 _ rfl
  rw [sv_data] at hu
  exact ⟨b, off, c, h1, by simpa using h2, h3, hb, hu⟩
theorem list_at {w : World} {v : Value} {l : List Row} (h : ListsAt w v [l]) : ∃ (b off c : Nat) (u : Value), v = .slice (some ⟨b, off, none⟩) 1 c ∧ 1 ≤ c ∧ c ≤ maxLen ∧ b < w.heap.size ∧ w.cell? ⟨b, off, none⟩ = some u ∧ StrsAt w u l := by
  obtain ⟨A, b, off, c, h1, h2, h3, h4, h5⟩ := h
  obtain ⟨rfl, hb⟩ := h4 (by simp)
  obtain ⟨u, hu, hx⟩ := h5 0 _ rfl
  exact ⟨b, off, c, u, h1, by simpa using h2, h3, hb, hu, hx⟩

set_option maxHeartbeats 4000000 in
set_option maxRecDepth 100000 in
theorem signs_walk (a b : ByteArray) (w : World) (ha : a.size ≤ 1048576) (hb : b.size ≤ 1048576) :
    Calls Try.prog 6 #[.string a, .string b] w fun e w' => e = .returned (.bool true) ∧ Below w.heap.size w w' := by
  obtain ⟨x, hx⟩ := put_made a
  obtain ⟨y, hy⟩ := put_made b
  obtain ⟨ab, hab⟩ : ∃ z, a ++ b = z := ⟨_, rfl⟩
  obtain ⟨xy, hxy⟩ : ∃ z, x ++ y = z := ⟨_, rfl⟩
  have hsx := put_size hx
  have hsy := put_size hy
  have hsab := cat_size _ _ _ hab
  have hsxy := cat_size _ _ _ hxy
  have hz : xy.data.toList = put ab.data.toList := by rw [cat_data _ _ _ hxy, cat_data _ _ _ hab, put_append, hx, hy]
  have u0 : ¬ 9223372036854775807 < a.size + b.size := by omega
  have u1 : ¬ 9223372036854775807 < x.size + y.size := by omega
  have cx := fun W => put_is a x W hx (by omega)
  have cy := fun W => put_is b y W hy (by omega)
  have cz := fun W => put_is ab xy W hz (by omega)
  have cl := fun W => list_is x [a.data.toList] W (by omega) (by rw [hx]; exact list_put _)
  have cf := fun W => fields_is x [[a.data.toList]] W (by omega) (by rw [hx]; exact fields_put _)
  clear hx hy hz hsx hsy hsab hsxy
  go_enter Try.func6, Try.ntmps6
  go_wp2_with fail
  go_at_call 8
  refine (first_any w).mono ?_
  rintro e w1 ⟨rfl, hb1⟩
  go_wp2_with fail
  go_at_call 19
  refine (cx _).mono ?_
  rintro e w2 ⟨rfl, hb2⟩
  have hB2 := below_then hb1 hb2
  go_wp2_with fail
  go_at_call 11
  refine (cl _).mono ?_
  rintro e w3 ⟨⟨v3, rfl, ho3⟩, hb3⟩
  have hB3 := below_then hB2 hb3
  have h3 := ho3.at
  clear ho3 hb1 hb2 hb3 hB2
  go_wp2_with fail
  go_at_call 19
  refine (cx _).mono ?_
  rintro e w4 ⟨rfl, hb4⟩
  have hB4 := below_then hB3 hb4
  have h4 := h3.kept hb4
  clear h3 hb4 hB3
  go_wp2_with fail
  go_at_call 12
  refine (cf _).mono ?_
  rintro e w5 ⟨⟨v5, rfl, ho5⟩, hb5⟩
  have hB5 := below_then hB4 hb5
  have h5 := h4.kept hb5
  have g5 := LOwn.at ho5
  clear ho5 hb5 hB4 h4 cl cf
  go_wp2_with fail
  go_at_call 19
  refine (cz _).mono ?_
  rintro e w6 ⟨rfl, hb6⟩
  have hB6 := below_then hB5 hb6
  have h6 := h5.kept hb6
  have g6 := g5.kept hb6
  clear hb6 hB5 h5 g5
  go_wp2_with fail
  go_at_call 19
  refine (cx _).mono ?_
  rintro e w7 ⟨rfl, hb7⟩
  have hB7 := below_then hB6 hb7
  have h7 := h6.kept hb7
  have g7 := g6.kept hb7
  clear hb7 hB6 h6 g6
  go_wp2_with fail
  go_at_call 19
  refine (cy _).mono ?_
  rintro e w8 ⟨rfl, hb8⟩
  have hB8 := below_then hB7 hb8
  have h8 := h7.kept hb8
  have g8 := g7.kept hb8
  clear hb8 hB7 h7 g7 cx cy cz
  obtain ⟨p, o, c, rfl, k1, k2, k3, k4⟩ := str_at h8
  obtain ⟨p', o', c', u, rfl, m1, m2, m3, m4, m5⟩ := list_at g8
  obtain ⟨p2, o2, c2, rfl, n1, n2, n3, n4⟩ := str_at m5
  unfold maxLen at k2 m2 n2
  clear h8 g8 m5
  go_wp2_with fail
  go_ret
  exact ⟨rfl, hB8⟩
end Go.Proofs.Ytjdockjkioomiaa.Va
