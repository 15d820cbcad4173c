/-
  THE LAW ValueReads.
-/
import Derived.Test.YtjdockjkioomiaaValueSame
import Derived.Test.YtjdockjkioomiaaValueJoins
import Derived.Test.YtjdockjkioomiaaValueRefLists
set_option linter.unusedVariables false
namespace Go.Proofs.Ytjdockjkioomiaa.Va
open Go.Lib Go.RowKit Bu

theorem signs_no (s : ByteArray) (w : World) (hs : s.size ≤ 1099511627776) (h : signs s.data.toList = none) :
    Calls Try.prog 9 #[.string s] w fun e w' => e = .returned (.tuple #[.slice none 0 0, .bool false]) ∧ Below w.heap.size w w' :=
  (refSigns_any s w hs).mono fun e w' ⟨h1, h2⟩ => ⟨by
    rcases h1 with ⟨_, h3⟩ | ⟨v, m, h3, rfl, h4⟩
    · exact h3
    · rw [h] at h3; exact absurd h3 (by simp), h2⟩
theorem quiet_add {P : Program} {f : FuncId} {args : Array Value} {w : World} {n : Nat} {v : Value}
    (h : Calls P f args (w.drewN n) fun e w' => e = .returned v ∧ ∃ m, w' = (w.drewN n).drewN m) :
    Calls P f args (w.drewN n) fun e w'' => e = .returned v ∧ ∃ m, w'' = w.drewN m :=
  h.mono fun _ _ ⟨he, m, hm⟩ => ⟨he, n + m, by rw [hm, World.drewN_drewN]⟩
theorem plain_is (v : Value) (l : List Sg) (x : ByteArray) (w : World) (h : SgsAt w v l) (hl : l.length ≤ 1099511627776) (hx : x.data.toList = plain l) :
    Calls Try.prog 15 #[v] w fun e w' => e = .returned (.string x) ∧ Below w.heap.size w w' :=
  (refPlain_any v l w h hl).mono fun e w' ⟨⟨y, h1, h2⟩, h3⟩ => ⟨by rw [h2, data_eq (h1.trans hx.symm)], h3⟩
theorem SgsAt.form {w : World} {v : Value} {l : List Sg} (h : SgsAt w v l) : ∃ A c, v = .slice A l.length c := by
  obtain ⟨A, _, _, c, h, _⟩ := h; exact ⟨A, c, h⟩
theorem RowAt.form {α : Type} {P : World → Value → α → Prop} {w : World} {v : Value} {l : List α} (h : RowAt P w v l) : ∃ A c, v = .slice A l.length c := by
  obtain ⟨A, _, _, c, h, _⟩ := h; exact ⟨A, c, h⟩

set_option maxHeartbeats 8000000 in
set_option maxRecDepth 100000 in
theorem reads_bad (s : ByteArray) (w : World) (hs : s.size ≤ 1048576) (h : signs s.data.toList = none) :
    Calls Try.prog 3 #[.string s] w fun e w' => e = .returned (.bool true) ∧ Below w.heap.size w w' := by
  have c1 := fun W => signs_no s W (by omega) h
  have c2 := fun W => text_no s W (by omega) (text_iff.2 h)
  have c3 := fun W => list_no s W (by omega) (list_iff.2 h)
  have c4 := fun W => fields_no s W (by omega) (fields_iff.2 h)
  clear h
  go_enter Try.func3, Try.ntmps3
  go_wp2_with fail
  go_at_call 8
  refine (first_any w).mono ?_
  rintro e w1 ⟨rfl, hb1⟩
  go_wp2_with fail
  go_at_call 9
  refine (c1 _).mono ?_
  rintro e w2 ⟨rfl, hb2⟩
  go_wp2_with fail
  go_at_call 10
  refine (c2 _).mono ?_
  rintro e w3 ⟨rfl, hb3⟩
  go_wp2_with fail
  go_at_call 11
  refine (c3 _).mono ?_
  rintro e w4 ⟨rfl, hb4⟩
  go_wp2_with fail
  go_at_call 12
  refine (c4 _).mono ?_
  rintro e w5 ⟨rfl, hb5⟩
  have hB := below_then (below_then (below_then (below_then hb1 hb2) hb3) hb4) hb5
  clear hb1 hb2 hb3 hb4 hb5 c1 c2 c3 c4
  go_wp2
  go_ret
  exact ⟨rfl, hB⟩

set_option maxHeartbeats 8000000 in
set_option maxRecDepth 100000 in
theorem reads_good (s : ByteArray) (l : List Sg) (w : World) (hs : s.size ≤ 1048576) (h : signs s.data.toList = some l) :
    Calls Try.prog 3 #[.string s] w fun e w' => e = .returned (.bool true) ∧ Below w.heap.size w w' := by
  obtain ⟨x, hx⟩ : ∃ x : ByteArray, x.data.toList = plain l := ⟨⟨(plain l).toArray⟩, by simp⟩
  have hll := signs_len _ _ l (Nat.le_refl _) h
  rw [← Lib.size_eq] at hll
  have c1 := fun W => signs_is s l W (by omega) h
  have c2 := fun W => text_is s x W (by omega) (by unfold text; rw [h, hx]; rfl)
  have c3 := fun W => list_is s (listS l) W (by omega) (by unfold list; rw [h]; rfl)
  have c4 := fun W => fields_is s (fldS l) W (by omega) (by unfold fields; rw [h]; rfl)
  have c5 := fun W => refList_any s l W (by omega) h
  have c6 := fun W => refFields_any s l W (by omega) h
  have hx' := Lib.hid hx
  clear h hx
  go_enter Try.func3, Try.ntmps3
  go_wp2_with fail
  go_at_call 8
  refine (first_any w).mono ?_
  rintro e w1 ⟨rfl, hb1⟩
  go_wp2_with fail
  go_at_call 9
  refine (c1 _).mono ?_
  rintro e w2 ⟨⟨v2, rfl, h2⟩, hb2⟩
  have hB2 := below_then hb1 hb2
  have p2 := h2.at
  clear h2 hb1 hb2 c1
  go_wp2_with fail
  go_at_call 10
  refine (c2 _).mono ?_
  rintro e w3 ⟨rfl, hb3⟩
  have hB3 := below_then hB2 hb3
  have p3 := p2.kept hb3
  clear p2 hB2 hb3 c2
  go_wp2_with fail
  go_at_call 11
  refine (c3 _).mono ?_
  rintro e w4 ⟨⟨v4, rfl, h4⟩, hb4⟩
  have hB4 := below_then hB3 hb4
  have p4 := p3.kept hb4
  have q4 := h4.at
  clear p3 hB3 hb4 c3 h4
  go_wp2_with fail
  go_at_call 12
  refine (c4 _).mono ?_
  rintro e w5 ⟨⟨v5, rfl, h5⟩, hb5⟩
  have hB5 := below_then hB4 hb5
  have p5 := p4.kept hb5
  have q5 := q4.kept hb5
  have r5 := LOwn.at h5
  clear p4 q4 hB4 hb5 c4 h5
  go_wp2_with fail
  go_at_call 13
  refine (c5 _).mono ?_
  rintro e w6 ⟨⟨v6, rfl, h6⟩, hb6⟩
  have hB6 := below_then hB5 hb6
  have p6 := p5.kept hb6
  have q6 := q5.kept hb6
  have r6 := r5.kept hb6
  have s6 := h6.at
  clear p5 q5 r5 hB5 hb6 c5 h6
  go_wp2_with fail
  go_at_call 14
  refine (c6 _).mono ?_
  rintro e w7 ⟨⟨v7, rfl, h7⟩, hb7⟩
  have hB7 := below_then hB6 hb7
  have p7 := p6.kept hb7
  have q7 := q6.kept hb7
  have r7 := r6.kept hb7
  have s7 := s6.kept hb7
  have t7 := LOwn.at h7
  clear p6 q6 r6 s6 hB6 hb7 c6 h7
  have c7 := plain_is v2 l x w7 p7 (by omega) hx'.out
  obtain ⟨pa, pc, rfl⟩ := p7.form
  clear p7
  go_wp2_with fail
  go_at_call 15
  refine c7.mono ?_
  rintro e w8 ⟨rfl, hb8⟩
  have hB8 := below_then hB7 hb8
  have q8 := q7.kept hb8
  have r8 := r7.kept hb8
  have s8 := s7.kept hb8
  have t8 := t7.kept hb8
  have c8 := refSame_any v4 v6 (listS l) w8 q8 s8
  obtain ⟨qa, qc, rfl⟩ := q8.form
  obtain ⟨sa, sc, rfl⟩ := s8.form
  clear q7 r7 s7 t7 hB7 hb8 c7 q8 s8
  obtain ⟨fs, hfs⟩ : ∃ fs, fldS l = fs := ⟨_, rfl⟩
  obtain ⟨ln, hln⟩ : ∃ ln, (listS l).length = ln := ⟨_, rfl⟩
  rw [hln] at c8 ⊢
  rw [hfs] at r8 t8
  obtain ⟨A, b, off, c, rfl, a1, a2, a3, a4⟩ := r8
  obtain ⟨B, b', off', c', rfl, b1, b2, b3, b4⟩ := t8
  obtain ⟨n, hn⟩ : ∃ n, fs.length = n := ⟨_, rfl⟩
  rw [hn] at a1 a3 b1 b3 ⊢
  unfold maxLen at a2 b2
  have hn' := Lib.hid hn
  have a3' := Lib.hid a3
  have a4' := Lib.hid a4
  have b3' := Lib.hid b3
  have b4' := Lib.hid b4
  clear hfs hln hn a3 a4 b3 b4
  go_wp2_with fail
  go_at_call 16
  refine c8.mono ?_
  rintro e w9 ⟨rfl, m9, hw9⟩
  have hB9 : Below w.heap.size w w9 := by rw [hw9]; exact below_drewN _ hB8
  have hb9 : Below w8.heap.size w8 w9 := by rw [hw9]; exact below_drewN _ (Below.refl _ _)
  clear hw9 c8 hB8
  go_wp2
  go_loopw [103] (fun s103 wr => ∃ k m : Nat, s103 = .int .i64 (k : Int) ∧ k ≤ n ∧ wr = w9.drewN m) (fun s103 wr => n - (RowKit.intOf s103).toNat)
  case atStart => exact ⟨0, 0, rfl, Nat.zero_le _, rfl⟩
  case round =>
    obtain ⟨k, m, rfl, hk, hwr⟩ := hrel
    have hwr' := Lib.hid hwr
    by_cases hlt : k < n
    · have hl : fs[k]? = some (fs[k]'(by have := hn'.out; omega)) := List.getElem?_eq_getElem _
      obtain ⟨f, hfe⟩ : ∃ f, fs[k]'(by have := hn'.out; omega) = f := ⟨_, rfl⟩
      rw [hfe] at hl
      obtain ⟨rfl, hg⟩ := a3'.out (by omega)
      obtain ⟨rfl, hg2⟩ := b3'.out (by omega)
      obtain ⟨u, hu, hsu⟩ := a4'.out k f hl
      obtain ⟨u2, hu2, hsu2⟩ := b4'.out k f hl
      have hb8r : Below w8.heap.size w8 wr := by rw [hwr]; exact below_drewN _ hb9
      rw [← hb8r.cell (p := ⟨b, off + k, none⟩) hg] at hu
      rw [← hb8r.cell (p := ⟨b', off' + k, none⟩) hg2] at hu2
      have cS := fun m => refSame_any u u2 f (wr.drewN m) (hsu.kept (below_drewN m hb8r)) (hsu2.kept (below_drewN m hb8r))
      obtain ⟨ua, uc, rfl⟩ := RowAt.form hsu
      obtain ⟨ub, ud, rfl⟩ := RowAt.form hsu2
      obtain ⟨fl, hfl⟩ : ∃ fl, f.length = fl := ⟨_, rfl⟩
      rw [hfl] at hu hu2 cS
      clear hfe hl hsu hsu2 hfl hwr
      go_wp2
      go_quiet ((go_at_call 16; exact quiet_add (cS _)))
      go_wp2
      go_roundw
      case rel => exact ⟨k + 1, _, by go_num, by omega, by rw [hwr'.out]; exact World.drewN_drewN _ _ _⟩
      case measure => simp [RowKit.intOf]; omega
    · clear hwr
      go_wp2
      go_ret
      exact ⟨rfl, by rw [hwr'.out]; exact below_drewN _ hB9⟩
theorem vreads_walk (s : ByteArray) (w : World) (hs : s.size ≤ 1048576) :
    Calls Try.prog 3 #[.string s] w fun e w' => e = .returned (.bool true) ∧ Below w.heap.size w w' := by
  cases h : signs s.data.toList with
  | none => exact reads_bad s w hs h
  | some l => exact reads_good s l w hs h
end Go.Proofs.Ytjdockjkioomiaa.Va
