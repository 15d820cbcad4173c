/-
  THE WALK OF THE PROGRAM's LAYER http: write.
-/
import Derived.Test.YtiaollhiggeolaaDoorHttpCodeJ
import Derived.Test.YtiaollhiggeolaaDoorBuild
set_option linter.unusedVariables false
namespace Go.Proofs.YtiaollhiggeolaaDoor.Ht
open Go.Lib Go.RowKit Go.Shelf Bu

theorem fdR_len (f : Fd) : (fdR f).length = f.1.length + f.2.length + 2 := by unfold fdR; simp; omega
theorem ends_rows : ∀ (fs : List Fd), (ends (fs.map fdR)).length ≤ 4 * szF fs
  | [] => Nat.zero_le _
  | f :: fs => by
    have := ends_rows fs
    have h := fdR_len f
    rw [szF_cons]
    simp only [List.map_cons, ends, List.length_append, List.length_cons]
    omega
theorem szF_take (fs : List Fd) (k : Nat) : szF (fs.take k) ≤ szF fs := by
  have e : szF fs = szF (fs.take k) + szF (fs.drop k) := by
    conv => lhs; rw [← List.take_append_drop k fs]
    unfold szF
    rw [List.map_append, List.sum_append]
  omega
/-- what is written so far -/
def soFar (row : Row) (fs : List Fd) : Row := ends (row :: fs.map fdR)
theorem soFar_nil (row : Row) : soFar row [] = row ++ [13, 10] := rfl
theorem soFar_snoc (row : Row) (fs : List Fd) (f : Fd) : soFar row (fs ++ [f]) = soFar row fs ++ (fdR f ++ [13, 10]) := by
  unfold soFar
  rw [List.map_append, ← List.cons_append, ends_append]; rfl
theorem soFar_len (row : Row) (fs : List Fd) : (soFar row fs).length ≤ row.length + 2 + 4 * szF fs := by
  unfold soFar
  have := ends_rows fs
  simp only [ends, List.length_append, List.length_cons]
  omega
theorem head_is (row : Row) (fs : List Fd) (n : Nat) : headR row fs n = soFar row fs ++ (clR n ++ [13, 10]) ++ [13, 10] := by
  unfold headR soFar
  rw [← List.cons_append, ends_append]; rfl
theorem write_bad {row : Row} {fs : List Fd} {body : Row} (h : prB fs = false) : write row fs body = ([], 80) := by
  unfold write
  rw [if_pos]
  unfold prB at h
  rcases Bool.and_eq_false_iff.1 h with h | h
  · exact .inl (by have := of_decide_eq_false h; omega)
  · exact .inr h
theorem write_ok {row : Row} {fs : List Fd} {body : Row} (h : prB fs = true) : write row fs body = if 8192 < (headR row fs body.length).length ∨ 65536 < body.length then ([], 11) else (headR row fs body.length ++ body, 0) := by
  unfold write
  rw [if_neg]
  unfold prB at h
  rw [Bool.and_eq_true] at h
  rintro (h2 | h2)
  · exact of_decide_eq_true h.1 h2
  · rw [h.2] at h2; cases h2
theorem bytes_len (l : Row) : (Lib.byteCells l).length = l.length := Lib.byteCells_length l
theorem bLen_any (B b : Nat) (l : Row) (w : World) (h : Bd B b l w) : Calls Tryd.prog 40 #[.pointer (some ⟨b, 0, none⟩)] w fun e w' => e = .returned (.int .i64 (l.length : Int)) ∧ w' = w := by
  have c := Tryd.Builder_Len_f B b (Lib.byteCells l) w h
  rw [bytes_len] at c
  exact c
set_option maxHeartbeats 8000000 in
set_option maxRecDepth 100000 in
theorem write_walk (row body : ByteArray) (v0 : Value) (fs : List Fd) (w : World) (h0 : FsAt w v0 fs) (hsz : row.size + body.size + szF fs ≤ 137438953472) (hsf : szF fs ≤ mostF) (hG : Gw w) :
    Calls Tryd.prog 23 #[.string row, v0, .string body] w fun e w' => e = .returned (.tuple #[sv (write row.data.toList fs body.data.toList).1, .int .i64 (write row.data.toList fs body.data.toList).2]) ∧ Below w.heap.size w w' := by
  have cP := printable_any v0 fs w h0 hsf
  have h0' := Lib.hid h0
  cases hpr : prB fs with
  | false =>
    have hfin := Lib.hid (show Ending.returned (.tuple #[.string ⟨#[]⟩, .int .i64 80]) = .returned (.tuple #[sv (write row.data.toList fs body.data.toList).1, .int .i64 (write row.data.toList fs body.data.toList).2]) by rw [write_bad hpr]; rfl)
    rw [hpr] at cP
    clear hpr h0
    go_enter Tryd.func23, Tryd.ntmps23
    go_wp2_with fail
    go_at_call 37
    with_reducible refine cP.mono ?_
    rintro e w1 ⟨rfl, hb1⟩
    go_wp2
    go_ret2
    exact ⟨hfin.out, hb1⟩
  | true =>
  have hwr := write_ok (row := row.data.toList) (body := body.data.toList) hpr
  rw [hpr] at cP
  obtain ⟨A, cap, rfl⟩ := h0.form
  obtain ⟨N, hN⟩ : ∃ N, fs.length = N := ⟨_, rfl⟩
  rw [hN] at cP h0' ⊢
  obtain ⟨y0, hy0⟩ : ∃ y, row ++ (⟨#[13, 10]⟩ : ByteArray) = y := ⟨_, rfl⟩
  have hyd := Lib.hid (show y0.data.toList = soFar row.data.toList [] by rw [cat_data hy0, soFar_nil])
  have m0 : ¬ 9223372036854775807 < row.size + (⟨#[13, 10]⟩ : ByteArray).size := by rw [show (⟨#[13, 10]⟩ : ByteArray).size = 2 from rfl]; omega
  have m0' : ¬ 9223372036854775807 < row.size + 2 := by omega
  have hyz : y0.size = row.size + 2 := by rw [cat_size hy0]; rfl
  have hN' := Lib.hid hN
  have hwr' := Lib.hid hwr
  have hrz : row.size = row.data.toList.length := Lib.size_eq row
  have hbz : body.size = body.data.toList.length := Lib.size_eq body
  have hrz' := Lib.hid hrz
  have hbz' := Lib.hid hbz
  clear hpr h0 hwr hN hrz hbz
  go_enter Tryd.func23, Tryd.ntmps23
  go_wp2_with fail
  go_at_call 37
  with_reducible refine cP.mono ?_
  rintro e w1 ⟨rfl, hb1⟩
  have hf1 := Lib.hid (h0'.out.kept hb1)
  have hb1' := Lib.hid hb1
  have hG1 := gw_keeps w w1 hG hb1
  have hBd := Bu.fresh w1
  have hb2 : Below w1.heap.size w1 (w1.alloc (.cells #[.pointer none, .slice none 0 0] 76)) := (Below.refl _ _).alloc (Nat.le_refl _) _
  have cW := Bu.write_any w1.heap.size w1.heap.size [] y0 _ hBd (by rw [hyz]; simp; omega) hb2.size
  rw [List.nil_append, hyd.out] at cW
  have hb2' := Lib.hid hb2
  have hG1' := Lib.hid hG1
  clear cP hb1 hb2 hBd hG hG1 h0'
  go_wp2_with fail
  go_at_call 38
  with_reducible refine cW.mono ?_
  rintro e w3 ⟨rfl, hBd3, hb3⟩
  have hb3' := Lib.hid (hb2'.out.trans hb3)
  have hBd3' := Lib.hid hBd3
  clear cW hb3 hBd3 hb2'
  go_wp2
  go_loopw [19] (fun s19 wr => ∃ k : Nat, s19 = .int .i64 (k : Int) ∧ k ≤ N ∧ Bd w1.heap.size w1.heap.size (soFar row.data.toList (fs.take k)) wr ∧ Below w1.heap.size w1 wr) (fun s19 wr => N - (RowKit.intOf s19).toNat)
  case atStart => exact ⟨0, rfl, Nat.zero_le _, hBd3'.out, hb3'.out⟩
  case round =>
    obtain ⟨k, rfl, hk, hBd, hbr⟩ := hrel
    have hBd' := Lib.hid hBd
    have hbr' := Lib.hid hbr
    clear hBd
    by_cases hlt : k < N
    · have hf : fs[k]? = some (fs[k]'(by have := hN'.out; omega)) := List.getElem?_eq_getElem _
      obtain ⟨F, hF⟩ : ∃ F, fs[k]'(by have := hN'.out; omega) = F := ⟨_, rfl⟩
      rw [hF] at hf
      obtain ⟨A2, b, off, c2, hA2, hc1, hc2, hA, hcell⟩ := hf1.out
      injection hA2 with hA2 hA4 hA3
      clear hA4
      subst hA2
      subst hA3
      unfold maxLen at hc2
      have hkb : k + 1 ≤ 2 ^ 63 - 1 := by have := hN'.out; omega
      obtain ⟨rfl, hg⟩ := hA (by have := hN'.out; omega)
      obtain ⟨a1, a2, d1, d2, c0, c1⟩ := FsAt.field hcell hg hbr hf
      have hz := szF_at hf
      have hz1 : a1.size + a2.size + 1 ≤ szF fs := by rw [Lib.size_eq, Lib.size_eq, d1, d2]; exact hz
      have hX2 : (wr.alloc (.cells #[.string a1, .string a2] 47)).heap[wr.heap.size]? = some (.cells #[.string a1, .string a2] 47 (0, 0)) := heap_alloc_new wr _
      have hB2 : Below wr.heap.size wr (wr.alloc (.cells #[.string a1, .string a2] 47)) := (Below.refl _ _).alloc (Nat.le_refl _) _
      obtain ⟨x0, x1, _, _⟩ := res2 hX2
      have cR := fieldRow_any a1 a2 (wr.alloc (.cells #[.string a1, .string a2] 47)) (by unfold mostF at hsf; omega)
      rw [d1, d2] at cR
      have hBd2 := Lib.hid (hBd'.out.kept hB2)
      have hb2 := Lib.hid (hbr'.out.trans (hB2.mono hbr.size))
      have hsn := soFar_snoc row.data.toList (fs.take k) F
      rw [← take_nx hf] at hsn
      have hsl := soFar_len row.data.toList (fs.take k)
      have hst := szF_take fs k
      have hfl := fdR_len F
      have hsn' := Lib.hid hsn
      have hNn := hN'.out
      have hlen : Hid (∀ x : ByteArray, x.data.toList = fdR (F.1, F.2) ++ [13, 10] → (soFar row.data.toList (fs.take k)).length + x.size ≤ 140737488355328) := Lib.hid fun x hx => by
        rw [Lib.size_eq, hx, List.length_append, hfl]
        have := hrz'.out
        simp
        unfold mostF at hsf
        omega
      clear hf hF hA hcell hz d1 d2 hX2 hB2 hsn hsl hst hfl hbr hNn
      go_wp2_with fail
      go_at_call 39
      with_reducible refine cR.mono ?_
      rintro e w4 ⟨⟨x, rfl, hx⟩, hb4⟩
      have hBd4 := hBd2.out.kept hb4
      have hb4' := Lib.hid (hb2.out.trans (hb4.mono hb2.out.size))
      have cW := Bu.write_any w1.heap.size w1.heap.size _ x w4 hBd4 (hlen.out x hx) hb4'.out.size
      rw [show x.data.toList = fdR F ++ [13, 10] from hx, ← hsn'.out] at cW
      clear x0 x1 c0 c1 cR hb4 hBd4 hBd2 hb2 hx hlen
      go_wp2_with fail
      go_at_call 38
      with_reducible refine cW.mono ?_
      rintro e w5 ⟨rfl, hBd5, hb5⟩
      have hBd5' := Lib.hid hBd5
      have hb5' := Lib.hid (hb4'.out.trans hb5)
      clear cW hBd5 hb5
      go_wp2
      go_roundw
      case rel => exact ⟨k + 1, by go_num, by omega, hBd5'.out, hb5'.out⟩
      case measure => simp [RowKit.intOf]; omega
    · have htk : fs.take k = fs := List.take_of_length_le (by have := hN'.out; omega)
      rw [htk] at hBd'
      clear htk
      have cD := decimal_any body.size wr (by omega) (gw_keeps w1 wr hG1'.out (by exact hbr'.out))
      go_wp2_with fail
      go_at_call 30
      with_reducible refine cD.mono ?_
      rintro e w4 ⟨⟨d, rfl, hd⟩, hb4⟩
      have hBd4 := Lib.hid (hBd'.out.kept hb4)
      have hb4' := Lib.hid (hbr'.out.trans (hb4.mono hbr.size))
      have hdl : d.size ≤ 20 := by
        rw [Lib.size_eq, hd, decDigits_length]
        rcases Nat.eq_zero_or_pos body.size with h | h
        · rw [nDigits_small (by omega)]; omega
        · have := Lib.numDigits_eq body.size h (by omega); split at this <;> omega
      have cR := fieldRow_any ⟨#[67, 111, 110, 116, 101, 110, 116, 45, 76, 101, 110, 103, 116, 104]⟩ d w4 (by rw [show (⟨#[67, 111, 110, 116, 101, 110, 116, 45, 76, 101, 110, 103, 116, 104]⟩ : ByteArray).size = 14 from rfl]; omega)
      have hcl : fdR ((⟨#[67, 111, 110, 116, 101, 110, 116, 45, 76, 101, 110, 103, 116, 104]⟩ : ByteArray).data.toList, d.data.toList) = clR body.size := by rw [hd]; rfl
      rw [hcl] at cR
      clear cD hb4 hd hcl hbr hBd'
      go_wp2_with fail
      go_at_call 39
      with_reducible refine cR.mono ?_
      rintro e w5 ⟨⟨x, rfl, hx⟩, hb5⟩
      have hBd5 := hBd4.out.kept hb5
      have hb5' := Lib.hid (hb4'.out.trans (hb5.mono hb4'.out.size))
      have hxl : x.size ≤ 50 := by
        rw [Lib.size_eq, hx, List.length_append]
        unfold clR
        rw [List.length_append, show clN.length = 14 from rfl]
        have h2 : (decDigits body.size).length ≤ 20 := by
          rw [decDigits_length]
          rcases Nat.eq_zero_or_pos body.size with h | h
          · rw [nDigits_small (by omega)]; omega
          · have := Lib.numDigits_eq body.size h (by omega); split at this <;> omega
        simp
        omega
      have hsl := soFar_len row.data.toList fs
      have hrz := hrz'.out
      unfold mostF at hsf
      have cW := Bu.write_any w1.heap.size w1.heap.size _ x w5 hBd5 (by omega) hb5'.out.size
      rw [hx] at cW
      obtain ⟨P, hP⟩ : ∃ P, soFar row.data.toList fs ++ (clR body.size ++ [13, 10]) = P := ⟨_, rfl⟩
      rw [hP] at cW
      have hPl : P.length ≤ 2199023255552 := by
        rw [← hP, List.length_append, ← hx, ← Lib.size_eq]
        omega
      have hP' := Lib.hid hP
      clear cR hb5 hBd5 hBd4 hb4' hx hxl hsl hP hrz
      go_wp2_with fail
      go_at_call 38
      with_reducible refine cW.mono ?_
      rintro e w6 ⟨rfl, hBd6, hb6⟩
      have hb6' := Lib.hid (hb5'.out.trans hb6)
      have cV := Bu.write_any w1.heap.size w1.heap.size P ⟨#[13, 10]⟩ w6 hBd6 (by rw [show (⟨#[13, 10]⟩ : ByteArray).size = 2 from rfl]; omega) hb6'.out.size
      obtain ⟨H, hH⟩ : ∃ H, P ++ (⟨#[13, 10]⟩ : ByteArray).data.toList = H := ⟨_, rfl⟩
      rw [hH] at cV
      have hHl : H.length = P.length + 2 := by rw [← hH, List.length_append]; rfl
      have hHr := Lib.hid (show headR row.data.toList fs body.data.toList.length = H by rw [head_is, ← hH, ← hP'.out, hbz'.out])
      clear cW hb6 hBd6 hb5' hH hP'
      go_wp2_with fail
      go_at_call 38
      with_reducible refine cV.mono ?_
      rintro e w7 ⟨rfl, hBd7, hb7⟩
      have hb7' := Lib.hid (hb6'.out.trans hb7)
      have hBd7' := Lib.hid hBd7
      have hwr := hwr'.out
      rw [hHr.out, ← hbz'.out] at hwr
      clear cV hb7 hBd7 hb6' hHr
      by_cases hbig : 65536 < body.size
      · have hfin := Lib.hid (show Ending.returned (.tuple #[.string ⟨#[]⟩, .int .i64 11]) = .returned (.tuple #[sv (write row.data.toList fs body.data.toList).1, .int .i64 (write row.data.toList fs body.data.toList).2]) by rw [hwr, if_pos (.inr hbig)]; rfl)
        clear hwr
        go_wp2
        go_ret2
        exact ⟨hfin.out, hb1'.out.trans (hb7'.out.mono hb1'.out.size)⟩
      have cN := bLen_any w1.heap.size w1.heap.size H w7 hBd7'.out
      by_cases hlong : 8192 < H.length
      · have hfin := Lib.hid (show Ending.returned (.tuple #[.string ⟨#[]⟩, .int .i64 11]) = .returned (.tuple #[sv (write row.data.toList fs body.data.toList).1, .int .i64 (write row.data.toList fs body.data.toList).2]) by rw [hwr, if_pos (.inl hlong)]; rfl)
        clear hwr
        go_wp2_with fail
        go_at_call 40
        with_reducible refine cN.mono ?_
        rintro e w8 ⟨rfl, rfl⟩
        go_wp2
        go_ret2
        exact ⟨hfin.out, hb1'.out.trans (hb7'.out.mono hb1'.out.size)⟩
      · have hfin := Lib.hid (show Ending.returned (.tuple #[.string ⟨(H ++ body.data.toList).toArray⟩, .int .i64 0]) = .returned (.tuple #[sv (write row.data.toList fs body.data.toList).1, .int .i64 (write row.data.toList fs body.data.toList).2]) by rw [hwr, if_neg (by omega)]; rfl)
        clear hwr
        go_wp2_with fail
        go_at_call 40
        with_reducible refine cN.mono ?_
        rintro e w8 ⟨rfl, rfl⟩
        have cU := Bu.write_any w1.heap.size w1.heap.size H body w8 hBd7'.out (by omega) hb7'.out.size
        clear cN hBd7'
        go_wp2_with fail
        go_at_call 38
        with_reducible refine cU.mono ?_
        rintro e w9 ⟨rfl, hBd9, hb9⟩
        have hb9' := Lib.hid (hb7'.out.trans hb9)
        have cT := Bu.text_any w1.heap.size w1.heap.size (H ++ body.data.toList) w9 hBd9 hb9'.out.size
        clear cU hb9 hBd9 hb7'
        go_wp2_with fail
        go_at_call 41
        with_reducible refine cT.mono ?_
        rintro e w10 ⟨rfl, _, hb10⟩
        have hb10' := Lib.hid (hb9'.out.trans hb10)
        clear cT hb10
        go_wp2
        go_ret2
        exact ⟨hfin.out, hb1'.out.trans (hb10'.out.mono hb1'.out.size)⟩
end Go.Proofs.YtiaollhiggeolaaDoor.Ht
