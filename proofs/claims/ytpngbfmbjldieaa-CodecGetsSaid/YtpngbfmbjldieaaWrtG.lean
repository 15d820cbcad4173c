/-
  PutLog: the bytes of an entry of the log.
-/
import Derived.Test.YtpngbfmbjldieaaWrtF
set_option linter.unusedVariables false
namespace Go.Proofs.Ytpngbfmbjldieaa.Ly
open Go.Lib Go.RowKit
open Bo (Kp Row ownsRow_heap sv sv_data)
open Cd (RowsAt StrsAt IntsAt text_len flatN rows wrd wrd_len Com comB comC comV com0 okCom cod_com com0_ok Lg logV logB okLg kB kB_is kB_0 kB_1 kB_2 comB_len len_flat text_pos flat_len)

/-- what PutLog's two results say -/
def PutR (o : Option Row) (B : Nat) (v : Value) (er : Int) (w : World) : Prop :=
  match o with
  | some b => er = 0 ∧ BOwn B v b w
  | none => er = 31 ∧ v = .slice none 0 0
theorem putR_some {o : Option Row} {b x : Row} {B : Nat} {v : Value} {w : World} (hg : o = some b) (hx : x = b) (h : BOwn B v x w) : PutR o B v 0 w := by
  subst hg hx
  exact ⟨rfl, h⟩
set_option maxHeartbeats 16000000 in
set_option maxRecDepth 100000 in
theorem putLog_any (w : World) (l : Lg) (nv ds : Value) (ha : StrsAt w nv l.com.names) (hd : IntsAt w ds l.nodes) (ho : okLg l) (hL : 88 + l.com.book.length + l.com.name.length + l.com.data.length + l.com.mat.length + l.com.non.length + l.com.tok.length + flatN text l.com.names ≤ 35184372088832) (hD : l.nodes.length ≤ 1099511627776) :
    Calls Try.prog 26 #[logV l nv ds] w fun e w' => ∃ v er, e = .returned (.tuple #[v, .int .i64 er]) ∧ PutR (logB l) w.heap.size v er w' ∧ Below w.heap.size w w' := by
  obtain ⟨A, nb, off, cp, rfl, -, -, -, -⟩ := id ha
  obtain ⟨A2, mb, off2, cp2, rfl, -, -, -, -⟩ := id hd
  obtain ⟨w1, hw1⟩ : ∃ w1, w.alloc (.cells (lgC l (.slice A l.com.names.length cp) (.slice A2 l.nodes.length cp2)) 39) = w1 := ⟨_, rfl⟩
  have hb1 : Below w.heap.size w w1 := by rw [← hw1]; exact below_one _ _
  have hbox : w1.heap[w.heap.size]? = some (.cells (lgC l (.slice A l.com.names.length cp) (.slice A2 l.nodes.length cp2)) 39 (0, 0)) := by rw [← hw1]; exact heap_alloc_new w _
  have cF := formed_any w1 l _ _ (ha.kept hb1) (hd.kept hb1) ho (by omega)
  have hlt := (Array.getElem?_eq_some_iff.1 hbox).1
  obtain ⟨B, hB⟩ : ∃ B, w.heap.size = B := ⟨_, rfl⟩
  rw [hB] at hbox hlt ⊢
  obtain ⟨goal, hgoal⟩ : ∃ g, logB l = g := ⟨_, rfl⟩
  rw [hgoal] at cF ⊢
  have hk : (goal.isSome = true → (l.kind = 0 ∧ goal = some (wrd l.term ++ [0])) ∨ (l.kind = 1 ∧ goal = some (wrd l.term ++ ([1] ++ comB l.com))) ∨ (l.kind = 2 ∧ goal = some (wrd l.term ++ ([2] ++ rows wrd l.nodes)))) := fun h => by
    rw [← hgoal] at h ⊢
    unfold logB at h ⊢
    split at h
    · rename_i k; rw [if_pos k]; exact .inl ⟨k.1, rfl⟩
    split at h
    · rename_i k0 k; rw [if_neg k0, if_pos k]; exact .inr (.inl ⟨k.1, rfl⟩)
    split at h
    · rename_i k0 k1 k; rw [if_neg k0, if_neg k1, if_pos k]; exact .inr (.inr ⟨k.1, rfl⟩)
    · cases h
  have hc1 := Lib.hid (And.intro (ha.kept hb1) (hd.kept hb1))
  have hgoal' := Lib.hid hgoal
  have hbx : ∀ W, Below w1.heap.size w1 W → W.heap[B]? = some (.cells (lgC l (.slice A l.com.names.length cp) (.slice A2 l.nodes.length cp2)) 39 (0, 0)) := fun W h => (h.block B hlt).trans hbox
  have hbx' := Lib.hid hbx
  have hbox' := Lib.hid hbox
  have ha' := Lib.hid ha
  have hd' := Lib.hid hd
  have hlt' := Lib.hid hlt
  have d0 : w1.cell? ⟨B, 0, none⟩ = some (.int .i64 l.term) := Lib.cell_of_heap hbox 0
  have d1 : w1.cell? ⟨B, 1, none⟩ = some (.int .i64 l.kind) := Lib.cell_of_heap hbox 1
  have d2 : w1.cell? ⟨B, 2, none⟩ = some (.int .i64 l.com.op) := Lib.cell_of_heap hbox 2
  have d3 : w1.cell? ⟨B, 3, none⟩ = some (sv l.com.book) := Lib.cell_of_heap hbox 3
  have d4 : w1.cell? ⟨B, 4, none⟩ = some (sv l.com.name) := Lib.cell_of_heap hbox 4
  have d5 : w1.cell? ⟨B, 5, none⟩ = some (sv l.com.data) := Lib.cell_of_heap hbox 5
  have d6 : w1.cell? ⟨B, 6, none⟩ = some (sv l.com.mat) := Lib.cell_of_heap hbox 6
  have d7 : w1.cell? ⟨B, 7, none⟩ = some (sv l.com.non) := Lib.cell_of_heap hbox 7
  have d8 : w1.cell? ⟨B, 8, none⟩ = some (sv l.com.tok) := Lib.cell_of_heap hbox 8
  have d9 : w1.cell? ⟨B, 9, none⟩ = some (.slice A l.com.names.length cp) := Lib.cell_of_heap hbox 9
  have d10 : w1.cell? ⟨B, 10, none⟩ = some (.int .i64 l.com.pos) := Lib.cell_of_heap hbox 10
  have d11 : w1.cell? ⟨B, 11, none⟩ = some (.int .i64 l.com.ses) := Lib.cell_of_heap hbox 11
  have d12 : w1.cell? ⟨B, 12, none⟩ = some (.int .i64 l.com.seq) := Lib.cell_of_heap hbox 12
  have d13 : w1.cell? ⟨B, 13, none⟩ = some (.slice A2 l.nodes.length cp2) := Lib.cell_of_heap hbox 13
  unfold lgC at hw1
  unfold logV at cF ⊢
  have hB' := Lib.hid hB
  have hb1' := Lib.hid hb1
  clear hb1 hbox ha hd ho hgoal hbx
  cases hgs : goal.isSome
  · have hg0 : Hid (goal = none) := Lib.hid (by cases goal with | none => rfl | some x => cases hgs)
    rw [hgs] at cF
    clear hgs hk
    go_enter Try.func26, Try.ntmps26
    go_wp2_with fail
    go_at_call 42
    refine cF.mono ?_
    rintro e w2 ⟨rfl, hb2⟩
    have hF := Lib.hid (hb1'.out.trans (hb2.mono hb1'.out.size))
    rw [hB'.out] at hF
    clear hb2 cF
    go_wp2
    go_ret2
    exact ⟨_, _, rfl, by rw [hg0.out]; exact ⟨rfl, rfl⟩, hF.out⟩
  · have hk2 := hk hgs
    rw [hgs] at cF
    have hk2' := Lib.hid hk2
    clear hgs hk hk2
    go_enter Try.func26, Try.ntmps26
    go_wp2_with fail
    go_at_call 42
    refine cF.mono ?_
    rintro e w2 ⟨rfl, hb2⟩
    obtain ⟨w3, hw3⟩ : ∃ w3, w2.alloc (.cells #[.slice none 0 0] 81) = w3 := ⟨_, rfl⟩
    have hb3 : Below w2.heap.size w2 w3 := by rw [← hw3]; exact below_one _ _
    have hb13 := hb2.trans (hb3.mono hb2.size)
    have hBw : B ≤ w2.heap.size := by have := hb2.size; have := hlt'.out; omega
    have hA : WAt B w2.heap.size (.slice none 0 0) [] w3 := by rw [← hw3]; exact wat_new w2 _ hBw
    have hBB : B ≤ w3.heap.size := by have := hb3.size; omega
    have hB1 : w1.heap.size ≤ w2.heap.size := hb2.size
    obtain ⟨wb, hwb⟩ : ∃ wb, w2.heap.size = wb := ⟨_, rfl⟩
    rw [hwb] at hA hBw hB1
    have hlw : B < wb := by have := hlt'.out; omega
    have hbx3 := hbx'.out w3 hb13
    have hb3' := Lib.hid hb13
    have hA' := Lib.hid hA
    have hrow := Lib.hid fun (W : World) (v2 : Value) (l2 : Row) (hW : Wn B wb w3 W (.slice none 0 0) v2 l2) => (hW.block (Nat.lt_of_lt_of_le hlt'.out hb13.size) (by omega) (by simp [Value.ownBlock])).trans hbx3
    have hsrc := Lib.hid fun (W : World) (v2 : Value) (l2 : Row) (hW : Wn B wb w3 W (.slice none 0 0) v2 l2) => And.intro (And.intro (RowsAt.wn (hc1.out.1.kept hb13) hW (apart_low hA (by omega) ha'.out (by rw [hB'.out]; exact Nat.le_refl _))) (apart_on (hc1.out.1.kept hb13) (Below.refl _ _) (apart_low hA (by omega) ha'.out (by rw [hB'.out]; exact Nat.le_refl _)) hW)) (And.intro (RowsAt.wn (hc1.out.2.kept hb13) hW (apart_low hA (by omega) hd'.out (by rw [hB'.out]; exact Nat.le_refl _))) (apart_on (hc1.out.2.kept hb13) (Below.refl _ _) (apart_low hA (by omega) hd'.out (by rw [hB'.out]; exact Nat.le_refl _)) hW))
    have hbl := Lib.hid fun (W : World) (v2 : Value) (l2 : Row) (hW : Wn B wb w3 W (.slice none 0 0) v2 l2) => hW.below hA (show Below B w w3 by rw [← hB'.out]; exact hb1'.out.trans (hb13.mono hb1'.out.size)) hBB (by omega)
    have e0 : w3.cell? ⟨B, 0, none⟩ = some (.int .i64 l.term) := Lib.cell_of_heap hbx3 0
    have cN := numberW_any w3 B wb _ [] l.term hA (by simp) hBB
    rw [List.nil_append] at cN
    clear cF hb2 hb3 hb13 hA hbx3
    go_wp2_with fail
    go_at_call 43
    refine cN.mono ?_
    rintro e w4 ⟨rfl, v4, h4⟩
    have e1 : w4.cell? ⟨B, 1, none⟩ = some (.int .i64 l.kind) := Lib.cell_of_heap (hrow.out w4 _ _ h4) 1
    have cB := byteW_any w4 B wb v4 (wrd l.term) (kB l.kind) (IntKind.u8.wrap l.kind) (kB_is _) h4.at_ (by rw [wrd_len]; decide) (Nat.le_trans hBB h4.size)
    have h4' := Lib.hid h4
    clear cN h4 e0
    go_wp2_with fail
    go_at_call 44
    refine cB.mono ?_
    rintro e w5 ⟨rfl, v5, h5⟩
    have h5' := Lib.hid (h4'.out.then h5)
    obtain ⟨x5, hx5⟩ : ∃ x, wrd l.term ++ [kB l.kind] = x := ⟨_, rfl⟩
    rw [hx5] at h5'
    have hx5' := Lib.hid hx5
    have hx5l : x5.length = 9 := by rw [← hx5, List.length_append, wrd_len]; rfl
    have e1 : w5.cell? ⟨B, 1, none⟩ = some (.int .i64 l.kind) := Lib.cell_of_heap (hrow.out w5 _ _ h5'.out) 1
    clear cB h5 hx5
    rcases hk2'.out with ⟨hk, hg⟩ | ⟨hk, hg⟩ | ⟨hk, hg⟩
    · have g1 : (l.kind == 1) = false := by rw [hk]; rfl
      have g2 : (l.kind == 2) = false := by rw [hk]; rfl
      have hR := Lib.hid (show x5 = wrd l.term ++ [0] by rw [← hx5'.out, hk, kB_0])
      have hg' := Lib.hid hg
      have cY := bytesW_any w5 B wb v5 _ h5'.out.at_
      clear hk hg
      go_wp2_with fail
      go_at_call 40
      refine cY.mono ?_
      rintro e w6 ⟨rfl, e6⟩
      have hF := Lib.hid (And.intro h5'.out.at_.own (hbl.out w5 _ _ h5'.out))
      rw [← e6] at hF
      obtain ⟨a5, n5, c5, rfl⟩ : ∃ a n c, v5 = .slice a n c := by obtain ⟨a, c, e⟩ := hF.out.1.form; exact ⟨_, _, _, e⟩
      clear cY e6
      go_wp2
      go_ret2
      exact ⟨_, _, rfl, putR_some hg'.out hR.out hF.out.1, hF.out.2⟩
    · have g1 : (l.kind == 1) = true := by rw [hk]; rfl
      have hR := Lib.hid (show x5 ++ comB l.com = wrd l.term ++ ([1] ++ comB l.com) by rw [← hx5'.out, hk, kB_1, List.append_assoc])
      have hg' := Lib.hid hg
      have hbx5 := hrow.out w5 _ _ h5'.out
      have m2 : w5.cell? ⟨B, 2, none⟩ = some (.int .i64 l.com.op) := Lib.cell_of_heap hbx5 2
      have m3 : w5.cell? ⟨B, 3, none⟩ = some (sv l.com.book) := Lib.cell_of_heap hbx5 3
      have m4 : w5.cell? ⟨B, 4, none⟩ = some (sv l.com.name) := Lib.cell_of_heap hbx5 4
      have m5 : w5.cell? ⟨B, 5, none⟩ = some (sv l.com.data) := Lib.cell_of_heap hbx5 5
      have m6 : w5.cell? ⟨B, 6, none⟩ = some (sv l.com.mat) := Lib.cell_of_heap hbx5 6
      have m7 : w5.cell? ⟨B, 7, none⟩ = some (sv l.com.non) := Lib.cell_of_heap hbx5 7
      have m8 : w5.cell? ⟨B, 8, none⟩ = some (sv l.com.tok) := Lib.cell_of_heap hbx5 8
      have m9 : w5.cell? ⟨B, 9, none⟩ = some (.slice A l.com.names.length cp) := Lib.cell_of_heap hbx5 9
      have m10 : w5.cell? ⟨B, 10, none⟩ = some (.int .i64 l.com.pos) := Lib.cell_of_heap hbx5 10
      have m11 : w5.cell? ⟨B, 11, none⟩ = some (.int .i64 l.com.ses) := Lib.cell_of_heap hbx5 11
      have m12 : w5.cell? ⟨B, 12, none⟩ = some (.int .i64 l.com.seq) := Lib.cell_of_heap hbx5 12
      have cP := putCommand_any w5 B wb v5 x5 l.com _ (hsrc.out w5 _ _ h5'.out).1.1 (hsrc.out w5 _ _ h5'.out).1.2 h5'.out.at_ (by omega) (Nat.le_trans hBB h5'.out.size)
      unfold comV comC at cP
      clear hk hg hbx5
      go_wp2_with fail
      go_at_call 39
      refine cP.mono ?_
      rintro e w6 ⟨rfl, v6, h6⟩
      have h6' := Lib.hid (h5'.out.then h6)
      have cY := bytesW_any w6 B wb v6 _ h6.at_
      clear cP h6
      go_wp2_with fail
      go_at_call 40
      refine cY.mono ?_
      rintro e w7 ⟨rfl, e7⟩
      have hF := Lib.hid (And.intro h6'.out.at_.own (hbl.out w6 _ _ h6'.out))
      rw [← e7] at hF
      obtain ⟨a6, n6, c6, rfl⟩ : ∃ a n c, v6 = .slice a n c := by obtain ⟨a, c, e⟩ := hF.out.1.form; exact ⟨_, _, _, e⟩
      clear cY e7
      go_wp2
      go_ret2
      exact ⟨_, _, rfl, putR_some hg'.out hR.out hF.out.1, hF.out.2⟩
    · have g1 : (l.kind == 1) = false := by rw [hk]; rfl
      have g2 : (l.kind == 2) = true := by rw [hk]; rfl
      have hR := Lib.hid (show x5 ++ rows wrd l.nodes = wrd l.term ++ ([2] ++ rows wrd l.nodes) by rw [← hx5'.out, hk, kB_2, List.append_assoc])
      have hg' := Lib.hid hg
      have hbx5 := hrow.out w5 _ _ h5'.out
      have m13 : w5.cell? ⟨B, 13, none⟩ = some (.slice A2 l.nodes.length cp2) := Lib.cell_of_heap hbx5 13
      have hfl := flat_wrd l.nodes
      have cP := listIntW_any w5 B wb v5 x5 _ l.nodes (hsrc.out w5 _ _ h5'.out).2.1 (hsrc.out w5 _ _ h5'.out).2.2 h5'.out.at_ (by omega) (Nat.le_trans hBB h5'.out.size)
      clear hk hg hbx5 hfl
      go_wp2_with fail
      go_at_call 45
      refine cP.mono ?_
      rintro e w6 ⟨rfl, v6, h6⟩
      have h6' := Lib.hid (h5'.out.then h6)
      have cY := bytesW_any w6 B wb v6 _ h6.at_
      clear cP h6
      go_wp2_with fail
      go_at_call 40
      refine cY.mono ?_
      rintro e w7 ⟨rfl, e7⟩
      have hF := Lib.hid (And.intro h6'.out.at_.own (hbl.out w6 _ _ h6'.out))
      rw [← e7] at hF
      obtain ⟨a6, n6, c6, rfl⟩ : ∃ a n c, v6 = .slice a n c := by obtain ⟨a, c, e⟩ := hF.out.1.form; exact ⟨_, _, _, e⟩
      clear cY e7
      go_wp2
      go_ret2
      exact ⟨_, _, rfl, putR_some hg'.out hR.out hF.out.1, hF.out.2⟩
end Go.Proofs.Ytpngbfmbjldieaa.Ly
