import Derived.Test.YtmmpojhjpghdlaaGreatDoorMg4
import Derived.Test.YtmmpojhjpghdlaaGreatDoorMg5
import Derived.Test.YtmmpojhjpghdlaaGreatDoorMg3

/-
  THE WALK OF THE REFERENCE's Print, at pieces that are right.
-/
set_option linter.unusedVariables false
namespace Go.Proofs.YtmmpojhjpghdlaaGreatDoor.Xm
open Go.Lib Go.RowKit

theorem cat_data {x y z : ByteArray} (h : x ++ y = z) : z.data.toList = x.data.toList ++ y.data.toList := by rw [← h, ByteArray.data_append, Array.toList_append]
theorem cat_size {x y z : ByteArray} (h : x ++ y = z) : z.size = x.size + y.size := by rw [← h, ByteArray.size_append]
theorem name_vals (p : Pc) (a1 : ByteArray) (sp : Int) (d1 : a1.data.toList = p.name) (hsp : p.space = sp) (hs : 0 ≤ sp ∧ sp ≤ 2) (hl : a1.size ≤ 64) :
    ∃ y : ByteArray, ((sp = 0 ∧ y = a1) ∨ (sp = 1 ∧ (⟨#[68, 58]⟩ : ByteArray) ++ a1 = y) ∨ (sp = 2 ∧ (⟨#[67, 58]⟩ : ByteArray) ++ a1 = y)) ∧ y.data.toList = nm p ∧ y.size ≤ 66 := by
  have h3 : sp = 0 ∨ sp = 1 ∨ sp = 2 := by omega
  rcases h3 with h | h | h
  · exact ⟨a1, .inl ⟨h, rfl⟩, by unfold nm; rw [hsp, h, if_neg (by decide), if_neg (by decide)]; exact d1, by omega⟩
  · refine ⟨_, .inr (.inl ⟨h, rfl⟩), ?_, ?_⟩
    · unfold nm; rw [hsp, h, if_pos rfl, cat_data rfl, d1]; rfl
    · rw [cat_size rfl, show (⟨#[68, 58]⟩ : ByteArray).size = 2 from rfl]; omega
  · refine ⟨_, .inr (.inr ⟨h, rfl⟩), ?_, ?_⟩
    · unfold nm; rw [hsp, h, if_neg (by decide), if_pos rfl, cat_data rfl, d1]; rfl
    · rw [cat_size rfl, show (⟨#[67, 58]⟩ : ByteArray).size = 2 from rfl]; omega
theorem cells_p {W : World} {P : Nat} {k1 k2 : Int} {a1 a2 : ByteArray} {z : Nat × Nat} (h : W.heap[P]? = some (.cells #[.int .i64 k1, .int .i64 k2, .string a1, .string a2] 75 z)) :
    W.cell? ⟨P, 0, none⟩ = some (.int .i64 k1) ∧ W.cell? ⟨P, 1, none⟩ = some (.int .i64 k2) ∧ W.cell? ⟨P, 2, none⟩ = some (.string a1) ∧ W.cell? ⟨P, 3, none⟩ = some (.string a2) :=
  ⟨(Lib.cell_of_heap h 0).trans rfl, (Lib.cell_of_heap h 1).trans rfl, (Lib.cell_of_heap h 2).trans rfl, (Lib.cell_of_heap h 3).trans rfl⟩
theorem tn {x m : UInt8} {k : Int} (hm : (m.toNat : Int) = k) (h : x ≠ m) : ((x.toNat : Int) == k) = false := by subst hm; exact beq_eq_false_iff_ne.2 (fun e => h (UInt8.toNat_inj.1 (by omega)))
theorem was1_at {ps : List Pc} {k : Nat} {q : Pc} (h0 : 0 < k) (h : ps[k - 1]? = some q) : was1 ps k = decide (q.kind = 1) := by
  unfold was1
  rw [h]
  simp [h0]
theorem next_at {ps : List Pc} {k : Nat} {q : Pc} (h : ps[k + 1]? = some q) : nextC (ps.drop (k + 1)) = decide (q.kind = 2) := by
  rw [drop_next h]; rfl

set_option maxHeartbeats 8000000 in
set_option maxRecDepth 100000 in
theorem refPrint_any (v : Value) (ps : List Pc) (w : World) (hv : PcsAt w v ps) (hr : right ps = true) (hsz : (prX ps).length ≤ 1099511627776) :
    Calls Tryz.prog 13 #[v] w fun e w' => e = .returned (.string ⟨(prX ps).toArray⟩) ∧ Below w.heap.size w w' := by
  obtain ⟨A, b, off, c, rfl, hc1, hc2, hA, hP⟩ := hv
  unfold maxLen at hc2
  obtain ⟨n, hn⟩ : ∃ n, ps.length = n := ⟨_, rfl⟩
  obtain ⟨Z, hZ⟩ : ∃ Z, w.heap.size = Z := ⟨_, rfl⟩
  obtain ⟨T, hT⟩ : ∃ T, (⟨(prX ps).toArray⟩ : ByteArray) = T := ⟨_, rfl⟩
  rw [hn] at hc1 hA ⊢
  rw [hT]
  have hn' := Lib.hid hn
  have hP' := Lib.hid hP
  have hA' := Lib.hid hA
  have hR' := Lib.hid hr
  have hsz' := Lib.hid hsz
  have hZ' := Lib.hid hZ
  have hT' := Lib.hid hT
  clear hn hP hA hr hsz hZ hT
  go_enter Tryz.func13, Tryz.ntmps13
  go_wp2
  go_loopw [3, 10] (fun s3 s10 wr => ∃ k : Nat, s10 = .int .i64 (k : Int) ∧ k ≤ n ∧ BOwn Z s3 (preX ps k) wr ∧ Below Z w wr) (fun s3 s10 wr => n - (RowKit.intOf s10).toNat)
  case atStart => exact ⟨0, rfl, Nat.zero_le _, BOwn.nil _ _, by rw [← hZ'.out]; exact Below.refl _ _⟩
  case round =>
    obtain ⟨k, rfl, hk, hown, hB⟩ := hrel
    have hZr : Z ≤ wr.heap.size := by have := hB.size; rw [hZ'.out] at this; exact this
    by_cases hlt : k < n
    · have hp : ps[k]? = some (ps[k]'(by have := hn'.out; omega)) := List.getElem?_eq_getElem _
      obtain ⟨p, hPe⟩ : ∃ p, ps[k]'(by have := hn'.out; omega) = p := ⟨_, rfl⟩
      rw [hPe] at hp
      clear hPe
      obtain ⟨rfl, hAb⟩ := hA'.out (by omega)
      obtain ⟨a1, a2, d1, d2, p0, p1, p2, p3⟩ := PcsAt.piece hP'.out hAb (by rw [hZ'.out]; exact hB) hp
      have hat := rgt_at ps _ _ _ hR'.out k p hp
      have hpre := preX_succ hp
      have hlen := preX_le ps (k + 1)
      rw [hpre, List.length_append] at hlen
      have hlen' : (preX ps k).length ≤ 1099511627776 := by have := hsz'.out; omega
      obtain ⟨sp, hsp⟩ : ∃ sp, p.space = sp := ⟨_, rfl⟩
      obtain ⟨kd, hkd⟩ : ∃ kd, p.kind = kd := ⟨_, rfl⟩
      rw [hkd] at p0
      rw [hsp] at p1
      have hpre' := Lib.hid hpre
      obtain ⟨wp, hwp⟩ : ∃ wp, wr.alloc (.cells #[.int .i64 kd, .int .i64 sp, .string a1, .string a2] 75) = wp := ⟨_, rfl⟩
      have hO : wp.heap[wr.heap.size]? = some (.cells #[.int .i64 kd, .int .i64 sp, .string a1, .string a2] 75 (0, 0)) := by rw [← hwp]; exact heap_alloc_new wr _
      have hbp : Below wr.heap.size wr wp := by rw [← hwp]; exact (Below.refl _ _).alloc (Nat.le_refl _) _
      have hBp : Below Z w wp := hB.trans (hbp.mono hZr)
      have hown2 := hown.kept hbp
      have hZp : Z ≤ wp.heap.size := by have := hbp.size; omega
      clear hown hB hpre
      rcases hat with ⟨K, ho, q, hq⟩ | ⟨K, ho, hk0⟩ | ⟨K, ho⟩
      · obtain ⟨_, hs, hnb⟩ := tag_eq K ho
        rw [hsp] at hs
        have ht0 := tag_text ho
        have z2 : a2.size = 0 := by rw [Lib.size_eq, d2, ht0]; rfl
        have hl1 : a1.size ≤ 64 := by rw [Lib.size_eq, d1]; exact nameB_len hnb
        have hch : chunk (decide (k = 0)) (was1 ps k) p (ps.drop (k + 1)) = 60 :: nm p ++ (if k = 0 then declS else []) ++ (if q.kind = 2 then [47, 62] else [62]) := by
          have e1 : (decide (k = 0) = true) = (k = 0) := by simp
          have e2 : (decide (q.kind = 2) = true) = (q.kind = 2) := by simp
          rw [chunk_o (by rw [K]; decide), chunk_open K ht0, next_at hq]
          simp only [e1, e2, List.cons_append]
        obtain ⟨y, hy, yd, ys⟩ := name_vals p a1 sp d1 hsp hs hl1
        obtain ⟨y2, hy2⟩ : ∃ y2, (⟨#[60]⟩ : ByteArray) ++ y = y2 := ⟨_, rfl⟩
        have y2d := cat_data hy2
        have y2s := cat_size hy2
        rw [yd] at y2d
        rw [show (⟨#[60]⟩ : ByteArray).size = 1 from rfl] at y2s
        have m1 : ¬ 9223372036854775807 < (⟨#[60]⟩ : ByteArray).size + y.size := by rw [show (⟨#[60]⟩ : ByteArray).size = 1 from rfl]; omega
        have m1' : ¬ 9223372036854775807 < 1 + y.size := by omega
        have m2 : ¬ 9223372036854775807 < (⟨#[68, 58]⟩ : ByteArray).size + a1.size := by rw [show (⟨#[68, 58]⟩ : ByteArray).size = 2 from rfl]; omega
        have m2' : ¬ 9223372036854775807 < 2 + a1.size := by omega
        have m3 : ¬ 9223372036854775807 < (⟨#[67, 58]⟩ : ByteArray).size + a1.size := by rw [show (⟨#[67, 58]⟩ : ByteArray).size = 2 from rfl]; omega
        have hkd1 : kd = 1 := by rw [← hkd]; exact K
        subst hkd1
        have y2d' := Lib.hid y2d
        have ydl := yd
        have hch' := Lib.hid hch
        have hq' := Lib.hid hq
        have hown2' := Lib.hid hown2
        have hO' := Lib.hid hO
        have hBp' := Lib.hid hBp
        clear d1 d2 hp hlen hsp hkd K ho hnb ht0 hch hq y2d yd hs hown2 hbp hBp
        have hownp' := hown2'
        have hOp' := hO'
        clear hown2' hO'
        have hqk : k + 1 < n := by have := (List.getElem?_eq_some_iff.1 hq'.out).1; have := hn'.out; omega
        have hqI : (k : Int) + 1 < (n : Int) := by omega
        have hqc : Hid (∀ W, Below Z w W → W.cell? ⟨b, off + (k + 1) * 4, none⟩ = some (.int .i64 q.kind)) := Lib.hid fun W hW => ((hP'.out (k + 1) q hq'.out).kept hAb (by rw [hZ'.out]; exact hW)).1
        have hslen : (preX ps k).length + 200 ≤ 140737488355328 := by omega
        have hnml : (nm p).length = y.size := by rw [← ydl, Lib.size_eq]
        rcases hy with ⟨rfl, rfl⟩ | ⟨rfl, hy⟩ | ⟨rfl, hy⟩
        all_goals
          obtain ⟨c0, c1, c2, c3⟩ := cells_p hOp'.out
          obtain ⟨L1, hL1⟩ : ∃ L, preX ps k ++ (60 :: nm p) = L := ⟨_, rfl⟩
          have l1 : preX ps k ++ y2.data.toList = L1 ∧ L1.length ≤ 140737488355328 := ⟨by rw [y2d'.out]; exact hL1, by rw [← hL1, List.length_append, List.length_cons, hnml]; omega⟩
          have L1s : L1.length ≤ 1099511628776 := by rw [← hL1, List.length_append, List.length_cons, hnml]; omega
          go_wp2_with (at_builtin; refine append_text2 y2 rfl _ _ rfl Z _ (preX ps k) L1 rfl rfl l1.1 hownp'.out l1.2 hZp ?_)
          intro v1 w1 hown1 hst1
          have hB1' := Lib.hid (hst1.1 _ hBp'.out)
          have hO1' := Lib.hid (hst1.2 _ _ _ hOp'.out)
          have hZ1 : Z ≤ w1.heap.size := by have := hB1'.out.size; rw [hZ'.out] at this; exact this
          have hown1' := Lib.hid hown1
          clear hown1 hst1 c0 c1 c2 c3
          obtain ⟨c0, c1, c2, c3⟩ := cells_p hO1'.out
          by_cases hk0 : k = 0
          · have z0 : ((k : Int) == 0) = true := beq_iff_eq.2 (by omega)
            have z0n : (k == 0) = true := beq_iff_eq.2 hk0
            have hk0' := Lib.hid hk0
            clear hk0
            obtain ⟨L2, hL2⟩ : ∃ L, L1 ++ declS = L := ⟨_, rfl⟩
            have l2 : L1 ++ declS = L2 ∧ L2.length ≤ 140737488355328 := ⟨hL2, by rw [← hL2, List.length_append, show declS.length = 56 from rfl]; omega⟩
            have L2s : L2.length ≤ 1099511628976 := by rw [← hL2, List.length_append, show declS.length = 56 from rfl]; omega
            go_wp2_with (at_builtin; refine append_text2 _ rfl _ _ rfl Z _ L1 L2 rfl rfl l2.1 hown1'.out l2.2 hZ1 ?_)
            intro v2 w2 hown2 hst2
            have hB2' := Lib.hid (hst2.1 _ hB1'.out)
            have hO2' := Lib.hid (hst2.2 _ _ _ hO1'.out)
            have hZ2 : Z ≤ w2.heap.size := by have := hB2'.out.size; rw [hZ'.out] at this; exact this
            have hown2' := Lib.hid hown2
            clear hown2 hst2 c0 c1 c2 c3
            obtain ⟨c0, c1, c2, c3⟩ := cells_p hO2'.out
            have hqc2 := hqc.out w2 hB2'.out
            by_cases hq2 : q.kind = 2
            · obtain ⟨L3, hL3⟩ : ∃ L, L2 ++ [47] = L := ⟨_, rfl⟩
              have l3 : L2 ++ [47] = L3 ∧ L3.length ≤ 140737488355328 := ⟨hL3, by rw [← hL3, List.length_append, List.length_singleton]; omega⟩
              obtain ⟨L4, hL4⟩ : ∃ L, L3 ++ [62] = L := ⟨_, rfl⟩
              have l4 : L3 ++ [62] = L4 ∧ L4.length ≤ 140737488355328 := ⟨hL4, by rw [← hL4, ← hL3, List.length_append, List.length_append, List.length_singleton, List.length_singleton]; omega⟩
              have hfin : Hid (L4 = preX ps (k + 1)) := Lib.hid (by
                rw [hpre'.out, hch'.out, ← hL4, ← hL3, ← hL2, ← hL1, if_pos hk0'.out, if_pos hq2]; simp)
              rw [hq2] at hqc2
              clear hq2
              go_wp2_with (at_builtin; refine append_byte2 47 47 rfl rfl _ _ rfl Z _ L2 L3 l3.1 _ ?i8 rfl rfl hown2'.out l3.2 hZ2 ?_)
              case i8 => simp
              intro v3 w3 hown3 hst3
              have hB3' := Lib.hid (hst3.1 _ hB2'.out)
              have hO3' := Lib.hid (hst3.2 _ _ _ hO2'.out)
              have hZ3 : Z ≤ w3.heap.size := by have := hB3'.out.size; rw [hZ'.out] at this; exact this
              have hown3' := Lib.hid hown3
              clear hown3 hst3 c0 c1 c2 c3
              obtain ⟨c0, c1, c2, c3⟩ := cells_p hO3'.out
              go_wp2_with (at_builtin; refine append_byte2 62 62 rfl rfl _ _ rfl Z _ L3 L4 l4.1 _ ?i8 rfl rfl hown3'.out l4.2 hZ3 ?_)
              case i8 => simp
              intro v4 w4 hown4 hst4
              have hB4' := Lib.hid (hst4.1 _ hB3'.out)
              have hO4' := Lib.hid (hst4.2 _ _ _ hO3'.out)
              have hZ4 : Z ≤ w4.heap.size := by have := hB4'.out.size; rw [hZ'.out] at this; exact this
              have hown4' := Lib.hid hown4
              clear hown4 hst4 c0 c1 c2 c3
              obtain ⟨c0, c1, c2, c3⟩ := cells_p hO4'.out
              go_wp2_with fail
              go_loopw [3, 7] (fun s3 s7 wx => s3 = v4 ∧ s7 = .int .i64 0 ∧ wx = w4) (fun s3 s7 wx => 0)
              case atStart => exact ⟨rfl, rfl, rfl⟩
              case round =>
                obtain ⟨rfl, rfl, rfl⟩ := hrel
                go_wp2
                go_roundw
                case rel => exact ⟨k + 1, by go_num, by omega, by rw [← hfin.out]; exact hown4'.out, hB4'.out⟩
                case measure => simp [RowKit.intOf]; omega
            · obtain ⟨L4, hL4⟩ : ∃ L, L2 ++ [62] = L := ⟨_, rfl⟩
              have l4 : L2 ++ [62] = L4 ∧ L4.length ≤ 140737488355328 := ⟨hL4, by rw [← hL4, List.length_append, List.length_singleton]; omega⟩
              have hfin : Hid (L4 = preX ps (k + 1)) := Lib.hid (by
                rw [hpre'.out, hch'.out, ← hL4, ← hL2, ← hL1, if_pos hk0'.out, if_neg hq2]; simp)
              have n2 : (q.kind == 2) = false := beq_eq_false_iff_ne.2 hq2
              clear hq2
              go_wp2_with (at_builtin; refine append_byte2 62 62 rfl rfl _ _ rfl Z _ L2 L4 l4.1 _ ?i8 rfl rfl hown2'.out l4.2 hZ2 ?_)
              case i8 => simp
              intro v4 w4 hown4 hst4
              have hB4' := Lib.hid (hst4.1 _ hB2'.out)
              have hO4' := Lib.hid (hst4.2 _ _ _ hO2'.out)
              have hZ4 : Z ≤ w4.heap.size := by have := hB4'.out.size; rw [hZ'.out] at this; exact this
              have hown4' := Lib.hid hown4
              clear hown4 hst4 c0 c1 c2 c3
              obtain ⟨c0, c1, c2, c3⟩ := cells_p hO4'.out
              go_wp2_with fail
              go_loopw [3, 7] (fun s3 s7 wx => s3 = v4 ∧ s7 = .int .i64 0 ∧ wx = w4) (fun s3 s7 wx => 0)
              case atStart => exact ⟨rfl, rfl, rfl⟩
              case round =>
                obtain ⟨rfl, rfl, rfl⟩ := hrel
                go_wp2
                go_roundw
                case rel => exact ⟨k + 1, by go_num, by omega, by rw [← hfin.out]; exact hown4'.out, hB4'.out⟩
                case measure => simp [RowKit.intOf]; omega
          · have z0 : ((k : Int) == 0) = false := beq_eq_false_iff_ne.2 (by omega)
            have z0n : (k == 0) = false := beq_eq_false_iff_ne.2 hk0
            have hk0' := Lib.hid hk0
            clear hk0
            have hqc2 := hqc.out w1 hB1'.out
            by_cases hq2 : q.kind = 2
            · obtain ⟨L3, hL3⟩ : ∃ L, L1 ++ [47] = L := ⟨_, rfl⟩
              have l3 : L1 ++ [47] = L3 ∧ L3.length ≤ 140737488355328 := ⟨hL3, by rw [← hL3, List.length_append, List.length_singleton]; omega⟩
              obtain ⟨L4, hL4⟩ : ∃ L, L3 ++ [62] = L := ⟨_, rfl⟩
              have l4 : L3 ++ [62] = L4 ∧ L4.length ≤ 140737488355328 := ⟨hL4, by rw [← hL4, ← hL3, List.length_append, List.length_append, List.length_singleton, List.length_singleton]; omega⟩
              have hfin : Hid (L4 = preX ps (k + 1)) := Lib.hid (by
                rw [hpre'.out, hch'.out, ← hL4, ← hL3, ← hL1, if_neg hk0'.out, if_pos hq2]; simp)
              rw [hq2] at hqc2
              clear hq2
              go_wp2_with (at_builtin; refine append_byte2 47 47 rfl rfl _ _ rfl Z _ L1 L3 l3.1 _ ?i8 rfl rfl hown1'.out l3.2 hZ1 ?_)
              case i8 => simp
              intro v3 w3 hown3 hst3
              have hB3' := Lib.hid (hst3.1 _ hB1'.out)
              have hO3' := Lib.hid (hst3.2 _ _ _ hO1'.out)
              have hZ3 : Z ≤ w3.heap.size := by have := hB3'.out.size; rw [hZ'.out] at this; exact this
              have hown3' := Lib.hid hown3
              clear hown3 hst3 c0 c1 c2 c3
              obtain ⟨c0, c1, c2, c3⟩ := cells_p hO3'.out
              go_wp2_with (at_builtin; refine append_byte2 62 62 rfl rfl _ _ rfl Z _ L3 L4 l4.1 _ ?i8 rfl rfl hown3'.out l4.2 hZ3 ?_)
              case i8 => simp
              intro v4 w4 hown4 hst4
              have hB4' := Lib.hid (hst4.1 _ hB3'.out)
              have hO4' := Lib.hid (hst4.2 _ _ _ hO3'.out)
              have hZ4 : Z ≤ w4.heap.size := by have := hB4'.out.size; rw [hZ'.out] at this; exact this
              have hown4' := Lib.hid hown4
              clear hown4 hst4 c0 c1 c2 c3
              obtain ⟨c0, c1, c2, c3⟩ := cells_p hO4'.out
              go_wp2_with fail
              go_loopw [3, 7] (fun s3 s7 wx => s3 = v4 ∧ s7 = .int .i64 0 ∧ wx = w4) (fun s3 s7 wx => 0)
              case atStart => exact ⟨rfl, rfl, rfl⟩
              case round =>
                obtain ⟨rfl, rfl, rfl⟩ := hrel
                go_wp2
                go_roundw
                case rel => exact ⟨k + 1, by go_num, by omega, by rw [← hfin.out]; exact hown4'.out, hB4'.out⟩
                case measure => simp [RowKit.intOf]; omega
            · obtain ⟨L4, hL4⟩ : ∃ L, L1 ++ [62] = L := ⟨_, rfl⟩
              have l4 : L1 ++ [62] = L4 ∧ L4.length ≤ 140737488355328 := ⟨hL4, by rw [← hL4, List.length_append, List.length_singleton]; omega⟩
              have hfin : Hid (L4 = preX ps (k + 1)) := Lib.hid (by
                rw [hpre'.out, hch'.out, ← hL4, ← hL1, if_neg hk0'.out, if_neg hq2]; simp)
              have n2 : (q.kind == 2) = false := beq_eq_false_iff_ne.2 hq2
              clear hq2
              go_wp2_with (at_builtin; refine append_byte2 62 62 rfl rfl _ _ rfl Z _ L1 L4 l4.1 _ ?i8 rfl rfl hown1'.out l4.2 hZ1 ?_)
              case i8 => simp
              intro v4 w4 hown4 hst4
              have hB4' := Lib.hid (hst4.1 _ hB1'.out)
              have hO4' := Lib.hid (hst4.2 _ _ _ hO1'.out)
              have hZ4 : Z ≤ w4.heap.size := by have := hB4'.out.size; rw [hZ'.out] at this; exact this
              have hown4' := Lib.hid hown4
              clear hown4 hst4 c0 c1 c2 c3
              obtain ⟨c0, c1, c2, c3⟩ := cells_p hO4'.out
              go_wp2_with fail
              go_loopw [3, 7] (fun s3 s7 wx => s3 = v4 ∧ s7 = .int .i64 0 ∧ wx = w4) (fun s3 s7 wx => 0)
              case atStart => exact ⟨rfl, rfl, rfl⟩
              case round =>
                obtain ⟨rfl, rfl, rfl⟩ := hrel
                go_wp2
                go_roundw
                case rel => exact ⟨k + 1, by go_num, by omega, by rw [← hfin.out]; exact hown4'.out, hB4'.out⟩
                case measure => simp [RowKit.intOf]; omega
      · obtain ⟨_, hs, hnb⟩ := tag_eq K ho
        rw [hsp] at hs
        have ht0 := tag_text ho
        have hk1 : 0 < k := by
          rcases Nat.eq_zero_or_pos k with h | h
          · exact absurd rfl (hk0 h)
          · exact h
        have z2 : a2.size = 0 := by rw [Lib.size_eq, d2, ht0]; rfl
        have hl1 : a1.size ≤ 64 := by rw [Lib.size_eq, d1]; exact nameB_len hnb
        obtain ⟨M, hM⟩ : ∃ M, k - 1 = M := ⟨_, rfl⟩
        have hM1 : (k : Int) - 1 = (M : Int) := by omega
        have hq : ps[M]? = some (ps[M]'(by have := hn'.out; omega)) := List.getElem?_eq_getElem _
        obtain ⟨q, hqe⟩ : ∃ q, ps[M]'(by have := hn'.out; omega) = q := ⟨_, rfl⟩
        rw [hqe] at hq
        have hch : chunk (decide (k = 0)) (was1 ps k) p (ps.drop (k + 1)) = if q.kind = 1 then [] else 60 :: 47 :: (nm p ++ [62]) := by
          rw [decide_eq_false (by omega), was1_at hk1 (by rw [hM]; exact hq)]
          by_cases hq1 : q.kind = 1
          · rw [decide_eq_true hq1, if_pos hq1, chunk_shut K ht0]
          · rw [decide_eq_false hq1, if_neg hq1, chunk_close K ht0]
        obtain ⟨y, hy, yd, ys⟩ := name_vals p a1 sp d1 hsp hs hl1
        obtain ⟨y2, hy2⟩ : ∃ y2, (⟨#[60, 47]⟩ : ByteArray) ++ y = y2 := ⟨_, rfl⟩
        obtain ⟨y3, hy3⟩ : ∃ y3, y2 ++ (⟨#[62]⟩ : ByteArray) = y3 := ⟨_, rfl⟩
        have y2s := cat_size hy2
        rw [show (⟨#[60, 47]⟩ : ByteArray).size = 2 from rfl] at y2s
        have y3s := cat_size hy3
        rw [show (⟨#[62]⟩ : ByteArray).size = 1 from rfl] at y3s
        have y3d : y3.data.toList = 60 :: 47 :: (nm p ++ [62]) := by rw [cat_data hy3, cat_data hy2, yd]; simp
        have m1 : ¬ 9223372036854775807 < (⟨#[60, 47]⟩ : ByteArray).size + y.size := by rw [show (⟨#[60, 47]⟩ : ByteArray).size = 2 from rfl]; omega
        have m1' : ¬ 9223372036854775807 < 2 + y.size := by omega
        have m2 : ¬ 9223372036854775807 < (⟨#[68, 58]⟩ : ByteArray).size + a1.size := by rw [show (⟨#[68, 58]⟩ : ByteArray).size = 2 from rfl]; omega
        have m2' : ¬ 9223372036854775807 < 2 + a1.size := by omega
        have m3 : ¬ 9223372036854775807 < (⟨#[67, 58]⟩ : ByteArray).size + a1.size := by rw [show (⟨#[67, 58]⟩ : ByteArray).size = 2 from rfl]; omega
        have m4 : ¬ 9223372036854775807 < y2.size + (⟨#[62]⟩ : ByteArray).size := by rw [show (⟨#[62]⟩ : ByteArray).size = 1 from rfl]; omega
        have m4' : ¬ 9223372036854775807 < y2.size + 1 := by omega
        have hkd1 : kd = 2 := by rw [← hkd]; exact K
        subst hkd1
        have y3d' := Lib.hid y3d
        have hch' := Lib.hid hch
        have hownp' := Lib.hid hown2
        have hOp' := Lib.hid hO
        have hBp' := Lib.hid hBp
        have hqc : wp.cell? ⟨b, off + M * 4, none⟩ = some (.int .i64 q.kind) := ((hP'.out M q hq).kept hAb (by rw [hZ'.out]; exact hBp)).1
        have hslen : (preX ps k).length + 200 ≤ 140737488355328 := by omega
        clear d1 d2 hp hlen hsp hkd K ho hnb ht0 hch hq hqe hM y3d hs hown2 hbp hBp hO hk0
        by_cases hq1 : q.kind = 1
        · rw [hq1] at hqc
          have hfin : Hid (preX ps k = preX ps (k + 1)) := Lib.hid (by rw [hpre'.out, hch'.out, if_pos hq1, List.append_nil])
          clear hq1
          rcases hy with ⟨rfl, rfl⟩ | ⟨rfl, hy⟩ | ⟨rfl, hy⟩
          all_goals
            obtain ⟨c0, c1, c2, c3⟩ := cells_p hOp'.out
            go_wp2_with fail
            go_loopw [3, 7] (fun s3 s7 wx => BOwn Z s3 (preX ps k) wp ∧ s7 = .int .i64 0 ∧ wx = wp) (fun s3 s7 wx => 0)
            case atStart => exact ⟨hownp'.out, rfl, rfl⟩
            case round =>
              obtain ⟨hownx, rfl, rfl⟩ := hrel
              go_wp2
              go_roundw
              case rel => exact ⟨k + 1, by go_num, by omega, by rw [← hfin.out]; exact hownx, hBp'.out⟩
              case measure => simp [RowKit.intOf]; omega
        · have n1 : (q.kind == 1) = false := beq_eq_false_iff_ne.2 hq1
          have n1' : (q.kind != 1) = true := by unfold bne; rw [n1]; rfl
          obtain ⟨L1, hL1⟩ : ∃ L, preX ps k ++ y3.data.toList = L := ⟨_, rfl⟩
          have l1 : preX ps k ++ y3.data.toList = L1 ∧ L1.length ≤ 140737488355328 := ⟨hL1, by rw [← hL1, List.length_append, ← Lib.size_eq]; omega⟩
          have hfin : Hid (L1 = preX ps (k + 1)) := Lib.hid (by rw [hpre'.out, hch'.out, if_neg hq1, ← hL1, y3d'.out])
          clear hq1
          rcases hy with ⟨rfl, rfl⟩ | ⟨rfl, hy⟩ | ⟨rfl, hy⟩
          all_goals
            obtain ⟨c0, c1, c2, c3⟩ := cells_p hOp'.out
            go_wp2_with (at_builtin; refine append_text2 y3 rfl _ _ rfl Z _ (preX ps k) L1 rfl rfl l1.1 hownp'.out l1.2 hZp ?_)
            intro v1 w1 hown1 hst1
            have hB1' := Lib.hid (hst1.1 _ hBp'.out)
            have hO1' := Lib.hid (hst1.2 _ _ _ hOp'.out)
            have hZ1 : Z ≤ w1.heap.size := by have := hB1'.out.size; rw [hZ'.out] at this; exact this
            have hown1' := Lib.hid hown1
            clear hown1 hst1 c0 c1 c2 c3
            obtain ⟨c0, c1, c2, c3⟩ := cells_p hO1'.out
            go_wp2_with fail
            go_loopw [3, 7] (fun s3 s7 wx => s3 = v1 ∧ s7 = .int .i64 0 ∧ wx = w1) (fun s3 s7 wx => 0)
            case atStart => exact ⟨rfl, rfl, rfl⟩
            case round =>
              obtain ⟨rfl, rfl, rfl⟩ := hrel
              go_wp2
              go_roundw
              case rel => exact ⟨k + 1, by go_num, by omega, by rw [← hfin.out]; exact hown1'.out, hB1'.out⟩
              case measure => simp [RowKit.intOf]; omega
      · have hX := ho
        unfold okTxt at hX
        simp only [Bool.and_eq_true, decide_eq_true_eq, List.isEmpty_iff] at hX
        obtain ⟨⟨x1, x2⟩, _, _⟩ := hX
        have hsp0 : sp = 0 := by rw [← hsp]; exact x2
        have hkd1 : kd = 3 := by rw [← hkd]; exact K
        subst hkd1
        subst hsp0
        rw [chunk_chars K] at hlen
        have hpre2 := Lib.hid (hpre'.out.trans (by rw [chunk_chars K]))
        have hs2 : a2.size ≤ 9223372036854775807 := by
          have : p.text.length ≤ (escT p.text).length := by
            have : ∀ t : Row, t.length ≤ (escT t).length := fun t => by
              induction t with
              | nil => exact Nat.le_refl _
              | cons x t ih =>
                have e : escT (x :: t) = esc x ++ escT t := by simp [escT]
                have h1 : 1 ≤ (esc x).length := by
                  unfold esc
                  repeat' split
                  all_goals simp
                rw [e, List.length_append, List.length_cons]; omega
            exact this _
          have := hsz'.out
          rw [Lib.size_eq, d2]; omega
        have htot : (preX ps k).length + (escT a2.data.toList).length ≤ 1099511627776 := by have := hsz'.out; rw [d2]; omega
        rw [← d2] at hpre2
        have hownp' := Lib.hid hown2
        have hOp' := Lib.hid hO
        have hBp' := Lib.hid hBp
        have htot' := Lib.hid htot
        clear d1 d2 hp hlen hsp hkd K ho hown2 hbp hBp hO x1 x2 htot
        obtain ⟨c0, c1, c2, c3⟩ := cells_p hOp'.out
        go_wp2_with fail
        go_loopw [3, 7] (fun s3 s7 wx => ∃ j : Nat, s7 = .int .i64 (j : Int) ∧ j ≤ a2.size ∧ BOwn Z s3 (preX ps k ++ escT (a2.data.toList.take j)) wx ∧ Below Z w wx ∧ wx.heap[wr.heap.size]? = some (.cells #[.int .i64 3, .int .i64 0, .string a1, .string a2] 75 (0, 0))) (fun s3 s7 wx => a2.size - (RowKit.intOf s7).toNat)
        case atStart => exact ⟨0, rfl, Nat.zero_le _, by simpa [escT] using hownp'.out, hBp'.out, hOp'.out⟩
        case round =>
          obtain ⟨j, rfl, hj, hownx, hBx, hOx⟩ := hrel
          clear c0 c1 c2 c3
          obtain ⟨c0, c1, c2, c3⟩ := cells_p hOx
          have hZx : Z ≤ wr.heap.size := by have := hBx.size; rw [hZ'.out] at this; exact this
          have hownx' := Lib.hid hownx
          have hBx' := Lib.hid hBx
          have hOx' := Lib.hid hOx
          clear hownx hBx hOx
          by_cases hjl : j < a2.size
          · obtain ⟨x, hx⟩ : ∃ x, a2[j]'hjl = x := ⟨_, rfl⟩
            have hjd : j < a2.data.toList.length := by rw [← Lib.size_eq]; exact hjl
            have hxd : a2.data.toList[j]'hjd = x := hx
            have hst := escT_take a2.data.toList j hjd
            rw [hxd] at hst
            have hlt1 := escT_len_take a2.data.toList (j + 1)
            rw [hst, List.length_append] at hlt1
            obtain ⟨E, hE⟩ : ∃ E, preX ps k ++ escT (a2.data.toList.take j) = E := ⟨_, rfl⟩
            have hEl : E.length + (esc x).length ≤ 140737488355328 := by rw [← hE, List.length_append]; have := htot'.out; omega
            have hownx2 := hownx'.out
            rw [hE] at hownx2
            have hownE' := Lib.hid hownx2
            have hnx : Hid (∀ L, E ++ esc x = L → L = preX ps k ++ escT (a2.data.toList.take (j + 1))) := Lib.hid fun L hL => by rw [← hL, ← hE, hst, List.append_assoc]
            clear hst hlt1 hownx2 hownx' hxd hjd hE
            obtain ⟨L5, hL5⟩ : ∃ L, E ++ esc x = L := ⟨_, rfl⟩
            have l5 : E ++ esc x = L5 ∧ L5.length ≤ 140737488355328 := ⟨hL5, by rw [← hL5, List.length_append]; exact hEl⟩
            by_cases x38 : x = 38
            · subst x38
              go_wp2_with (at_builtin; refine append_text2 _ rfl _ _ rfl Z _ E L5 rfl rfl l5.1 hownE'.out l5.2 hZx ?_)
              intro v5 w5 hown5 hst5
              have hB5' := Lib.hid (hst5.1 _ hBx'.out)
              have hO5' := Lib.hid (hst5.2 _ _ _ hOx'.out)
              have hown5' := Lib.hid hown5
              clear hown5 hst5 c0 c1 c2 c3
              go_wp2
              go_roundw
              case rel => exact ⟨j + 1, by go_num, by omega, by rw [← hnx.out L5 hL5]; exact hown5'.out, hB5'.out, hO5'.out⟩
              case measure => simp [RowKit.intOf]; omega
            · have e38 : (((x.toNat : Nat) : Int) == 38) = false := tn (m := 38) rfl x38
              by_cases x60 : x = 60
              · subst x60
                go_wp2_with (at_builtin; refine append_text2 _ rfl _ _ rfl Z _ E L5 rfl rfl l5.1 hownE'.out l5.2 hZx ?_)
                intro v5 w5 hown5 hst5
                have hB5' := Lib.hid (hst5.1 _ hBx'.out)
                have hO5' := Lib.hid (hst5.2 _ _ _ hOx'.out)
                have hown5' := Lib.hid hown5
                clear hown5 hst5 c0 c1 c2 c3
                go_wp2
                go_roundw
                case rel => exact ⟨j + 1, by go_num, by omega, by rw [← hnx.out L5 hL5]; exact hown5'.out, hB5'.out, hO5'.out⟩
                case measure => simp [RowKit.intOf]; omega
              · have e60 : (((x.toNat : Nat) : Int) == 60) = false := tn (m := 60) rfl x60
                by_cases x62 : x = 62
                · subst x62
                  go_wp2_with (at_builtin; refine append_text2 _ rfl _ _ rfl Z _ E L5 rfl rfl l5.1 hownE'.out l5.2 hZx ?_)
                  intro v5 w5 hown5 hst5
                  have hB5' := Lib.hid (hst5.1 _ hBx'.out)
                  have hO5' := Lib.hid (hst5.2 _ _ _ hOx'.out)
                  have hown5' := Lib.hid hown5
                  clear hown5 hst5 c0 c1 c2 c3
                  go_wp2
                  go_roundw
                  case rel => exact ⟨j + 1, by go_num, by omega, by rw [← hnx.out L5 hL5]; exact hown5'.out, hB5'.out, hO5'.out⟩
                  case measure => simp [RowKit.intOf]; omega
                · have e62 : (((x.toNat : Nat) : Int) == 62) = false := tn (m := 62) rfl x62
                  by_cases x13 : x = 13
                  · subst x13
                    go_wp2_with (at_builtin; refine append_text2 _ rfl _ _ rfl Z _ E L5 rfl rfl l5.1 hownE'.out l5.2 hZx ?_)
                    intro v5 w5 hown5 hst5
                    have hB5' := Lib.hid (hst5.1 _ hBx'.out)
                    have hO5' := Lib.hid (hst5.2 _ _ _ hOx'.out)
                    have hown5' := Lib.hid hown5
                    clear hown5 hst5 c0 c1 c2 c3
                    go_wp2
                    go_roundw
                    case rel => exact ⟨j + 1, by go_num, by omega, by rw [← hnx.out L5 hL5]; exact hown5'.out, hB5'.out, hO5'.out⟩
                    case measure => simp [RowKit.intOf]; omega
                  · have e13 : (((x.toNat : Nat) : Int) == 13) = false := tn (m := 13) rfl x13
                    have hex : esc x = [x] := by unfold esc; rw [if_neg x38, if_neg x60, if_neg x62, if_neg x13]
                    rw [hex] at l5
                    clear x38 x60 x62 x13 hex
                    go_wp2_with (at_builtin; refine append_byte2 x (x.toNat : Int) rfl rfl _ _ rfl Z _ E L5 l5.1 _ ?i8 rfl rfl hownE'.out l5.2 hZx ?_)
                    case i8 => simp
                    intro v5 w5 hown5 hst5
                    have hB5' := Lib.hid (hst5.1 _ hBx'.out)
                    have hO5' := Lib.hid (hst5.2 _ _ _ hOx'.out)
                    have hown5' := Lib.hid hown5
                    clear hown5 hst5 c0 c1 c2 c3
                    go_wp2
                    go_roundw
                    case rel => exact ⟨j + 1, by go_num, by omega, by rw [← hnx.out L5 hL5]; exact hown5'.out, hB5'.out, hO5'.out⟩
                    case measure => simp [RowKit.intOf]; omega
          · have hjn : a2.data.toList.take j = a2.data.toList := List.take_of_length_le (by rw [← Lib.size_eq]; omega)
            have hfin := hownx'.out
            rw [hjn, ← hpre2.out] at hfin
            have hfin' := Lib.hid hfin
            clear hjn hfin
            go_wp2
            go_roundw
            case rel => exact ⟨k + 1, by go_num, by omega, hfin'.out, hBx'.out⟩
            case measure => simp [RowKit.intOf]; omega
    · have hk0 : k = n := by omega
      subst hk0
      have hTk : (⟨(preX ps k).toArray⟩ : ByteArray) = T := by rw [← hT'.out, ← preX_all, hn'.out]
      have hconv := conv_own hown
      rw [hTk] at hconv
      clear hown hTk
      go_wp2
      go_ret
      exact ⟨rfl, by rw [hZ'.out]; exact hB⟩
end Go.Proofs.YtmmpojhjpghdlaaGreatDoor.Xm

/-
  PLAIN LAWS OF LAYER xml: how deep elements may lie; prefixes count for nothing; characters told by their numbers.
-/
set_option linter.unusedVariables false
namespace Go.Proofs.YtmmpojhjpghdlaaGreatDoor.Xm

/-! ### how deep -/
def eO : Row := [60, 101, 62]
def eC : Row := [60, 47, 101, 62]
def pO : Pc := ⟨1, 0, [101], []⟩
def pC : Pc := ⟨2, 0, [101], []⟩
def reps (n : Nat) (a : Row) : Row := (List.replicate n a).flatten
theorem reps_succ (n : Nat) (a : Row) : reps (n + 1) a = a ++ reps n a := by simp [reps, List.replicate_succ]
theorem reps_snoc (n : Nat) (a : Row) : reps (n + 1) a = reps n a ++ a := by simp [reps, List.replicate_succ']
/-- n elements open -/
def nest (n : Nat) (ps : List Pc) : St := ⟨[], List.replicate n ⟨[], [101], 0, []⟩, [], ps, [], decide (ps ≠ [])⟩
theorem decide_snoc (ps : List Pc) (p : Pc) : decide (ps ++ [p] ≠ []) = true := by simp
theorem nest_open (n : Nat) (ps : List Pc) (h : n < 16) (h0 : n = 0 → ps = []) : Runs (nest n ps) eO (nest (n + 1) (ps ++ [pO])) := by
  have := runs_open (nest n ps) 101 [] [] [] [101] [] 0 (by decide) (fun X => written_bare [101] (62 :: X) (by decide) (fun x hx => by cases hx; decide)) (fun X => decls_none 62 X (by decide)) rfl
    (by simp [nest]; exact h) (fun e => by
      have : n = 0 := by simpa [nest] using e
      simp [nest, h0 this])
  have e : (⟨[], ⟨[], [101], 0, []⟩ :: List.replicate n ⟨[], [101], 0, []⟩, [], flushed ps [] ++ [⟨1, 0, [101], []⟩], [], true⟩ : St) = nest (n + 1) (ps ++ [pO]) := by
    unfold nest
    rw [flushed_nil, decide_snoc, List.replicate_succ]; rfl
  rw [← e]
  exact this
theorem nest_close (n : Nat) (ps : List Pc) (hps : ps ≠ []) : Runs (nest (n + 1) ps) eC (nest n (ps ++ [pC])) := by
  have := runs_close (nest (n + 1) ps) [101] [] [101] ⟨[], [101], 0, []⟩ (List.replicate n ⟨[], [101], 0, []⟩) rfl (fun X => written_bare [101] (62 :: X) (by decide) (fun x hx => by cases hx; decide)) rfl rfl
  have e : (⟨[], List.replicate n ⟨[], [101], 0, []⟩, [], flushed ps [] ++ [⟨2, 0, [101], []⟩], [], decide (ps ≠ [])⟩ : St) = nest n (ps ++ [pC]) := by
    unfold nest
    rw [flushed_nil, decide_snoc, decide_eq_true hps]; rfl
  rw [← e]
  exact this
theorem nest_opens : ∀ (n : Nat), n ≤ 16 → Runs (nest 0 []) (reps n eO) (nest n (List.replicate n pO))
  | 0, _ => Runs.nil _
  | n + 1, h => by
    rw [reps_snoc, List.replicate_succ']
    exact (nest_opens n (by omega)).trans (nest_open n _ (by omega) (fun e => by rw [e]; rfl))
theorem nest_closes : ∀ (n : Nat) (ps : List Pc), ps ≠ [] → Runs (nest n ps) (reps n eC) (nest 0 (ps ++ List.replicate n pC))
  | 0, ps, _ => by rw [List.replicate_zero, List.append_nil]; exact Runs.nil _
  | n + 1, ps, h => by
    have := (nest_close n ps h).trans (nest_closes n (ps ++ [pC]) (by simp))
    rw [reps_succ]
    rw [List.append_assoc, List.singleton_append, ← List.replicate_succ] at this
    exact this
theorem deep_prolog (k : Nat) (hk : k ≠ 0) : prolog (reps k eO ++ reps k eC) = some (reps k eO ++ reps k eC) := by
  obtain ⟨k, rfl⟩ := Nat.exists_eq_succ_of_ne_zero hk
  rw [reps_succ]
  exact prolog_tag (x := 101) (by decide)
theorem doc_deep (k : Nat) (h0 : k ≠ 0) (h : k ≤ 16) : docP (reps k eO ++ reps k eC) = some (List.replicate k pO ++ List.replicate k pC) := by
  have hr := (nest_opens k h).trans (nest_closes k (List.replicate k pO) (by cases k with | zero => exact absurd rfl h0 | succ k => simp [List.replicate_succ]))
  have := hr []
  rw [List.append_nil] at this
  unfold docP
  rw [deep_prolog k h0, Option.bind_some]
  show (go ((nest 0 []).at (reps k eO ++ reps k eC))).bind fin = _
  rw [this, go_nil rfl, Option.bind_some]
  unfold fin
  have hne : decide (List.replicate k pO ++ List.replicate k pC ≠ []) = true := by
    refine decide_eq_true ?_
    cases k with
    | zero => exact absurd rfl h0
    | succ k => simp [List.replicate_succ]
  rw [if_pos ⟨hne, rfl⟩]
  rfl
theorem doc_deeper (k : Nat) (h : 16 < k) : docP (reps k eO ++ reps k eC) = none := by
  have e : reps k eO = reps 16 eO ++ (eO ++ reps (k - 17) eO) := by
    rw [← reps_succ]
    unfold reps
    rw [← List.flatten_append, List.replicate_append_replicate, show 16 + (k - 17 + 1) = k by omega]
  unfold docP
  rw [deep_prolog k (by omega), Option.bind_some]
  show (go ((nest 0 []).at (reps k eO ++ reps k eC))).bind fin = _
  rw [e, List.append_assoc, nest_opens 16 (Nat.le_refl _)]
  rw [go_none (by simp [St.at, eO]) (by
    show step ((nest 16 (List.replicate 16 pO)).at (60 :: 101 :: (62 :: (reps (k - 17) eO ++ reps k eC)))) = none
    rw [step_open (σ := (nest 16 (List.replicate 16 pO)).at (60 :: 101 :: (62 :: (reps (k - 17) eO ++ reps k eC)))) (by decide) rfl (fun e => by cases e)]
    unfold opens
    rw [if_pos (by simp [nest, St.at])])]
  rfl
/-- the pieces of nested elements are right, unless too deep -/
theorem rgt_closes : ∀ (n : Nat), n ≠ 0 → rgt false false (List.replicate n ([101], 0)) (List.replicate n pC) = true
  | 0, h => absurd rfl h
  | n + 1, _ => by
    rw [List.replicate_succ, List.replicate_succ]
    unfold rgt
    have : rgt false false (List.replicate n ([101], 0)) (List.replicate n pC) = true := by
      cases n with
      | zero => rfl
      | succ n => exact rgt_closes (n + 1) (by simp)
    rw [if_neg (show ¬ pC.kind = 1 by decide), if_pos (show pC.kind = 2 from rfl)]
    show (true && (okTag pC && (decide ((([101], 0) : Row × Int) = (pC.name, pC.space)) && rgt false false (List.replicate n ([101], 0)) (List.replicate n pC)))) = true
    rw [this]
    decide
theorem rgt_opens : ∀ (m n : Nat) (f : Bool), n + m ≠ 0 → (f = true ∨ n ≠ 0) → rgt f false (List.replicate n ([101], 0)) (List.replicate m pO ++ List.replicate (n + m) pC) = (decide (n + m ≤ 16) || decide (m = 0))
  | 0, n, f, h, hf => by
    rw [List.replicate_zero, List.nil_append, Nat.add_zero]
    have hn : n ≠ 0 := by omega
    have := rgt_closes n hn
    have e : rgt f false (List.replicate n ([101], 0)) (List.replicate n pC) = rgt false false (List.replicate n ([101], 0)) (List.replicate n pC) := by
      obtain ⟨n, rfl⟩ := Nat.exists_eq_succ_of_ne_zero hn
      rw [List.replicate_succ, List.replicate_succ]
      unfold rgt
      simp [pC]
    rw [e, this]; simp
  | m + 1, n, f, h, hf => by
    have ih := rgt_opens m (n + 1) false (by omega) (.inr (by omega))
    rw [List.replicate_succ (a := pO), List.cons_append]
    unfold rgt
    rw [show n + (m + 1) = n + 1 + m by omega, if_pos (show pO.kind = 1 from rfl)]
    rw [show ((pO.name, pO.space) :: List.replicate n (([101], 0) : Row × Int)) = List.replicate (n + 1) ([101], 0) from rfl, ih, List.length_replicate]
    have hok : okTag pO = true := by decide
    have hft : (f || !(List.replicate n (([101], 0) : Row × Int)).isEmpty) = true := by
      rcases hf with rfl | hf
      · rfl
      · obtain ⟨n, rfl⟩ := Nat.exists_eq_succ_of_ne_zero hf
        simp [List.replicate_succ]
    rw [hok, hft, Bool.true_and, Bool.true_and]
    by_cases h1 : n + 1 + m ≤ 16
    · rw [decide_eq_true h1, decide_eq_true (show n < 16 by omega)]; rfl
    · rw [decide_eq_false h1, Bool.false_or, show decide (m + 1 = 0) = false from rfl, Bool.false_or]
      by_cases h2 : m = 0
      · rw [decide_eq_false (show ¬ n < 16 by omega)]; rfl
      · rw [decide_eq_false h2, Bool.and_false]
theorem right_deep (k : Nat) (h0 : k ≠ 0) : right (List.replicate k pO ++ List.replicate k pC) = decide (k ≤ 16) := by
  have := rgt_opens k 0 true (by omega) (.inl rfl)
  rw [Nat.zero_add, decide_eq_false h0, Bool.or_false] at this
  exact this

/-! ### prefixes -/
theorem written_none {p n r : Row} (h : nameB p = true) (h' : nameB n = true) (hr : ∀ x, r.head? = some x → nxB x = false) : written (p ++ 58 :: (n ++ r)) = some (p, n, r) := written_pre p n r h h' hr
def q39 : Row := [39]
/-- an element that declares its own prefix -/
theorem doc_own {p n : Row} (hp : nameB p = true) (hn : nameB n = true) : docP (60 :: (p ++ 58 :: (n ++ 32 :: (xmlnsS ++ 58 :: (p ++ 61 :: 39 :: (davS ++ [39, 47, 62])))))) = some [⟨1, 1, n, []⟩, ⟨2, 1, n, []⟩] := by
  cases p with
  | nil => cases hp
  | cons c t =>
    have hc := nameB_head hp
    have hr := runs_both (init []) c (t ++ 58 :: n) (32 :: (xmlnsS ++ 58 :: ((c :: t) ++ 61 :: 39 :: (davS ++ [39])))) (c :: t) n [(c :: t, 1)] 1 hc (fun X => by
        have := written_pre (c :: t) n (32 :: (xmlnsS ++ 58 :: ((c :: t) ++ 61 :: 39 :: (davS ++ 39 :: 47 :: 62 :: X)))) hp hn (fun x hx => by cases hx; decide)
        simpa using this) (fun X => by
        have := decls_pre (c :: t) davS (47 :: 62 :: X) 39 [] hp (.inr rfl) (by decide) (by decide) rfl
        rw [declsA_end (t := 47 :: 62 :: X) rfl, show List.dropWhile blk (47 :: 62 :: X) = 47 :: 62 :: X from rfl, show spaceOf davS = 1 from by decide] at this
        simpa using this) (by
        unfold spOf
        rw [if_neg (by simp)]
        simp [look, init]) (by decide) (fun _ => rfl)
    have := hr []
    rw [List.append_nil] at this
    have e : (60 :: ((c :: t) ++ 58 :: (n ++ 32 :: (xmlnsS ++ 58 :: ((c :: t) ++ 61 :: 39 :: (davS ++ [39, 47, 62]))))) : Row) = 60 :: c :: (t ++ 58 :: n ++ (32 :: (xmlnsS ++ 58 :: ((c :: t) ++ 61 :: 39 :: (davS ++ [39])))) ++ [47, 62]) := by simp
    rw [e]
    unfold docP
    rw [prolog_tag (ft_ne hc).2.2, Option.bind_some]
    show (go ((init []).at (60 :: c :: _))).bind fin = _
    rw [this, go_nil rfl, Option.bind_some]
    rfl
/-- a prefix that nothing declares -/
theorem doc_undeclared {p n : Row} (hp : nameB p = true) (hn : nameB n = true) : docP (60 :: (p ++ 58 :: (n ++ [47, 62]))) = none := by
  cases p with
  | nil => cases hp
  | cons c t =>
    have hc := nameB_head hp
    unfold docP
    rw [show (60 :: ((c :: t) ++ 58 :: (n ++ [47, 62])) : Row) = 60 :: c :: (t ++ 58 :: (n ++ [47, 62])) from rfl, prolog_tag (ft_ne hc).2.2, Option.bind_some]
    rw [go_none (by simp [init]) (by
      rw [step_open (σ := init (60 :: c :: (t ++ 58 :: (n ++ [47, 62])))) hc rfl (fun _ => rfl)]
      unfold opens
      rw [if_neg (by show ¬ 16 ≤ 0; decide), show (c :: (t ++ 58 :: (n ++ [47, 62])) : Row) = (c :: t) ++ 58 :: (n ++ [47, 62]) from rfl, written_pre (c :: t) n [47, 62] hp hn (fun x hx => by cases hx; decide), Option.bind_some]
      simp only
      rw [decls_none 47 [62] (by decide), Option.bind_some]
      simp only
      unfold spOf
      rw [if_neg (by simp)]
      rfl)]
    rfl
/-- a prefix that the element around declares -/
theorem doc_around {p n : Row} (hp : nameB p = true) (hn : nameB n = true) : docP (60 :: 111 :: 32 :: (xmlnsS ++ 58 :: (p ++ 61 :: 39 :: (davS ++ 39 :: 32 :: (xmlnsS ++ 61 :: 39 :: ([117, 114, 110, 58, 120] ++ 39 :: 62 :: 60 :: (p ++ 58 :: (n ++ 47 :: 62 :: 60 :: 47 :: 111 :: [62]))))))))
    = some [⟨1, 3, [111], []⟩, ⟨1, 1, n, []⟩, ⟨2, 1, n, []⟩, ⟨2, 3, [111], []⟩] := by
  cases p with
  | nil => cases hp
  | cons c t =>
    have hc := nameB_head hp
    have h1 := runs_open (init []) 111 [] (32 :: (xmlnsS ++ 58 :: ((c :: t) ++ 61 :: 39 :: (davS ++ 39 :: 32 :: (xmlnsS ++ 61 :: 39 :: ([117, 114, 110, 58, 120] ++ [39])))))) [] [111] [([], 3), (c :: t, 1)] 3 (by decide) (fun X => by
        have := written_bare [111] (32 :: (xmlnsS ++ 58 :: ((c :: t) ++ 61 :: 39 :: (davS ++ 39 :: 32 :: (xmlnsS ++ 61 :: 39 :: ([117, 114, 110, 58, 120] ++ 39 :: 62 :: X)))))) (by decide) (fun x hx => by cases hx; decide)
        simpa using this) (fun X => by
        have := decls_pre (c :: t) davS (32 :: (xmlnsS ++ 61 :: 39 :: ([117, 114, 110, 58, 120] ++ 39 :: 62 :: X))) 39 [] hp (.inr rfl) (by decide) (by decide) rfl
        rw [decls_bare [117, 114, 110, 58, 120] (62 :: X) 39 _ (.inr rfl) (by decide) (by decide) (by simp [look])] at this
        rw [declsA_end (t := 62 :: X) rfl, show List.dropWhile blk (62 :: X) = 62 :: X from rfl, show spaceOf davS = 1 from by decide, show spaceOf [117, 114, 110, 58, 120] = 3 from by decide] at this
        simpa using this) rfl (by decide) (fun _ => rfl)
    have h2 := runs_both { init [] with stack := ⟨[], [111], 3, []⟩ :: [], env := [([], 3), (c :: t, 1)] ++ [], pcs := flushed [] [] ++ [⟨1, 3, [111], []⟩], txt := [], had := true } c (t ++ 58 :: n) [] (c :: t) n [] 1 hc (fun X => by
        have := written_pre (c :: t) n (47 :: 62 :: X) hp hn (fun x hx => by cases hx; decide)
        simpa using this) (fun X => decls_none 47 (62 :: X) (by decide)) (by
        unfold spOf
        rw [if_neg (by simp)]
        simp [look]) (by show 1 < 16; decide) (fun e => by cases e)
    have h3 := runs_close { init [] with stack := ⟨[], [111], 3, []⟩ :: [], env := [([], 3), (c :: t, 1)] ++ [], pcs := flushed (flushed [] [] ++ [⟨1, 3, [111], []⟩]) [] ++ [⟨1, 1, n, []⟩, ⟨2, 1, n, []⟩], txt := [], had := true } [111] [] [111] ⟨[], [111], 3, []⟩ [] rfl (fun X => written_bare [111] (62 :: X) (by decide) (fun x hx => by cases hx; decide)) rfl rfl
    have hr := (h1.trans h2).trans h3
    have := hr []
    rw [List.append_nil] at this
    unfold docP
    rw [prolog_tag (x := 111) (by decide), Option.bind_some]
    have e : (60 :: 111 :: 32 :: (xmlnsS ++ 58 :: ((c :: t) ++ 61 :: 39 :: (davS ++ 39 :: 32 :: (xmlnsS ++ 61 :: 39 :: ([117, 114, 110, 58, 120] ++ 39 :: 62 :: 60 :: ((c :: t) ++ 58 :: (n ++ 47 :: 62 :: 60 :: 47 :: 111 :: [62])))))))  : Row)
      = (60 :: 111 :: ([] ++ (32 :: (xmlnsS ++ 58 :: ((c :: t) ++ 61 :: 39 :: (davS ++ 39 :: 32 :: (xmlnsS ++ 61 :: 39 :: ([117, 114, 110, 58, 120] ++ [39])))))) ++ [62])) ++ (60 :: c :: (t ++ 58 :: n ++ [] ++ [47, 62])) ++ (60 :: 47 :: ([111] ++ [62])) := by simp
    rw [e]
    show (go ((init []).at _)).bind fin = _
    rw [this, go_nil rfl, Option.bind_some]
    rfl
end Go.Proofs.YtmmpojhjpghdlaaGreatDoor.Xm

/-
  PLAIN LAWS OF LAYER xml: characters told by their numbers, in tens or sixteens.
-/
set_option linter.unusedVariables false
namespace Go.Proofs.YtmmpojhjpghdlaaGreatDoor.Xm

/-! ### digits of a number -/
def hexL : Row := [48, 49, 50, 51, 52, 53, 54, 55, 56, 57, 97, 98, 99, 100, 101, 102]
def digS (b n : Nat) : Row := if h : 2 ≤ b ∧ b ≤ n then digS b (n / b) ++ [hexL.getD (n % b) 0] else [hexL.getD n 0]
termination_by n
decreasing_by exact Nat.div_lt_self (by omega) (by omega)
theorem digS_big {b n : Nat} (h : 2 ≤ b) (h' : b ≤ n) : digS b n = digS b (n / b) ++ [hexL.getD (n % b) 0] := by
  conv => lhs; unfold digS
  rw [dif_pos ⟨h, h'⟩]
theorem digS_small {b n : Nat} (h' : n < b) : digS b n = [hexL.getD n 0] := by
  unfold digS
  rw [dif_neg (by omega)]
theorem digN_snoc (b : Nat) : ∀ (x : Row) (m : Nat) (c : UInt8), digN b m (x ++ [c]) = (digN b m x).bind fun v => (digV b c).map fun d => v * b + d
  | [], m, c => by
    show (digV b c).bind _ = _
    simp only [digN, Option.bind_some]
    cases digV b c <;> rfl
  | y :: x, m, c => by
    show (digV b y).bind (fun d => digN b (m * b + d) (x ++ [c])) = ((digV b y).bind fun d => digN b (m * b + d) x).bind _
    cases digV b y with
    | none => rfl
    | some d => simp only [Option.bind_some]; exact digN_snoc b x _ c
theorem digV_16 : ∀ k : Fin 16, digV 16 (hexL.getD k.val 0) = some k.val := by decide +kernel
theorem digV_10 : ∀ k : Fin 10, digV 10 (hexL.getD k.val 0) = some k.val := by decide +kernel
theorem digV_hex {b k : Nat} (hb : b = 10 ∨ b = 16) (h : k < b) : digV b (hexL.getD k 0) = some k := by
  rcases hb with rfl | rfl
  · exact digV_10 ⟨k, h⟩
  · exact digV_16 ⟨k, h⟩
theorem digN_digS {b : Nat} (hb : b = 10 ∨ b = 16) : ∀ (m n : Nat), n ≤ m → digN b 0 (digS b n) = some n
  | 0, n, h => by
    rw [digS_small (by omega)]
    show (digV b _).bind _ = _
    rw [digV_hex hb (by omega)]
    simp [digN]
  | m + 1, n, h => by
    by_cases hn : b ≤ n
    · have hlt : n / b < n := Nat.div_lt_self (by omega) (by omega)
      rw [digS_big (by omega) hn, digN_snoc, digN_digS hb m (n / b) (by omega), Option.bind_some, digV_hex hb (Nat.mod_lt _ (by omega))]
      show some (n / b * b + n % b) = some n
      rw [Nat.div_add_mod']
    · rw [digS_small (by omega)]
      show (digV b _).bind _ = _
      rw [digV_hex hb (by omega)]
      simp [digN]
theorem digS_mem {b : Nat} (hb : b = 10 ∨ b = 16) {Q : UInt8 → Prop} (hQ : ∀ k, k < b → Q (hexL.getD k 0)) : ∀ (m n : Nat), n ≤ m → ∀ x ∈ digS b n, Q x
  | 0, n, h, x, hx => by
    rw [digS_small (by omega)] at hx
    rw [List.mem_singleton.1 hx]; exact hQ n (by omega)
  | m + 1, n, h, x, hx => by
    by_cases hn : b ≤ n
    · have hlt : n / b < n := Nat.div_lt_self (by omega) (by omega)
      rw [digS_big (by omega) hn] at hx
      rcases List.mem_append.1 hx with hx | hx
      · exact digS_mem hb hQ m (n / b) (by omega) x hx
      · rw [List.mem_singleton.1 hx]; exact hQ _ (Nat.mod_lt _ (by omega))
    · rw [digS_small (by omega)] at hx
      rw [List.mem_singleton.1 hx]; exact hQ n (by omega)
theorem digS_len {b : Nat} (hb : b = 10 ∨ b = 16) : ∀ (k n : Nat), n < b ^ (k + 1) → (digS b n).length ≤ k + 1
  | 0, n, h => by
    rw [digS_small (by simpa using h)]; simp
  | k + 1, n, h => by
    by_cases hn : b ≤ n
    · have : n / b < b ^ (k + 1) := by
        rw [Nat.div_lt_iff_lt_mul (by omega), ← Nat.pow_succ]; exact h
      rw [digS_big (by omega) hn, List.length_append, List.length_singleton]
      have := digS_len hb k (n / b) this
      omega
    · rw [digS_small (by omega)]; simp
theorem digS_ne (b n : Nat) : digS b n ≠ [] := by
  unfold digS
  split <;> simp
theorem hex16 : ∀ k : Fin 16, hexL.getD k.val 0 ≠ 59 ∧ hexL.getD k.val 0 ≠ 120 ∧ (hexL.getD k.val 0).toNat < 128 ∧ Ch.ctl (hexL.getD k.val 0) = false := by decide +kernel
theorem digS_all {b : Nat} (hb : b = 10 ∨ b = 16) (n : Nat) : ∀ x ∈ digS b n, x ≠ 59 ∧ x ≠ 120 ∧ x.toNat < 128 ∧ Ch.ctl x = false :=
  digS_mem hb (fun k hk => hex16 ⟨k, by omega⟩) n n (Nat.le_refl _)

theorem hex_nz : ∀ k : Fin 16, 0 < k.val → hexL.getD k.val 0 ≠ 48 := by decide +kernel
theorem digS_front {b : Nat} (hb : b = 10 ∨ b = 16) : ∀ (m n : Nat), n ≤ m → 0 < n → (digS b n).head? ≠ some 48
  | 0, n, h, h0 => by omega
  | m + 1, n, h, h0 => by
    by_cases hn : b ≤ n
    · have hlt : n / b < n := Nat.div_lt_self (by omega) (by omega)
      have hpos : 0 < n / b := Nat.div_pos hn (by omega)
      have ih := digS_front hb m (n / b) (by omega) hpos
      rw [digS_big (by omega) hn]
      cases hd : digS b (n / b) with
      | nil => exact absurd hd (digS_ne _ _)
      | cons x r => rw [hd] at ih; simpa using ih
    · rw [digS_small (by omega)]
      simpa using hex_nz ⟨n, by omega⟩ h0
theorem digS_head {b : Nat} (hb : b = 10 ∨ b = 16) (v : Nat) : ¬ (digS b v = [] ∨ (b = 10 ∧ 1 < (digS b v).length ∧ (digS b v).head? = some 48)) := by
  rintro (h | ⟨_, h1, h2⟩)
  · exact digS_ne b v h
  · by_cases h0 : v = 0
    · rw [h0, digS_small (by omega)] at h1; simp at h1
    · exact digS_front hb v v (Nat.le_refl _) (by omega) h2

/-! ### a character by its number -/
/-- as it is told -/
def told (tens : Bool) (v : Nat) : Row := if tens = true then 35 :: digS 10 v else 35 :: 120 :: digS 16 v
theorem numE_digS {b v : Nat} (hb : b = 10 ∨ b = 16) (h : v ≤ 1114111) (hv : Ch.valid (utf v) = true) : numE b (digS b v) = some (utf v) := by
  unfold numE
  rw [if_neg (digS_head hb v), digN_digS hb v v (Nat.le_refl _), Option.bind_some, if_pos ⟨h, hv⟩]
theorem ent_told (tens : Bool) {v : Nat} (h : v ≤ 1114111) (hv : Ch.valid (utf v) = true) : ent (told tens v) = some (utf v) := by
  unfold told
  cases tens with
  | true =>
    rw [if_pos rfl]
    have h1 := numE_digS (.inl rfl) h hv
    have h2 := digS_all (.inl rfl : (10 : Nat) = 10 ∨ (10 : Nat) = 16) v
    cases hd : digS 10 v with
    | nil => exact absurd hd (digS_ne _ _)
    | cons c r =>
      rw [hd] at h1 h2
      have hc := (h2 c (by simp)).2.1
      unfold ent
      rw [if_neg (by simp), if_neg (by simp), if_neg (by simp), if_neg (by simp), if_neg (by simp)]
      split
      · rename_i e; simp at e; exact absurd e.1 hc
      · rename_i e; simp at e; rw [← e]; exact h1
      · rename_i e; exact absurd rfl (e (c :: r))
  | false =>
    rw [if_neg (by decide)]
    have h1 := numE_digS (.inr rfl) h hv
    unfold ent
    rw [if_neg (by simp), if_neg (by simp), if_neg (by simp), if_neg (by simp), if_neg (by simp)]
    exact h1
theorem told_no (tens : Bool) (v : Nat) : (59 : UInt8) ∉ told tens v := by
  unfold told
  cases tens with
  | true =>
    rw [if_pos rfl]
    have h2 := digS_all (.inl rfl : (10 : Nat) = 10 ∨ (10 : Nat) = 16) v
    intro h
    rcases List.mem_cons.1 h with h | h
    · revert h; decide
    · exact (h2 _ h).1 rfl
  | false =>
    rw [if_neg (by decide)]
    have h2 := digS_all (.inr rfl : (16 : Nat) = 10 ∨ (16 : Nat) = 16) v
    intro h
    rcases List.mem_cons.1 h with h | h
    · revert h; decide
    · rcases List.mem_cons.1 h with h | h
      · revert h; decide
      · exact (h2 _ h).1 rfl
theorem told_ascii (tens : Bool) (v : Nat) : ∀ x ∈ told tens v, x.toNat < 128 ∧ Ch.ctl x = false := by
  unfold told
  cases tens with
  | true =>
    rw [if_pos rfl]
    intro x h
    rcases List.mem_cons.1 h with rfl | h
    · decide
    · exact (digS_all (.inl rfl) v x h).2.2
  | false =>
    rw [if_neg (by decide)]
    intro x h
    rcases List.mem_cons.1 h with rfl | h
    · decide
    · rcases List.mem_cons.1 h with rfl | h
      · decide
      · exact (digS_all (.inr rfl) v x h).2.2
theorem told_len (tens : Bool) {v : Nat} (h : v ≤ 1114111) : (told tens v).length ≤ 8 := by
  unfold told
  cases tens with
  | true =>
    rw [if_pos rfl]
    have := digS_len (.inl rfl : (10 : Nat) = 10 ∨ (10 : Nat) = 16) 6 v (by omega)
    rw [List.length_cons]; omega
  | false =>
    rw [if_neg (by decide)]
    have := digS_len (.inr rfl : (16 : Nat) = 10 ∨ (16 : Nat) = 16) 5 v (by omega)
    rw [List.length_cons, List.length_cons]; omega
/-! ### a text told character by character -/
theorem ofNat_is {c : UInt8} {n : Nat} (h : c.toNat = n) : UInt8.ofNat n = c := by rw [← h]; exact UInt8.ofNat_toNat
/-- the character at the front of a valid text -/
theorem front_char {t : Row} (hne : t ≠ []) (hv : Ch.valid t = true) : (Ch.rune t).2 ≠ 0 ∧ (Ch.rune t).2 ≤ t.length ∧ (Ch.rune t).1 ≤ 1114111 ∧ utf (Ch.rune t).1 = t.take (Ch.rune t).2 ∧ Ch.valid (t.take (Ch.rune t).2) = true ∧ Ch.valid (t.drop (Ch.rune t).2) = true := by
  have hs := Ch.valid_step t hne
  rw [hv] at hs
  split at hs
  · cases hs
  · rename_i h0
    have hk0 : (Ch.rune t).2 ≠ 0 := fun e => h0 (.inl e)
    have hl := (Ch.rune_tells hne hk0).1
    have hc := Ch.valid_cut t hv (Ch.rune t).2 hl
    have hvt : Ch.valid (t.take (Ch.rune t).2) = true := by rw [hc.1, ← hc.2]; exact hs.symm
    have key : (Ch.rune t).1 ≤ 1114111 ∧ utf (Ch.rune t).1 = t.take (Ch.rune t).2 := by
      have h4 := (Ch.rune_tells hne hk0).2.2.2
      rw [Ch.rune_eq t hne] at hk0 hl h4 ⊢
      have g : ∀ j, j < t.length → t[j]? = some (t.getD j 0) := fun j hj => by rw [List.getD_eq_getElem?_getD, List.getElem?_eq_getElem hj]; rfl
      obtain ⟨b0, e0⟩ : ∃ b, t.getD 0 0 = b := ⟨_, rfl⟩
      obtain ⟨b1, e1⟩ : ∃ b, t.getD 1 0 = b := ⟨_, rfl⟩
      obtain ⟨b2, e2⟩ : ∃ b, t.getD 2 0 = b := ⟨_, rfl⟩
      obtain ⟨b3, e3⟩ : ∃ b, t.getD 3 0 = b := ⟨_, rfl⟩
      have g0 := g 0
      have g1 := g 1
      have g2 := g 2
      have g3 := g 3
      rw [e0] at hk0 hl h4 g0 ⊢
      rw [e1] at hk0 hl h4 g1 ⊢
      rw [e2] at hk0 hl h4 g2 ⊢
      rw [e3] at hk0 hl h4 g3 ⊢
      have l0 := b0.toNat_lt
      have tk : ∀ (k : Nat) (l : Row), l.length = k → k ≤ t.length → (∀ j, j < k → t[j]? = l[j]?) → t.take k = l := fun k l h1 h2 h3 => by
        refine List.ext_getElem? fun j => ?_
        by_cases hj : j < k
        · rw [List.getElem?_take, if_pos hj]; exact h3 j hj
        · rw [List.getElem?_eq_none (by rw [List.length_take]; omega), List.getElem?_eq_none (by omega)]
      by_cases c0 : b0.toNat < 128
      · have hr := Ch.runeN_one t.length b0.toNat b1.toNat b2.toNat b3.toNat c0
        rw [hr] at hl ⊢
        refine ⟨by simp only; omega, ?_⟩
        show utf b0.toNat = t.take 1
        unfold utf
        rw [if_pos c0, ofNat_is rfl]
        refine (tk 1 [b0] rfl hl fun j hj => ?_).symm
        match j, hj with
        | 0, _ => exact g0 (by simp only at hl; omega)
      · rcases h4 with ⟨q, _⟩ | ⟨q, _⟩
        · exact absurd q c0
        · by_cases c2 : b0.toNat < 224
          · rcases Ch.runeN_two t.length b0.toNat b1.toNat b2.toNat b3.toNat q c2 with ⟨r1, r2, r3, r4, hr⟩ | ⟨_, hr⟩
            · rw [hr]
              refine ⟨by simp only; omega, ?_⟩
              show utf (Ch.v2 b0.toNat b1.toNat) = t.take 2
              unfold Ch.cont at r2
              have x0 : 192 + Ch.v2 b0.toNat b1.toNat / 64 = b0.toNat := by unfold Ch.v2; omega
              have x1 : 128 + Ch.v2 b0.toNat b1.toNat % 64 = b1.toNat := by unfold Ch.v2; omega
              unfold utf
              rw [if_neg (by omega), if_pos (by omega), x0, x1, ofNat_is rfl, ofNat_is rfl]
              refine (tk 2 [b0, b1] rfl r1 fun j hj => ?_).symm
              match j, hj with
              | 0, _ => exact g0 (by omega)
              | 1, _ => exact g1 (by omega)
            · rw [hr] at hk0; exact absurd rfl hk0
          · by_cases c3 : b0.toNat < 240
            · rcases Ch.runeN_three t.length b0.toNat b1.toNat b2.toNat b3.toNat (by omega) c3 with ⟨r1, r2, r2', r3, r4, _, hr⟩ | ⟨_, hr⟩
              · rw [hr]
                refine ⟨by simp only; omega, ?_⟩
                show utf (Ch.v3 b0.toNat b1.toNat b2.toNat) = t.take 3
                unfold Ch.cont at r2 r2'
                have x0 : 224 + Ch.v3 b0.toNat b1.toNat b2.toNat / 4096 = b0.toNat := by unfold Ch.v3; omega
                have x1 : 128 + Ch.v3 b0.toNat b1.toNat b2.toNat / 64 % 64 = b1.toNat := by unfold Ch.v3; omega
                have x2 : 128 + Ch.v3 b0.toNat b1.toNat b2.toNat % 64 = b2.toNat := by unfold Ch.v3; omega
                unfold utf
                rw [if_neg (by omega), if_neg (by omega), if_pos (by omega), x0, x1, x2, ofNat_is rfl, ofNat_is rfl, ofNat_is rfl]
                refine (tk 3 [b0, b1, b2] rfl r1 fun j hj => ?_).symm
                match j, hj with
                | 0, _ => exact g0 (by omega)
                | 1, _ => exact g1 (by omega)
                | 2, _ => exact g2 (by omega)
              · rw [hr] at hk0; exact absurd rfl hk0
            · by_cases c4 : b0.toNat < 248
              · rcases Ch.runeN_four t.length b0.toNat b1.toNat b2.toNat b3.toNat (by omega) c4 with ⟨r1, r2, r2', r2'', r3, r4, hr⟩ | ⟨_, hr⟩
                · rw [hr]
                  refine ⟨r4, ?_⟩
                  show utf (Ch.v4 b0.toNat b1.toNat b2.toNat b3.toNat) = t.take 4
                  unfold Ch.cont at r2 r2' r2''
                  have x0 : 240 + Ch.v4 b0.toNat b1.toNat b2.toNat b3.toNat / 262144 = b0.toNat := by unfold Ch.v4; omega
                  have x1 : 128 + Ch.v4 b0.toNat b1.toNat b2.toNat b3.toNat / 4096 % 64 = b1.toNat := by unfold Ch.v4; omega
                  have x2 : 128 + Ch.v4 b0.toNat b1.toNat b2.toNat b3.toNat / 64 % 64 = b2.toNat := by unfold Ch.v4; omega
                  have x3 : 128 + Ch.v4 b0.toNat b1.toNat b2.toNat b3.toNat % 64 = b3.toNat := by unfold Ch.v4; omega
                  unfold utf
                  rw [if_neg (by omega), if_neg (by omega), if_neg (by omega), x0, x1, x2, x3, ofNat_is rfl, ofNat_is rfl, ofNat_is rfl, ofNat_is rfl]
                  refine (tk 4 [b0, b1, b2, b3] rfl r1 fun j hj => ?_).symm
                  match j, hj with
                  | 0, _ => exact g0 (by omega)
                  | 1, _ => exact g1 (by omega)
                  | 2, _ => exact g2 (by omega)
                  | 3, _ => exact g3 (by omega)
                · rw [hr] at hk0; exact absurd rfl hk0
              · have hr := Ch.runeN_none t.length b0.toNat b1.toNat b2.toNat b3.toNat (.inr ⟨by omega, l0⟩)
                rw [hr] at hk0; exact absurd rfl hk0
    exact ⟨hk0, hl, key.1, key.2, hvt, hs.symm⟩
/-- a text, each character by its number -/
def tell (tens : Bool) : Nat → Row → Row
  | 0, _ => []
  | n + 1, t => if t = [] then [] else 38 :: (told tens (Ch.rune t).1 ++ [59]) ++ tell tens n (t.drop (Ch.rune t).2)
theorem runs_tell (tens : Bool) : ∀ (n : Nat) (t : Row) (σ : St), t.length ≤ n → Ch.valid t = true → σ.stack ≠ [] → Runs σ (tell tens n t) { σ with txt := σ.txt ++ t }
  | 0, t, σ, h, _, _ => by
    obtain rfl : t = [] := List.eq_nil_of_length_eq_zero (by omega)
    simpa [tell] using Runs.nil σ
  | n + 1, t, σ, h, hv, hs => by
    unfold tell
    by_cases ht : t = []
    · rw [if_pos ht, ht]; simpa using Runs.nil σ
    · rw [if_neg ht]
      obtain ⟨h0, hl, hm, hu, hvt, hvd⟩ := front_char ht hv
      have r1 := runs_ent σ (told tens (Ch.rune t).1) (utf (Ch.rune t).1) (told_no tens _) (ent_told tens hm (by rw [hu]; exact hvt)) hs
      have r2 := runs_tell tens n (t.drop (Ch.rune t).2) { σ with txt := σ.txt ++ utf (Ch.rune t).1 } (by rw [List.length_drop]; omega) hvd hs
      have := r1.trans r2
      simp only at this
      rw [hu, List.append_assoc, List.take_append_drop] at this
      exact this
theorem tell_ascii (tens : Bool) : ∀ (n : Nat) (t : Row), ∀ x ∈ tell tens n t, x.toNat < 128 ∧ Ch.ctl x = false
  | 0, t, x, hx => by cases hx
  | n + 1, t, x, hx => by
    unfold tell at hx
    split at hx
    · cases hx
    · rcases List.mem_append.1 hx with hx | hx
      · rcases List.mem_cons.1 hx with rfl | hx
        · decide
        · rcases List.mem_append.1 hx with hx | hx
          · exact told_ascii tens _ x hx
          · rw [List.mem_singleton.1 hx]; decide
      · exact tell_ascii tens n _ x hx
theorem tell_len (tens : Bool) : ∀ (n : Nat) (t : Row), Ch.valid t = true → (tell tens n t).length ≤ 10 * t.length
  | 0, t, _ => by simp [tell]
  | n + 1, t, hv => by
    unfold tell
    by_cases ht : t = []
    · rw [if_pos ht]; simp
    · rw [if_neg ht]
      obtain ⟨h0, hl, hm, hu, hvt, hvd⟩ := front_char ht hv
      have h1 := tell_len tens n (t.drop (Ch.rune t).2) hvd
      have h2 := told_len tens hm
      rw [List.length_drop] at h1
      simp only [List.length_append, List.length_cons, List.length_nil]
      omega
/-- <a> a </a> -/
def inA (x : Row) : Row := 60 :: 97 :: 62 :: (x ++ [60, 47, 97, 62])
def sA : St := ⟨[], [⟨[], [97], 0, []⟩], [], [⟨1, 0, [97], []⟩], [], true⟩
theorem doc_inA {x t : Row} (ht : blanks t = false) (hr : Runs sA x { sA with txt := t }) : docP (inA x) = some [⟨1, 0, [97], []⟩, ⟨3, 0, [], t⟩, ⟨2, 0, [97], []⟩] := by
  have h1 := runs_open (init []) 97 [] [] [] [97] [] 0 (by decide) (fun X => written_bare [97] (62 :: X) (by decide) (fun x hx => by cases hx; decide)) (fun X => decls_none 62 X (by decide)) rfl (by decide) (fun _ => rfl)
  have h2 := runs_close { sA with txt := t } [97] [] [97] ⟨[], [97], 0, []⟩ [] rfl (fun X => written_bare [97] (62 :: X) (by decide) (fun x hx => by cases hx; decide)) rfl rfl
  have := ((Runs.trans (τ := sA) h1 hr).trans h2) []
  rw [List.append_nil] at this
  have e : inA x = (60 :: 97 :: ([] ++ [] ++ [62])) ++ x ++ (60 :: 47 :: ([97] ++ [62])) := by simp [inA]
  unfold docP
  rw [show prolog (inA x) = some (inA x) from prolog_tag (x := 97) (by decide), Option.bind_some, e]
  show (go ((init []).at _)).bind fin = _
  rw [this, go_nil rfl, Option.bind_some]
  show some (flushed [⟨1, 0, [97], []⟩] t ++ [⟨2, 0, [97], []⟩]) = _
  unfold flushed
  rw [if_neg (by rw [ht]; decide)]
  rfl
theorem doc_chars (tens : Bool) {t : Row} (hv : Ch.valid t = true) (ht : blanks t = false) : docP (inA (tell tens t.length t)) = some [⟨1, 0, [97], []⟩, ⟨3, 0, [], t⟩, ⟨2, 0, [97], []⟩] := by
  have := runs_tell tens t.length t sA (Nat.le_refl _) hv (by simp [sA])
  exact doc_inA ht this
end Go.Proofs.YtmmpojhjpghdlaaGreatDoor.Xm
