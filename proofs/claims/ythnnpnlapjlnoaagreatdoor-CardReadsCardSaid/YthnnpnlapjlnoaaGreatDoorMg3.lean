import Derived.Test.YthnnpnlapjlnoaaGreatDoorMg2

/-
  THE WALK OF slices.symMergeCmpFunc, whole: by the length of what is merged.
-/
set_option linter.unusedVariables false
namespace Go.Proofs.YthnnpnlapjlnoaaGreatDoor.Ca
open Go.Shelf Go.RowKit Go.Lib Go.Sort
variable {P : Program} {α : Type} [Inhabited α] {k : Nat} {enc : α → List Value} {key : α → RowB} {cf : α → α → Int} {g : Nat} {cb : Array Value} {blk off len : Nat} {d0 : Array α} {w0 : World}

/-- what symMerge is asked, and what it makes -/
def SymDone (P : Program) (k : Nat) (enc : α → List Value) (key : α → RowB) (g : Nat) (cb : Array Value) (blk off len cap : Nat) (w0 : World) (N : Nat) : Prop :=
  ∀ (a m b : Nat) (w : World) (PX X Y S : List α), X.length + Y.length ≤ N → 0 < X.length → 0 < Y.length → a = PX.length → m = a + X.length → b = m + Y.length → Sorted key X → Sorted key Y → PX.length + X.length + Y.length + S.length = len →
    SWK enc k w0 blk off (PX ++ (X ++ (Y ++ S))).toArray w →
    Calls P 133 #[.slice (some ⟨blk, off, none⟩) len cap, .int .i64 a, .int .i64 m, .int .i64 b, .func (.func g) #[] cb] w fun e w' => e = .returned (.tuple #[]) ∧ SWK enc k w0 blk off (PX ++ (mrg key X Y ++ S)).toArray w'
omit [Inhabited α] in
theorem mrg_le_nil {X Y : List α} (h : X = [] ∨ Y = []) : mrg key X Y = X ++ Y := by
  rcases h with rfl | rfl
  · rw [mrg_nil]; rfl
  · rw [mrg_right]; simp

set_option maxHeartbeats 4000000 in
set_option maxRecDepth 1000000 in
theorem symMain_srt (L : SrtP P k) (H : SrtR P k enc key cf g cb blk off len d0 w0) (cap : Nat) (N : Nat) (IH : SymDone P k enc key g cb blk off len cap w0 N) (a m b : Nat) (w : World) (PX X Y S : List α) (hN : X.length + Y.length ≤ N + 1) (hx2 : 2 ≤ X.length) (hy2 : 2 ≤ Y.length) (ha : a = PX.length) (hm : m = a + X.length) (hb : b = m + Y.length)
    (hX : Sorted key X) (hY : Sorted key Y) (hl : PX.length + X.length + Y.length + S.length = len) (S0 : SWK enc k w0 blk off (PX ++ (X ++ (Y ++ S))).toArray w) : Calls P 133 #[.slice (some ⟨blk, off, none⟩) len cap, .int .i64 a, .int .i64 m, .int .i64 b, .func (.func g) #[] cb] w fun e w' => e = .returned (.tuple #[]) ∧ SWK enc k w0 blk off (PX ++ (mrg key X Y ++ S)).toArray w' := by
  have mixed := L.mixed; have t0 := L.t0; have a0 := L.a0; have z0 := L.z0; have v0 := L.v0; have t3 := L.t3; have a3 := L.a3; have z3 := L.z3; have v3 := L.v3; have tU := L.tU; have aU := L.aU; have zU := L.zU; have uU := run_underlying L.tU; have u3 := run_underlying L.t3; have t4 := L.t4; have a4 := L.a4; have z4 := L.z4; have v4 := L.v4; have tS := L.tS; have aS := L.aS; have zS := L.zS; have vS := L.vS; have tC := L.tC; have aC := L.aC; have zC := L.zC; have aE := L.aE; have zE := L.zE
  have FG := L.fSym
  have eg := H.eg
  have eR : ∀ args w, (callFunc 144 args).run P w = .ok (.enter 144 args) w := enters_of L.fRot (by kernel_rfl) rfl
  have eS : ∀ args w, (callFunc 133 args).run P w = .ok (.enter 133 args) w := enters_of L.fSym (by kernel_rfl) rfl
  have hs := H.hs
  have hlen := H.hsz
  obtain ⟨D, hD⟩ : ∃ D, (PX ++ (X ++ (Y ++ S))).toArray = D := ⟨_, rfl⟩
  have hsz : D.size = len := by rw [← hD]; simp; omega
  obtain ⟨mid, hmid⟩ : ∃ mid : Nat, mid = (a + b) / 2 := ⟨_, rfl⟩
  obtain ⟨n, hn⟩ : ∃ n : Nat, n = mid + m := ⟨_, rfl⟩
  have emid : ((a : Int) + (b : Int)) / 2 = (mid : Int) := by omega
  have en : (mid : Int) + (m : Int) = (n : Int) := by omega
  obtain ⟨pv, hpv⟩ : ∃ pv : Nat, pv = n - 1 := ⟨_, rfl⟩
  have epv : (n : Int) - 1 = (pv : Int) := by omega
  have q1 : ¬ (m : Int) - (a : Int) = 1 := by omega
  have q1' : ((m : Int) - (a : Int) == 1) = false := beq_eq_false_iff_ne.2 q1
  have q2 : ¬ (b : Int) - (m : Int) = 1 := by omega
  have q2' : ((b : Int) - (m : Int) == 1) = false := beq_eq_false_iff_ne.2 q2
  have bl : b ≤ len := by omega
  have am : a + 2 ≤ m := by omega
  have mb : m + 2 ≤ b := by omega
  have m1 : a + b ≤ 2 * mid + 1 := by omega
  have m2 : 2 * mid ≤ a + b := by omega
  have n1 : n ≤ mid + m := by omega
  have n2 : mid + m ≤ n := by omega
  have p1 : pv + 1 ≤ n := by omega
  have p2 : n ≤ pv + 1 := by omega
  -- what the cut leaves
  have CUT : Aside (∀ s s0 r0 : Nat, ((mid < m ∧ s0 = n - b ∧ r0 = mid) ∨ (m ≤ mid ∧ s0 = a ∧ r0 = m)) → s0 ≤ s → s ≤ r0 → (s0 < s → lt (key D[n - s]!) (key D[s - 1]!) = false) → (s < r0 → lt (key D[n - 1 - s]!) (key D[s]!) = true) →
      ∃ X1 X2 Y1 Y2 : List α, X1.length + a = s ∧ s + X2.length = m ∧ m + Y1.length = n - s ∧ n - s + Y2.length = b ∧ X = X1 ++ X2 ∧ Y = Y1 ++ Y2 ∧ Sorted key X1 ∧ Sorted key X2 ∧ Sorted key Y1 ∧ Sorted key Y2 ∧ mrg key X Y = mrg key X1 Y1 ++ mrg key X2 Y2) := fun s s0 r0 hc h0 h1 g1 g2 =>
    ⟨X.take (s - a), X.drop (s - a), Y.take (n - s - m), Y.drop (n - s - m), by simp; omega, by simp; omega, by simp; omega, by simp; omega, (List.take_append_drop _ _).symm, (List.take_append_drop _ _).symm, sorted_take key hX _, sorted_drop key hX _, sorted_take key hY _, sorted_drop key hY _,
      sym_cut key PX X Y S a m b mid n s s0 r0 ha hm hb hmid hn hc h0 h1 (by rw [hD]; exact g1) (by rw [hD]; exact g2) hX hY⟩
  have CR : Aside (∀ (s E : Nat) (W : World) (X1 X2 Y1 Y2 : List α), X1.length + a = s → s + X2.length = m → m + Y1.length = E → E + Y2.length = b → 0 < X2.length → 0 < Y1.length → SWK enc k w0 blk off (PX ++ (X1 ++ (X2 ++ (Y1 ++ (Y2 ++ S))))).toArray W →
      Calls P 144 #[.slice (some ⟨blk, off, none⟩) len cap, .int .i64 s, .int .i64 m, .int .i64 E, .func (.func g) #[] cb] W fun e w' => e = .returned (.tuple #[]) ∧ SWK enc k w0 blk off (PX ++ (X1 ++ (Y1 ++ (X2 ++ (Y2 ++ S))))).toArray w') := fun s E W X1 X2 Y1 Y2 h1 h2 h3 h4 h5 h6 h7 => by
    have := rotate_srt L enc g cb blk off cap len s m E d0 w0 W H.R H.hs (PX ++ X1) X2 Y1 (Y2 ++ S) (by simp; omega) (by omega) (by omega) h5 h6 (by simp; omega) (by rw [List.append_assoc]; exact h7) H.hsz
    simpa only [List.append_assoc] using this
  have C1 : Aside (∀ (s : Nat) (W : World) (X1 X2 Y1 Y2 : List α), X1.length + a = s → s + Y1.length = mid → mid + X2.length + Y2.length = b → 0 < X1.length → 0 < Y1.length → Sorted key X1 → Sorted key Y1 → SWK enc k w0 blk off (PX ++ (X1 ++ (Y1 ++ (X2 ++ (Y2 ++ S))))).toArray W →
      Calls P 133 #[.slice (some ⟨blk, off, none⟩) len cap, .int .i64 a, .int .i64 s, .int .i64 mid, .func (.func g) #[] cb] W fun e w' => e = .returned (.tuple #[]) ∧ SWK enc k w0 blk off (PX ++ (mrg key X1 Y1 ++ (X2 ++ (Y2 ++ S)))).toArray w') := fun s W X1 X2 Y1 Y2 h1 h2 h3 h4 h5 h6 h7 h8 =>
    IH a s mid W PX X1 Y1 (X2 ++ (Y2 ++ S)) (by omega) h4 h5 ha (by omega) (by omega) h6 h7 (by simp; omega) h8
  have C2 : Aside (∀ (E : Nat) (W : World) (M1 X2 Y2 : List α), M1.length + a = mid → mid + X2.length = E → E + Y2.length = b → 0 < X2.length → 0 < Y2.length → Sorted key X2 → Sorted key Y2 → SWK enc k w0 blk off (PX ++ (M1 ++ (X2 ++ (Y2 ++ S)))).toArray W →
      Calls P 133 #[.slice (some ⟨blk, off, none⟩) len cap, .int .i64 mid, .int .i64 E, .int .i64 b, .func (.func g) #[] cb] W fun e w' => e = .returned (.tuple #[]) ∧ SWK enc k w0 blk off (PX ++ (M1 ++ (mrg key X2 Y2 ++ S))).toArray w') := fun E W M1 X2 Y2 h1 h2 h3 h4 h5 h6 h7 h8 => by
    have := IH mid E b W (PX ++ M1) X2 Y2 S (by omega) h4 h5 (by simp; omega) (by omega) (by omega) h6 h7 (by simp; omega) (by rw [List.append_assoc]; exact h8)
    simpa only [List.append_assoc] using this
  have FIN : Aside (∀ (X1 X2 Y1 Y2 : List α) (W : World), mrg key X Y = mrg key X1 Y1 ++ mrg key X2 Y2 → SWK enc k w0 blk off (PX ++ (mrg key X1 Y1 ++ (mrg key X2 Y2 ++ S))).toArray W → SWK enc k w0 blk off (PX ++ (mrg key X Y ++ S)).toArray W) := fun X1 X2 Y1 Y2 W h1 h2 => by
    rw [h1, List.append_assoc]; exact h2
  have HD : Aside (D = (PX ++ (X ++ (Y ++ S))).toArray) := hD.symm
  have S0 : Aside (SWK enc k w0 blk off D w) := by rw [hD] at S0; exact S0
  clear hD IH hX hY ha hm hb hl hN hmid hn hpv L
  rcases Nat.lt_or_ge mid m with k1 | k1
  · have kz : (mid : Int) < (m : Int) := by omega
    obtain ⟨s0, hs0⟩ : ∃ s0 : Nat, s0 = n - b := ⟨_, rfl⟩
    have e20 : (n : Int) - (b : Int) = (s0 : Int) := by omega
    have k2 : s0 + b ≤ n := by omega
    have k3 : n ≤ s0 + b := by omega
    clear hs0
    have hsr : s0 ≤ mid := by omega
    have hr0 : mid < m + 1 := by omega
    have hr1 : mid ≤ mid + 1 := by omega
    have has : a ≤ s0 := by omega
    have hbnd : n ≤ s0 + b := by omega
    have hpr : m + mid ≤ n := by omega
    go_enter FG, Tryz.ntmps133
    go_wp2
    go_loopg [20, 21] (mid - s0) (fun kx s20 s21 wr => ∃ s r : Nat, s20 = .int .i64 s ∧ s21 = .int .i64 r ∧ s0 ≤ s ∧ s ≤ r ∧ r ≤ mid ∧ r - s ≤ kx ∧ Aside (SWK enc k w0 blk off D wr) ∧ Aside ((s0 < s → lt (key D[n - s]!) (key D[s - 1]!) = false) ∧ (r < mid → lt (key D[n - 1 - r]!) (key D[r]!) = true)))
    case atStart => exact ⟨s0, mid, rfl, rfl, Nat.le_refl _, hsr, Nat.le_refl _, Nat.le_refl _, S0, (show _ ∧ _ from ⟨fun h => absurd h (Nat.lt_irrefl _), fun h => absurd h (Nat.lt_irrefl _)⟩)⟩
    case round =>
      clear S0
      obtain ⟨s, r, rfl, rfl, h1, hsr', h2, hkx, S1, I⟩ := hrel
      by_cases hlt : s < r
      · have hltz : (s : Int) < (r : Int) := by omega
        obtain ⟨c, hc0⟩ : ∃ c : Nat, c = (s + r) / 2 := ⟨_, rfl⟩
        have ec : ((s : Int) + (r : Int)) / 2 = (c : Int) := by omega
        have c1 : s ≤ c := by omega
        have c2 : c < r := by omega
        obtain ⟨pc, hpc⟩ : ∃ pc : Nat, pc = pv - c := ⟨_, rfl⟩
        have epc : (pv : Int) - (c : Int) = (pc : Int) := by omega
        have rpc : IntKind.i64.wrap (pc : Int) = (pc : Int) := by rw [IntKind.wrap_i64]; omega
        have b1 : (pc : Int) < (len : Int) := by omega
        have b2 : (c : Int) < (len : Int) := by omega
        have hpc1 : n - (c + 1) = pc := by omega
        have hpc2 : n - 1 - c = pc := by omega
        obtain ⟨y, hy⟩ : ∃ y, D[pc]! = y := ⟨_, rfl⟩
        obtain ⟨x, hx⟩ : ∃ x, D[c]! = x := ⟨_, rfl⟩
        have l1 := S1.out.ld H.R (by omega) P (pc) (by omega)
        have l2 := S1.out.ld H.R (by omega) P (c) (by omega)
        rw [hy] at l1
        rw [hx] at l2
        have hcg := S1.out.cmp H.hC (by omega) y x
        have S3 : Aside (∀ n os, SWK enc k w0 blk off D (grow (wr.drewN n) os)) := fun n os => S1.out.grown n os
        clear hc0 hpc
        cases hc : lt (key y) (key x) with
        | false =>
          have hlv := H.notless hc
          have hlw := decide_eq_false hlv
          have I2 : Aside ((s0 < c + 1 → lt (key D[n - (c + 1)]!) (key D[c + 1 - 1]!) = false) ∧ (r < mid → lt (key D[n - 1 - r]!) (key D[r]!) = true)) := ⟨fun _ => by rw [hpc1, Nat.add_sub_cancel, hy, hx]; exact hc, I.out.2⟩
          clear S1 I hc hy hx hpc1 hpc2
          go_wp2_with fail
          go_quiet_grown (first | (go_at_fn g; refine Calls.grown_of (hcg _ _)))
          clear l1 l2 hcg
          have S4 : Aside (SWK enc k w0 blk off D (grow (wr.drewN nq) osq)) := S3.out nq osq
          clear S3
          generalize grow (wr.drewN nq) osq = w2 at S4 ⊢
          go_wp2
          go_roundg (r - (c + 1))
          case measure => omega
          case rel => exact ⟨c + 1, r, by go_num, rfl, by omega, by omega, h2, Nat.le_refl _, S4, I2⟩
        | true =>
          have hlv := H.less hc
          have hlw := decide_eq_true hlv
          have I2 : Aside ((s0 < s → lt (key D[n - s]!) (key D[s - 1]!) = false) ∧ (c < mid → lt (key D[n - 1 - c]!) (key D[c]!) = true)) := ⟨I.out.1, fun _ => by rw [hpc2, hy, hx]; exact hc⟩
          clear S1 I hc hy hx hpc1 hpc2
          go_wp2_with fail
          go_quiet_grown (first | (go_at_fn g; refine Calls.grown_of (hcg _ _)))
          clear l1 l2 hcg
          have S4 : Aside (SWK enc k w0 blk off D (grow (wr.drewN nq) osq)) := S3.out nq osq
          clear S3
          generalize grow (wr.drewN nq) osq = w2 at S4 ⊢
          go_wp2
          go_roundg (c - s)
          case measure => omega
          case rel => exact ⟨s, c, rfl, by first | rfl | go_num, h1, c1, by omega, Nat.le_refl _, S4, I2⟩
      · have hltz : ¬ (s : Int) < (r : Int) := by omega
        obtain rfl : r = s := by omega
        obtain ⟨X1, X2, Y1, Y2, x1, x2, y1, y2, eX, eY, o1, o2, o3, o4, HM⟩ := CUT.out r s0 mid (Or.inl ⟨k1, by omega, rfl⟩) h1 h2 I.out.1 I.out.2
        have S2 : Aside (SWK enc k w0 blk off (PX ++ (X1 ++ (X2 ++ (Y1 ++ (Y2 ++ S))))).toArray wr) := by
          have := S1.out
          rw [HD.out, eX, eY] at this
          simp only [List.append_assoc] at this
          exact this
        have HM' : Aside (mrg key X Y = mrg key X1 Y1 ++ mrg key X2 Y2) := HM
        have OO : Aside (Sorted key X1 ∧ Sorted key X2 ∧ Sorted key Y1 ∧ Sorted key Y2) := ⟨o1, o2, o3, o4⟩
        obtain ⟨E, hE⟩ : ∃ E : Nat, E = n - r := ⟨_, rfl⟩
        have eE : (n : Int) - (r : Int) = (E : Int) := by omega
        have E1 : E + r ≤ n := by omega
        have E2 : n ≤ E + r := by omega
        rw [← hE] at y1 y2
        have HX : Aside (X1.length + a = r ∧ r + X2.length = m ∧ m + Y1.length = E ∧ E + Y2.length = b) := ⟨x1, x2, y1, y2⟩
        have v1 : X1.length + a ≤ r := by omega
        have v2 : r ≤ X1.length + a := by omega
        have v3 : r + X2.length ≤ m := by omega
        have v4 : m ≤ r + X2.length := by omega
        have v5 : m + Y1.length ≤ E := by omega
        have v6 : E ≤ m + Y1.length := by omega
        have v7 : E + Y2.length ≤ b := by omega
        have v8 : b ≤ E + Y2.length := by omega
        clear hE x1 x2 y1 y2 eX eY o1 o2 o3 o4 HM S1 I CUT HD hsz
        have z2 := H.R
        by_cases u1 : r < m
        · have f1 : (r : Int) < (m : Int) := by omega
          have f3 : (mid : Int) < (E : Int) := by omega
          by_cases u2 : m < E
          · have f2 : (m : Int) < (E : Int) := by omega
            have f5 : (r : Int) < (mid : Int) := by omega
            have cr := CR.out r E wr X1 X2 Y1 Y2 HX.out.1 HX.out.2.1 HX.out.2.2.1 HX.out.2.2.2 (by omega) (by omega) S2.out
            by_cases u3 : a < r
            · have f4 : (a : Int) < (r : Int) := by omega
              by_cases u4 : E < b
              · have f6 : (E : Int) < (b : Int) := by omega
                go_wp2_with fail
                go_at_call 144
                refine cr.mono ?_
                rintro e wA ⟨rfl, SA'⟩
                have SA : Aside (SWK enc k w0 blk off (PX ++ (X1 ++ (Y1 ++ (X2 ++ (Y2 ++ S))))).toArray wA) := SA'
                clear cr SA' S2
                have c1 := C1.out r _ X1 X2 Y1 Y2 HX.out.1 (by omega) (by omega) (by omega) (by omega) OO.out.1 OO.out.2.2.1 SA.out
                go_wp2_with fail
                go_at_call 133
                refine c1.mono ?_
                rintro e wB ⟨rfl, SB'⟩
                have SB : Aside (SWK enc k w0 blk off (PX ++ (mrg key X1 Y1 ++ (X2 ++ (Y2 ++ S)))).toArray wB) := SB'
                have hm1 : (mrg key X1 Y1).length + a = mid := by rw [mrg_len]; omega
                clear c1 SB' SA
                have c2 := C2.out E _ (mrg key X1 Y1) X2 Y2 hm1 (by omega) (by omega) (by omega) (by omega) OO.out.2.1 OO.out.2.2.2 SB.out
                have HM1 : Aside ((mrg key X1 Y1).length + a = mid) := hm1
                clear hm1
                go_wp2_with fail
                go_at_call 133
                refine c2.mono ?_
                rintro e wC ⟨rfl, SC'⟩
                have SC : Aside (SWK enc k w0 blk off (PX ++ (mrg key X1 Y1 ++ (mrg key X2 Y2 ++ S))).toArray wC) := SC'
                clear c2 SC' SB
                go_wp2
                go_end0
                exact ⟨rfl, FIN.out X1 X2 Y1 Y2 _ HM'.out SC.out⟩
              · have f6 : ¬ (E : Int) < (b : Int) := by omega
                have ny : Y2 = [] := List.eq_nil_of_length_eq_zero (by omega)
                go_wp2_with fail
                go_at_call 144
                refine cr.mono ?_
                rintro e wA ⟨rfl, SA'⟩
                have SA : Aside (SWK enc k w0 blk off (PX ++ (X1 ++ (Y1 ++ (X2 ++ (Y2 ++ S))))).toArray wA) := SA'
                clear cr SA' S2
                have c1 := C1.out r _ X1 X2 Y1 Y2 HX.out.1 (by omega) (by omega) (by omega) (by omega) OO.out.1 OO.out.2.2.1 SA.out
                go_wp2_with fail
                go_at_call 133
                refine c1.mono ?_
                rintro e wB ⟨rfl, SB'⟩
                have SB : Aside (SWK enc k w0 blk off (PX ++ (mrg key X1 Y1 ++ (X2 ++ (Y2 ++ S)))).toArray wB) := SB'
                have hm1 : (mrg key X1 Y1).length + a = mid := by rw [mrg_len]; omega
                clear c1 SB' SA
                have SC : Aside (SWK enc k w0 blk off (PX ++ (mrg key X1 Y1 ++ (mrg key X2 Y2 ++ S))).toArray wB) := by
                  show SWK _ _ _ _ _ _ _; rw [mrg_le_nil (X := X2) (Or.inr ny), List.append_assoc]; exact SB.out
                clear SB hm1
                go_wp2
                go_end0
                exact ⟨rfl, FIN.out X1 X2 Y1 Y2 _ HM'.out SC.out⟩
            · have f4 : ¬ (a : Int) < (r : Int) := by omega
              have nx : X1 = [] := List.eq_nil_of_length_eq_zero (by omega)
              by_cases u4 : E < b
              · have f6 : (E : Int) < (b : Int) := by omega
                go_wp2_with fail
                go_at_call 144
                refine cr.mono ?_
                rintro e wA ⟨rfl, SA'⟩
                have SA : Aside (SWK enc k w0 blk off (PX ++ (X1 ++ (Y1 ++ (X2 ++ (Y2 ++ S))))).toArray wA) := SA'
                clear cr SA' S2
                have SB : Aside (SWK enc k w0 blk off (PX ++ (mrg key X1 Y1 ++ (X2 ++ (Y2 ++ S)))).toArray wA) := by
                  show SWK _ _ _ _ _ _ _; rw [mrg_le_nil (Or.inl nx), List.append_assoc]; exact SA.out
                have hm1 : (mrg key X1 Y1).length + a = mid := by rw [mrg_len]; omega
                clear SA
                have c2 := C2.out E _ (mrg key X1 Y1) X2 Y2 hm1 (by omega) (by omega) (by omega) (by omega) OO.out.2.1 OO.out.2.2.2 SB.out
                have HM1 : Aside ((mrg key X1 Y1).length + a = mid) := hm1
                clear hm1
                go_wp2_with fail
                go_at_call 133
                refine c2.mono ?_
                rintro e wC ⟨rfl, SC'⟩
                have SC : Aside (SWK enc k w0 blk off (PX ++ (mrg key X1 Y1 ++ (mrg key X2 Y2 ++ S))).toArray wC) := SC'
                clear c2 SC' SB
                go_wp2
                go_end0
                exact ⟨rfl, FIN.out X1 X2 Y1 Y2 _ HM'.out SC.out⟩
              · have f6 : ¬ (E : Int) < (b : Int) := by omega
                have ny : Y2 = [] := List.eq_nil_of_length_eq_zero (by omega)
                go_wp2_with fail
                go_at_call 144
                refine cr.mono ?_
                rintro e wA ⟨rfl, SA'⟩
                have SA : Aside (SWK enc k w0 blk off (PX ++ (X1 ++ (Y1 ++ (X2 ++ (Y2 ++ S))))).toArray wA) := SA'
                clear cr SA' S2
                have SB : Aside (SWK enc k w0 blk off (PX ++ (mrg key X1 Y1 ++ (X2 ++ (Y2 ++ S)))).toArray wA) := by
                  show SWK _ _ _ _ _ _ _; rw [mrg_le_nil (Or.inl nx), List.append_assoc]; exact SA.out
                have hm1 : (mrg key X1 Y1).length + a = mid := by rw [mrg_len]; omega
                clear SA
                have SC : Aside (SWK enc k w0 blk off (PX ++ (mrg key X1 Y1 ++ (mrg key X2 Y2 ++ S))).toArray wA) := by
                  show SWK _ _ _ _ _ _ _; rw [mrg_le_nil (X := X2) (Or.inr ny), List.append_assoc]; exact SB.out
                clear SB hm1
                go_wp2
                go_end0
                exact ⟨rfl, FIN.out X1 X2 Y1 Y2 _ HM'.out SC.out⟩
          · have f2 : ¬ (m : Int) < (E : Int) := by omega
            have f4 : (a : Int) < (r : Int) := by omega
            have f5 : ¬ (r : Int) < (mid : Int) := by omega
            have f6 : (E : Int) < (b : Int) := by omega
            have ny1 : Y1 = [] := List.eq_nil_of_length_eq_zero (by omega)
            have SA : Aside (SWK enc k w0 blk off (PX ++ (X1 ++ (Y1 ++ (X2 ++ (Y2 ++ S))))).toArray wr) := by
              have := S2.out; rw [ny1] at this ⊢; exact this
            have SB : Aside (SWK enc k w0 blk off (PX ++ (mrg key X1 Y1 ++ (X2 ++ (Y2 ++ S)))).toArray wr) := by
              show SWK _ _ _ _ _ _ _; rw [mrg_le_nil (Or.inr ny1), List.append_assoc]; exact SA.out
            clear SA S2
            have hm1 : (mrg key X1 Y1).length + a = mid := by rw [mrg_len]; omega
            have c2 := C2.out E _ (mrg key X1 Y1) X2 Y2 hm1 (by omega) (by omega) (by omega) (by omega) OO.out.2.1 OO.out.2.2.2 SB.out
            have HM1 : Aside ((mrg key X1 Y1).length + a = mid) := hm1
            clear hm1
            go_wp2_with fail
            go_at_call 133
            refine c2.mono ?_
            rintro e wC ⟨rfl, SC'⟩
            have SC : Aside (SWK enc k w0 blk off (PX ++ (mrg key X1 Y1 ++ (mrg key X2 Y2 ++ S))).toArray wC) := SC'
            clear c2 SC' SB
            go_wp2
            go_end0
            exact ⟨rfl, FIN.out X1 X2 Y1 Y2 _ HM'.out SC.out⟩
        · exfalso; omega
  · have kz : ¬ (mid : Int) < (m : Int) := by omega
    have hsr : a ≤ m := by omega
    have hr0 : m < m + 1 := by omega
    have hr1 : m ≤ mid + 1 := by omega
    have has : a ≤ a := by omega
    have hbnd : n ≤ a + b := by omega
    have hpr : m + m ≤ n := by omega
    go_enter FG, Tryz.ntmps133
    go_wp2
    go_loopg [20, 21] (m - a) (fun kx s20 s21 wr => ∃ s r : Nat, s20 = .int .i64 s ∧ s21 = .int .i64 r ∧ a ≤ s ∧ s ≤ r ∧ r ≤ m ∧ r - s ≤ kx ∧ Aside (SWK enc k w0 blk off D wr) ∧ Aside ((a < s → lt (key D[n - s]!) (key D[s - 1]!) = false) ∧ (r < m → lt (key D[n - 1 - r]!) (key D[r]!) = true)))
    case atStart => exact ⟨a, m, rfl, rfl, Nat.le_refl _, hsr, Nat.le_refl _, Nat.le_refl _, S0, (show _ ∧ _ from ⟨fun h => absurd h (Nat.lt_irrefl _), fun h => absurd h (Nat.lt_irrefl _)⟩)⟩
    case round =>
      clear S0
      obtain ⟨s, r, rfl, rfl, h1, hsr', h2, hkx, S1, I⟩ := hrel
      by_cases hlt : s < r
      · have hltz : (s : Int) < (r : Int) := by omega
        obtain ⟨c, hc0⟩ : ∃ c : Nat, c = (s + r) / 2 := ⟨_, rfl⟩
        have ec : ((s : Int) + (r : Int)) / 2 = (c : Int) := by omega
        have c1 : s ≤ c := by omega
        have c2 : c < r := by omega
        obtain ⟨pc, hpc⟩ : ∃ pc : Nat, pc = pv - c := ⟨_, rfl⟩
        have epc : (pv : Int) - (c : Int) = (pc : Int) := by omega
        have rpc : IntKind.i64.wrap (pc : Int) = (pc : Int) := by rw [IntKind.wrap_i64]; omega
        have b1 : (pc : Int) < (len : Int) := by omega
        have b2 : (c : Int) < (len : Int) := by omega
        have hpc1 : n - (c + 1) = pc := by omega
        have hpc2 : n - 1 - c = pc := by omega
        obtain ⟨y, hy⟩ : ∃ y, D[pc]! = y := ⟨_, rfl⟩
        obtain ⟨x, hx⟩ : ∃ x, D[c]! = x := ⟨_, rfl⟩
        have l1 := S1.out.ld H.R (by omega) P (pc) (by omega)
        have l2 := S1.out.ld H.R (by omega) P (c) (by omega)
        rw [hy] at l1
        rw [hx] at l2
        have hcg := S1.out.cmp H.hC (by omega) y x
        have S3 : Aside (∀ n os, SWK enc k w0 blk off D (grow (wr.drewN n) os)) := fun n os => S1.out.grown n os
        clear hc0 hpc
        cases hc : lt (key y) (key x) with
        | false =>
          have hlv := H.notless hc
          have hlw := decide_eq_false hlv
          have I2 : Aside ((a < c + 1 → lt (key D[n - (c + 1)]!) (key D[c + 1 - 1]!) = false) ∧ (r < m → lt (key D[n - 1 - r]!) (key D[r]!) = true)) := ⟨fun _ => by rw [hpc1, Nat.add_sub_cancel, hy, hx]; exact hc, I.out.2⟩
          clear S1 I hc hy hx hpc1 hpc2
          go_wp2_with fail
          go_quiet_grown (first | (go_at_fn g; refine Calls.grown_of (hcg _ _)))
          clear l1 l2 hcg
          have S4 : Aside (SWK enc k w0 blk off D (grow (wr.drewN nq) osq)) := S3.out nq osq
          clear S3
          generalize grow (wr.drewN nq) osq = w2 at S4 ⊢
          go_wp2
          go_roundg (r - (c + 1))
          case measure => omega
          case rel => exact ⟨c + 1, r, by go_num, rfl, by omega, by omega, h2, Nat.le_refl _, S4, I2⟩
        | true =>
          have hlv := H.less hc
          have hlw := decide_eq_true hlv
          have I2 : Aside ((a < s → lt (key D[n - s]!) (key D[s - 1]!) = false) ∧ (c < m → lt (key D[n - 1 - c]!) (key D[c]!) = true)) := ⟨I.out.1, fun _ => by rw [hpc2, hy, hx]; exact hc⟩
          clear S1 I hc hy hx hpc1 hpc2
          go_wp2_with fail
          go_quiet_grown (first | (go_at_fn g; refine Calls.grown_of (hcg _ _)))
          clear l1 l2 hcg
          have S4 : Aside (SWK enc k w0 blk off D (grow (wr.drewN nq) osq)) := S3.out nq osq
          clear S3
          generalize grow (wr.drewN nq) osq = w2 at S4 ⊢
          go_wp2
          go_roundg (c - s)
          case measure => omega
          case rel => exact ⟨s, c, rfl, by first | rfl | go_num, h1, c1, by omega, Nat.le_refl _, S4, I2⟩
      · have hltz : ¬ (s : Int) < (r : Int) := by omega
        obtain rfl : r = s := by omega
        obtain ⟨X1, X2, Y1, Y2, x1, x2, y1, y2, eX, eY, o1, o2, o3, o4, HM⟩ := CUT.out r a m (Or.inr ⟨k1, rfl, rfl⟩) h1 h2 I.out.1 I.out.2
        have S2 : Aside (SWK enc k w0 blk off (PX ++ (X1 ++ (X2 ++ (Y1 ++ (Y2 ++ S))))).toArray wr) := by
          have := S1.out
          rw [HD.out, eX, eY] at this
          simp only [List.append_assoc] at this
          exact this
        have HM' : Aside (mrg key X Y = mrg key X1 Y1 ++ mrg key X2 Y2) := HM
        have OO : Aside (Sorted key X1 ∧ Sorted key X2 ∧ Sorted key Y1 ∧ Sorted key Y2) := ⟨o1, o2, o3, o4⟩
        obtain ⟨E, hE⟩ : ∃ E : Nat, E = n - r := ⟨_, rfl⟩
        have eE : (n : Int) - (r : Int) = (E : Int) := by omega
        have E1 : E + r ≤ n := by omega
        have E2 : n ≤ E + r := by omega
        rw [← hE] at y1 y2
        have HX : Aside (X1.length + a = r ∧ r + X2.length = m ∧ m + Y1.length = E ∧ E + Y2.length = b) := ⟨x1, x2, y1, y2⟩
        have v1 : X1.length + a ≤ r := by omega
        have v2 : r ≤ X1.length + a := by omega
        have v3 : r + X2.length ≤ m := by omega
        have v4 : m ≤ r + X2.length := by omega
        have v5 : m + Y1.length ≤ E := by omega
        have v6 : E ≤ m + Y1.length := by omega
        have v7 : E + Y2.length ≤ b := by omega
        have v8 : b ≤ E + Y2.length := by omega
        clear hE x1 x2 y1 y2 eX eY o1 o2 o3 o4 HM S1 I CUT HD hsz
        have z2 := H.R
        by_cases u1 : r < m
        · have f1 : (r : Int) < (m : Int) := by omega
          have f3 : (mid : Int) < (E : Int) := by omega
          by_cases u2 : m < E
          · have f2 : (m : Int) < (E : Int) := by omega
            have f5 : (r : Int) < (mid : Int) := by omega
            have cr := CR.out r E wr X1 X2 Y1 Y2 HX.out.1 HX.out.2.1 HX.out.2.2.1 HX.out.2.2.2 (by omega) (by omega) S2.out
            by_cases u3 : a < r
            · have f4 : (a : Int) < (r : Int) := by omega
              by_cases u4 : E < b
              · have f6 : (E : Int) < (b : Int) := by omega
                go_wp2_with fail
                go_at_call 144
                refine cr.mono ?_
                rintro e wA ⟨rfl, SA'⟩
                have SA : Aside (SWK enc k w0 blk off (PX ++ (X1 ++ (Y1 ++ (X2 ++ (Y2 ++ S))))).toArray wA) := SA'
                clear cr SA' S2
                have c1 := C1.out r _ X1 X2 Y1 Y2 HX.out.1 (by omega) (by omega) (by omega) (by omega) OO.out.1 OO.out.2.2.1 SA.out
                go_wp2_with fail
                go_at_call 133
                refine c1.mono ?_
                rintro e wB ⟨rfl, SB'⟩
                have SB : Aside (SWK enc k w0 blk off (PX ++ (mrg key X1 Y1 ++ (X2 ++ (Y2 ++ S)))).toArray wB) := SB'
                have hm1 : (mrg key X1 Y1).length + a = mid := by rw [mrg_len]; omega
                clear c1 SB' SA
                have c2 := C2.out E _ (mrg key X1 Y1) X2 Y2 hm1 (by omega) (by omega) (by omega) (by omega) OO.out.2.1 OO.out.2.2.2 SB.out
                have HM1 : Aside ((mrg key X1 Y1).length + a = mid) := hm1
                clear hm1
                go_wp2_with fail
                go_at_call 133
                refine c2.mono ?_
                rintro e wC ⟨rfl, SC'⟩
                have SC : Aside (SWK enc k w0 blk off (PX ++ (mrg key X1 Y1 ++ (mrg key X2 Y2 ++ S))).toArray wC) := SC'
                clear c2 SC' SB
                go_wp2
                go_end0
                exact ⟨rfl, FIN.out X1 X2 Y1 Y2 _ HM'.out SC.out⟩
              · have f6 : ¬ (E : Int) < (b : Int) := by omega
                have ny : Y2 = [] := List.eq_nil_of_length_eq_zero (by omega)
                go_wp2_with fail
                go_at_call 144
                refine cr.mono ?_
                rintro e wA ⟨rfl, SA'⟩
                have SA : Aside (SWK enc k w0 blk off (PX ++ (X1 ++ (Y1 ++ (X2 ++ (Y2 ++ S))))).toArray wA) := SA'
                clear cr SA' S2
                have c1 := C1.out r _ X1 X2 Y1 Y2 HX.out.1 (by omega) (by omega) (by omega) (by omega) OO.out.1 OO.out.2.2.1 SA.out
                go_wp2_with fail
                go_at_call 133
                refine c1.mono ?_
                rintro e wB ⟨rfl, SB'⟩
                have SB : Aside (SWK enc k w0 blk off (PX ++ (mrg key X1 Y1 ++ (X2 ++ (Y2 ++ S)))).toArray wB) := SB'
                have hm1 : (mrg key X1 Y1).length + a = mid := by rw [mrg_len]; omega
                clear c1 SB' SA
                have SC : Aside (SWK enc k w0 blk off (PX ++ (mrg key X1 Y1 ++ (mrg key X2 Y2 ++ S))).toArray wB) := by
                  show SWK _ _ _ _ _ _ _; rw [mrg_le_nil (X := X2) (Or.inr ny), List.append_assoc]; exact SB.out
                clear SB hm1
                go_wp2
                go_end0
                exact ⟨rfl, FIN.out X1 X2 Y1 Y2 _ HM'.out SC.out⟩
            · have f4 : ¬ (a : Int) < (r : Int) := by omega
              have nx : X1 = [] := List.eq_nil_of_length_eq_zero (by omega)
              by_cases u4 : E < b
              · have f6 : (E : Int) < (b : Int) := by omega
                go_wp2_with fail
                go_at_call 144
                refine cr.mono ?_
                rintro e wA ⟨rfl, SA'⟩
                have SA : Aside (SWK enc k w0 blk off (PX ++ (X1 ++ (Y1 ++ (X2 ++ (Y2 ++ S))))).toArray wA) := SA'
                clear cr SA' S2
                have SB : Aside (SWK enc k w0 blk off (PX ++ (mrg key X1 Y1 ++ (X2 ++ (Y2 ++ S)))).toArray wA) := by
                  show SWK _ _ _ _ _ _ _; rw [mrg_le_nil (Or.inl nx), List.append_assoc]; exact SA.out
                have hm1 : (mrg key X1 Y1).length + a = mid := by rw [mrg_len]; omega
                clear SA
                have c2 := C2.out E _ (mrg key X1 Y1) X2 Y2 hm1 (by omega) (by omega) (by omega) (by omega) OO.out.2.1 OO.out.2.2.2 SB.out
                have HM1 : Aside ((mrg key X1 Y1).length + a = mid) := hm1
                clear hm1
                go_wp2_with fail
                go_at_call 133
                refine c2.mono ?_
                rintro e wC ⟨rfl, SC'⟩
                have SC : Aside (SWK enc k w0 blk off (PX ++ (mrg key X1 Y1 ++ (mrg key X2 Y2 ++ S))).toArray wC) := SC'
                clear c2 SC' SB
                go_wp2
                go_end0
                exact ⟨rfl, FIN.out X1 X2 Y1 Y2 _ HM'.out SC.out⟩
              · have f6 : ¬ (E : Int) < (b : Int) := by omega
                have ny : Y2 = [] := List.eq_nil_of_length_eq_zero (by omega)
                go_wp2_with fail
                go_at_call 144
                refine cr.mono ?_
                rintro e wA ⟨rfl, SA'⟩
                have SA : Aside (SWK enc k w0 blk off (PX ++ (X1 ++ (Y1 ++ (X2 ++ (Y2 ++ S))))).toArray wA) := SA'
                clear cr SA' S2
                have SB : Aside (SWK enc k w0 blk off (PX ++ (mrg key X1 Y1 ++ (X2 ++ (Y2 ++ S)))).toArray wA) := by
                  show SWK _ _ _ _ _ _ _; rw [mrg_le_nil (Or.inl nx), List.append_assoc]; exact SA.out
                have hm1 : (mrg key X1 Y1).length + a = mid := by rw [mrg_len]; omega
                clear SA
                have SC : Aside (SWK enc k w0 blk off (PX ++ (mrg key X1 Y1 ++ (mrg key X2 Y2 ++ S))).toArray wA) := by
                  show SWK _ _ _ _ _ _ _; rw [mrg_le_nil (X := X2) (Or.inr ny), List.append_assoc]; exact SB.out
                clear SB hm1
                go_wp2
                go_end0
                exact ⟨rfl, FIN.out X1 X2 Y1 Y2 _ HM'.out SC.out⟩
          · exfalso; omega
        · have f1 : ¬ (r : Int) < (m : Int) := by omega
          have f3 : ¬ (mid : Int) < (E : Int) := by omega
          have f4 : (a : Int) < (r : Int) := by omega
          have nx2 : X2 = [] := List.eq_nil_of_length_eq_zero (by omega)
          by_cases u5 : r < mid
          · have f5 : (r : Int) < (mid : Int) := by omega
            have SA : Aside (SWK enc k w0 blk off (PX ++ (X1 ++ (Y1 ++ (X2 ++ (Y2 ++ S))))).toArray wr) := by
              have := S2.out; rw [nx2] at this ⊢; exact this
            clear S2
            have c1 := C1.out r _ X1 X2 Y1 Y2 HX.out.1 (by omega) (by omega) (by omega) (by omega) OO.out.1 OO.out.2.2.1 SA.out
            go_wp2_with fail
            go_at_call 133
            refine c1.mono ?_
            rintro e wB ⟨rfl, SB'⟩
            have SB : Aside (SWK enc k w0 blk off (PX ++ (mrg key X1 Y1 ++ (X2 ++ (Y2 ++ S)))).toArray wB) := SB'
            have hm1 : (mrg key X1 Y1).length + a = mid := by rw [mrg_len]; omega
            clear c1 SB' SA
            have SC : Aside (SWK enc k w0 blk off (PX ++ (mrg key X1 Y1 ++ (mrg key X2 Y2 ++ S))).toArray wB) := by
              show SWK _ _ _ _ _ _ _; rw [mrg_le_nil (X := X2) (Or.inl nx2), List.append_assoc]; exact SB.out
            clear SB hm1
            go_wp2
            go_end0
            exact ⟨rfl, FIN.out X1 X2 Y1 Y2 _ HM'.out SC.out⟩
          · have f5 : ¬ (r : Int) < (mid : Int) := by omega
            have ny1 : Y1 = [] := List.eq_nil_of_length_eq_zero (by omega)
            have SA : Aside (SWK enc k w0 blk off (PX ++ (X1 ++ (Y1 ++ (X2 ++ (Y2 ++ S))))).toArray wr) := by
              have := S2.out; rw [nx2] at this ⊢; exact this
            clear S2
            have SB : Aside (SWK enc k w0 blk off (PX ++ (mrg key X1 Y1 ++ (X2 ++ (Y2 ++ S)))).toArray wr) := by
              show SWK _ _ _ _ _ _ _; rw [mrg_le_nil (Or.inr ny1), List.append_assoc]; exact SA.out
            have hm1 : (mrg key X1 Y1).length + a = mid := by rw [mrg_len]; omega
            clear SA
            have SC : Aside (SWK enc k w0 blk off (PX ++ (mrg key X1 Y1 ++ (mrg key X2 Y2 ++ S))).toArray wr) := by
              show SWK _ _ _ _ _ _ _; rw [mrg_le_nil (X := X2) (Or.inl nx2), List.append_assoc]; exact SB.out
            clear SB hm1
            go_wp2
            go_end0
            exact ⟨rfl, FIN.out X1 X2 Y1 Y2 _ HM'.out SC.out⟩

theorem sym_srt (L : SrtP P k) (H : SrtR P k enc key cf g cb blk off len d0 w0) (cap : Nat) : ∀ N, SymDone P k enc key g cb blk off len cap w0 N
  | 0 => fun a m b w PX X Y S hN hx hy _ _ _ _ _ _ _ => absurd hN (by omega)
  | N + 1 => fun a m b w PX X Y S hN hx hy ha hm hb hX hY hl S0 => by
    have IH := sym_srt L H cap N
    by_cases h1 : X.length = 1
    · obtain ⟨x, rfl⟩ := List.length_eq_one_iff.1 h1
      exact symLeft_srt L H cap a m b w PX Y S x ha (by simpa using hm) hb hY (by simpa using hl) S0
    · by_cases h2 : Y.length = 1
      · obtain ⟨y, rfl⟩ := List.length_eq_one_iff.1 h2
        exact symRight_srt L H cap a m b w PX X S y ha hm (by simpa using hb) (by omega) hX (by simpa using hl) S0
      · exact symMain_srt L H cap N IH a m b w PX X Y S hN (by omega) (by omega) ha hm hb hX hY hl S0
end Go.Proofs.YthnnpnlapjlnoaaGreatDoor.Ca

/-
  THE WALK OF slices.stableCmpFunc AND slices.SortStableFunc at rows of elements of k cells: the row is sorted, the elements of each key in their order.
-/
set_option linter.unusedVariables false
namespace Go.Proofs.YthnnpnlapjlnoaaGreatDoor.Ca
open Go.Shelf Go.RowKit Go.Lib Go.Sort
variable {P : Program} {α : Type} [Inhabited α] {k : Nat} {enc : α → List Value} {key : α → RowB} {cf : α → α → Int} {g : Nat} {cb : Array Value} {blk off len : Nat} {d0 : Array α} {w0 : World}

/-- how far a pass has come: runs of bs behind it, and what is left -/
structure PassAt (key : α → RowB) (L0 : List α) (len bs rs a : Nat) (P1 R1 : List α) : Prop where
  ha : P1.length = a
  l : a + R1.length = len
  p : ∀ R', Runs key bs R' → Runs key bs (P1 ++ R')
  r : Runs key rs R1
  e : Same key (P1 ++ R1) L0
omit [Inhabited α] in
theorem Runs.two {bs : Nat} {R : List α} (h : Runs key bs R) (hl : 2 * bs ≤ R.length) : Sorted key (R.take bs) ∧ Sorted key ((R.drop bs).take bs) ∧ Runs key bs ((R.drop bs).drop bs) :=
  ⟨(Runs.one key h).1, (Runs.one key (Runs.one key h).2).1, (Runs.one key (Runs.one key h).2).2⟩
omit [Inhabited α] in
theorem PassAt.step {L0 : List α} {len bs a : Nat} {P1 R1 : List α} (h : PassAt key L0 len (2 * bs) bs a P1 R1) (hl : 2 * bs ≤ R1.length) :
    PassAt key L0 len (2 * bs) bs (a + 2 * bs) (P1 ++ mrg key (R1.take bs) ((R1.drop bs).take bs)) ((R1.drop bs).drop bs) := by
  obtain ⟨s1, s2, s3⟩ := Runs.two h.r hl
  have hm : (mrg key (R1.take bs) ((R1.drop bs).take bs)).length = 2 * bs := by rw [mrg_len]; simp; omega
  refine ⟨by rw [List.length_append, hm, h.ha], by have := h.l; simp; omega, fun R' hR => ?_, s3, ?_⟩
  · rw [List.append_assoc]
    exact h.p _ (.cons _ _ (mrg_sorted key s1 s2) hm hR)
  · refine Same.trans key ?_ h.e
    rw [List.append_assoc]
    have e : R1 = (R1.take bs ++ (R1.drop bs).take bs) ++ (R1.drop bs).drop bs := by rw [List.append_assoc, List.take_append_drop, List.take_append_drop]
    conv => rhs; rw [e]
    exact (mrg_same key s1).ctx key P1 _
omit [Inhabited α] in
theorem PassAt.last2 {L0 : List α} {len bs a : Nat} {P1 R1 : List α} (h : PassAt key L0 len (2 * bs) bs a P1 R1) (hl : R1.length < 2 * bs) :
    Runs key (2 * bs) (P1 ++ (mrg key (R1.take bs) (R1.drop bs) ++ [])) ∧ Same key (P1 ++ (mrg key (R1.take bs) (R1.drop bs) ++ [])) L0 := by
  have o := Runs.one key h.r
  have s2 : Sorted key (R1.drop bs) := Runs.sorted key o.2 (by simp; omega)
  rw [List.append_nil]
  refine ⟨h.p _ (.last _ (mrg_sorted key o.1 s2) (by rw [mrg_len]; simp; omega)), Same.trans key ?_ h.e⟩
  have := (mrg_same key (ys := R1.drop bs) o.1).ctx key P1 []
  simpa using this
omit [Inhabited α] in
theorem PassAt.last1 {L0 : List α} {len bs a : Nat} {P1 R1 : List α} (h : PassAt key L0 len (2 * bs) bs a P1 R1) (hl : R1.length ≤ bs) : Runs key (2 * bs) (P1 ++ R1) :=
  h.p _ (.last _ (Runs.sorted key h.r hl) (by omega))
/-- how far the runs of 20 have come -/
structure HeadAt (key : α → RowB) (L0 : List α) (len a : Nat) (P1 R1 : List α) : Prop where
  ha : P1.length = a
  l : a + R1.length = len
  p : ∀ R', Runs key 20 R' → Runs key 20 (P1 ++ R')
  e : Same key (P1 ++ R1) L0
omit [Inhabited α] in
theorem HeadAt.step {L0 : List α} {len a : Nat} {P1 R1 X' : List α} (h : HeadAt key L0 len a P1 R1) (hl : 20 ≤ R1.length) (h1 : X'.length = (R1.take 20).length) (h2 : Sorted key X') (h3 : Same key X' (R1.take 20)) :
    HeadAt key L0 len (a + 20) (P1 ++ X') (R1.drop 20) := by
  have hx : X'.length = 20 := by rw [h1]; simp; omega
  refine ⟨by rw [List.length_append, hx, h.ha], by have := h.l; simp; omega, fun R' hR => ?_, ?_⟩
  · rw [List.append_assoc]; exact h.p _ (.cons _ _ h2 hx hR)
  · refine Same.trans key ?_ h.e
    rw [List.append_assoc]
    conv => rhs; rw [← List.take_append_drop 20 R1]
    exact h3.ctx key P1 _
omit [Inhabited α] in
theorem HeadAt.last {L0 : List α} {len a : Nat} {P1 R1 X' : List α} (h : HeadAt key L0 len a P1 R1) (hl : R1.length < 20) (h1 : X'.length = R1.length) (h2 : Sorted key X') (h3 : Same key X' R1) : Runs key 20 (P1 ++ X') ∧ Same key (P1 ++ X') L0 ∧ (P1 ++ X').length = len :=
  ⟨h.p _ (.last _ h2 (by omega)), Same.trans key (by have := h3.ctx key P1 []; simpa using this) h.e, by have := h.ha; have := h.l; simp; omega⟩
/-- what the passes leave -/
structure RunsAt (key : α → RowB) (L0 : List α) (len bs : Nat) (L1 : List α) : Prop where
  r : Runs key bs L1
  e : Same key L1 L0
  l : L1.length = len

set_option maxHeartbeats 4000000 in
set_option maxRecDepth 1000000 in
theorem stable_srt (L : SrtP P k) (H : SrtR P k enc key cf g cb blk off len d0 w0) (cap : Nat) (w : World) (L0 : List α) (hl : L0.length = len) (hsm : len ≤ 1099511627776) (S0 : SWK enc k w0 blk off L0.toArray w) :
    Calls P 114 #[.slice (some ⟨blk, off, none⟩) len cap, .int .i64 len, .func (.func g) #[] cb] w fun e w' => e = .returned (.tuple #[]) ∧ ∃ L1, Sorted key L1 ∧ Same key L1 L0 ∧ L1.length = len ∧ SWK enc k w0 blk off L1.toArray w' := by
  have mixed := L.mixed; have t0 := L.t0; have a0 := L.a0; have z0 := L.z0; have v0 := L.v0; have t3 := L.t3; have a3 := L.a3; have z3 := L.z3; have v3 := L.v3; have tU := L.tU; have aU := L.aU; have zU := L.zU; have uU := run_underlying L.tU; have u3 := run_underlying L.t3; have t4 := L.t4; have a4 := L.a4; have z4 := L.z4; have v4 := L.v4; have tS := L.tS; have aS := L.aS; have zS := L.zS; have vS := L.vS; have tC := L.tC; have aC := L.aC; have zC := L.zC; have aE := L.aE; have zE := L.zE
  have FG := L.fStable
  have eI : ∀ args w, (callFunc 132 args).run P w = .ok (.enter 132 args) w := enters_of L.fIns (by kernel_rfl) rfl
  have eS : ∀ args w, (callFunc 133 args).run P w = .ok (.enter 133 args) w := enters_of L.fSym (by kernel_rfl) rfl
  have CI : Aside (∀ (a b : Nat) (W : World) (PX X S : List α), a = PX.length → b = a + X.length → PX.length + X.length + S.length = len → SWK enc k w0 blk off (PX ++ (X ++ S)).toArray W →
      Calls P 132 #[.slice (some ⟨blk, off, none⟩) len cap, .int .i64 a, .int .i64 b, .func (.func g) #[] cb] W fun e w' => e = .returned (.tuple #[]) ∧ ∃ X', X'.length = X.length ∧ Sorted key X' ∧ Same key X' X ∧ SWK enc k w0 blk off (PX ++ (X' ++ S)).toArray w') :=
    fun a b W PX X S h1 h2 h3 h4 => ins_srt L H cap a b W PX X S h1 h2 h3 h4
  have CS : Aside (∀ (a m b : Nat) (W : World) (PX X Y S : List α), 0 < X.length → 0 < Y.length → a = PX.length → m = a + X.length → b = m + Y.length → Sorted key X → Sorted key Y → PX.length + X.length + Y.length + S.length = len → SWK enc k w0 blk off (PX ++ (X ++ (Y ++ S))).toArray W →
      Calls P 133 #[.slice (some ⟨blk, off, none⟩) len cap, .int .i64 a, .int .i64 m, .int .i64 b, .func (.func g) #[] cb] W fun e w' => e = .returned (.tuple #[]) ∧ SWK enc k w0 blk off (PX ++ (mrg key X Y ++ S)).toArray w') :=
    fun a m b W PX X Y S h1 h2 h3 h4 h5 h6 h7 h8 h9 => sym_srt L H cap _ a m b W PX X Y S (Nat.le_refl _) h1 h2 h3 h4 h5 h6 h7 h8 h9
  have A0 : Aside (HeadAt key L0 len 0 [] L0) := ⟨rfl, by omega, fun R' h => h, Same.refl key _⟩
  have S0 : Aside (SWK enc k w0 blk off ([] ++ L0).toArray w) := S0
  clear L
  go_enter FG, Tryz.ntmps114
  go_wp2
  go_loopg [7, 8] len (fun kx s7 s8 wr => ∃ (a b : Nat) (P1 R1 : List α), s7 = .int .i64 a ∧ s8 = .int .i64 b ∧ b ≤ a + 20 ∧ a + 20 ≤ b ∧ a ≤ len ∧ len - a ≤ kx ∧ Aside (HeadAt key L0 len a P1 R1) ∧ Aside (SWK enc k w0 blk off (P1 ++ R1).toArray wr))
  case atStart => exact ⟨0, 20, [], L0, by first | rfl | go_num, by first | rfl | go_num, by omega, by omega, Nat.zero_le _, by omega, A0, S0⟩
  case round =>
    clear S0 A0
    obtain ⟨a, b, P1, R1, rfl, rfl, hb1, hb2, hal, hkx, HA, S1⟩ := hrel
    have hla := HA.out.ha
    have hll := HA.out.l
    by_cases hlt : b ≤ len
    · have hltz : (b : Int) ≤ (len : Int) := by omega
      have c := CI.out a b wr P1 (R1.take 20) (R1.drop 20) hla.symm (by simp; omega) (by simp; omega) (by rw [List.take_append_drop]; exact S1.out)
      have NX : Aside (∀ W, (∃ X', X'.length = (R1.take 20).length ∧ Sorted key X' ∧ Same key X' (R1.take 20) ∧ SWK enc k w0 blk off (P1 ++ (X' ++ R1.drop 20)).toArray W) → ∃ (P2 R2 : List α), HeadAt key L0 len (a + 20) P2 R2 ∧ SWK enc k w0 blk off (P2 ++ R2).toArray W) := fun W ⟨X', h1, h2, h3, h4⟩ =>
        ⟨P1 ++ X', R1.drop 20, HA.out.step (by omega) h1 h2 h3, by rw [List.append_assoc]; exact h4⟩
      clear S1 HA hla hll CS CI
      go_wp2_with fail
      go_at_call 132
      refine c.mono ?_
      rintro e wA ⟨rfl, hX⟩
      obtain ⟨P2, R2, HA2, S2⟩ := NX.out _ hX
      have eab : a + 20 = b := by omega
      rw [eab] at HA2
      have HA2' : Aside (HeadAt key L0 len b P2 R2) := HA2
      have S2' : Aside (SWK enc k w0 blk off (P2 ++ R2).toArray wA) := S2
      clear c NX hX HA2 S2 eab
      go_wp2
      go_roundg (len - b)
      case measure => omega
      case rel => exact ⟨b, b + 20, P2, R2, rfl, by go_num, by omega, by omega, hlt, Nat.le_refl _, HA2', S2'⟩
    · have hltz : ¬ (b : Int) ≤ (len : Int) := by omega
      have hR : R1.length < 20 := by omega
      have c := CI.out a len wr P1 R1 [] hla.symm (by omega) (by simp; omega) (by simpa using S1.out)
      have NX : Aside (∀ W, (∃ X', X'.length = R1.length ∧ Sorted key X' ∧ Same key X' R1 ∧ SWK enc k w0 blk off (P1 ++ (X' ++ [])).toArray W) → ∃ L1, RunsAt key L0 len 20 L1 ∧ SWK enc k w0 blk off L1.toArray W) := fun W ⟨X', h1, h2, h3, h4⟩ => by
        obtain ⟨q1, q2, q3⟩ := HA.out.last hR h1 h2 h3
        exact ⟨P1 ++ X', ⟨q1, q2, q3⟩, by rw [List.append_nil] at h4; exact h4⟩
      clear S1 HA hla hll CI hR
      go_wp2_with fail
      go_at_call 132
      refine c.mono ?_
      rintro e wA ⟨rfl, hX⟩
      obtain ⟨L1, RA, S2⟩ := NX.out _ hX
      have RA' : Aside (RunsAt key L0 len 20 L1) := RA
      have S2' : Aside (SWK enc k w0 blk off L1.toArray wA) := S2
      clear c NX hX RA S2
      go_wp2
      go_loopg [6, 7, 8] (len + 1) (fun kx s6 s7 s8 wr => ∃ (bs : Nat) (L1 : List α), s6 = .int .i64 bs ∧ 20 ≤ bs ∧ bs ≤ 2 * len + 20 ∧ len + 1 - bs ≤ kx ∧ Aside (RunsAt key L0 len bs L1) ∧ Aside (SWK enc k w0 blk off L1.toArray wr))
      case atStart => exact ⟨20, L1, rfl, Nat.le_refl _, by omega, by omega, RA', S2'⟩
      case round =>
        clear S2' RA'
        obtain ⟨bs, L2, rfl, hbs, hbs2, hkx2, RA, S1⟩ := hrel
        by_cases hlt2 : bs < len
        · have hltz2 : (bs : Int) < (len : Int) := by omega
          have PA0 : Aside (PassAt key L0 len (2 * bs) bs 0 [] L2) := ⟨rfl, by have := RA.out.l; omega, fun R' h => h, RA.out.r, RA.out.e⟩
          have S2 : Aside (SWK enc k w0 blk off ([] ++ L2).toArray wr) := S1.out
          clear RA S1
          go_wp2
          go_loopg [7, 8] (len + 1) (fun kx s7 s8 wr => ∃ (a b : Nat) (P1 R1 : List α), s7 = .int .i64 a ∧ s8 = .int .i64 b ∧ b ≤ a + 2 * bs ∧ a + 2 * bs ≤ b ∧ a ≤ len ∧ len - a ≤ kx ∧ Aside (PassAt key L0 len (2 * bs) bs a P1 R1) ∧ Aside (SWK enc k w0 blk off (P1 ++ R1).toArray wr))
          case atStart => exact ⟨0, 2 * bs, [], L2, by first | rfl | go_num, by first | rfl | go_num | (congr 1; omega), by omega, by omega, Nat.zero_le _, by omega, PA0, S2⟩
          case round =>
            clear S2 PA0
            obtain ⟨a, b, P1, R1, rfl, rfl, hb1, hb2, hal, hkx, PA, S1⟩ := hrel
            have hla := PA.out.ha
            have hll := PA.out.l
            by_cases hlt3 : b ≤ len
            · have hltz3 : (b : Int) ≤ (len : Int) := by omega
              obtain ⟨m, hm⟩ : ∃ m : Nat, m = a + bs := ⟨_, rfl⟩
              have em : (a : Int) + (bs : Int) = (m : Int) := by omega
              obtain ⟨s1, s2, s3⟩ := Runs.two PA.out.r (by omega)
              have c := CS.out a m b wr P1 (R1.take bs) ((R1.drop bs).take bs) ((R1.drop bs).drop bs) (by simp; omega) (by simp; omega) hla.symm (by simp; omega) (by simp; omega) s1 s2 (by simp; omega) (by rw [List.take_append_drop bs (R1.drop bs), List.take_append_drop]; exact S1.out)
              have PN : Aside (PassAt key L0 len (2 * bs) bs (a + 2 * bs) (P1 ++ mrg key (R1.take bs) ((R1.drop bs).take bs)) ((R1.drop bs).drop bs)) := PA.out.step (by omega)
              obtain ⟨M, hM⟩ : ∃ M, mrg key (R1.take bs) ((R1.drop bs).take bs) = M := ⟨_, rfl⟩
              obtain ⟨T, hT⟩ : ∃ T, (R1.drop bs).drop bs = T := ⟨_, rfl⟩
              rw [hM, hT] at c PN
              clear hM hT s1 s2 s3 hm S1 PA hla hll CS
              go_wp2_with fail
              go_at_call 133
              refine c.mono ?_
              rintro e wB ⟨rfl, hX⟩
              have eab : a + 2 * bs = b := by omega
              have PN2 := PN.out
              rw [eab] at PN2
              have PN' : Aside (PassAt key L0 len (2 * bs) bs b (P1 ++ M) T) := PN2
              have S2' : Aside (SWK enc k w0 blk off ((P1 ++ M) ++ T).toArray wB) := by show SWK _ _ _ _ _ _ _; rw [List.append_assoc]; exact hX
              clear c hX PN PN2 eab
              go_wp2
              go_roundg (len - b)
              case measure => omega
              case rel => exact ⟨b, b + 2 * bs, P1 ++ M, T, rfl, by first | go_num | (congr 1; omega), by omega, by omega, hlt3, Nat.le_refl _, PN', S2'⟩
            · have hltz3 : ¬ (b : Int) ≤ (len : Int) := by omega
              obtain ⟨m, hm⟩ : ∃ m : Nat, m = a + bs := ⟨_, rfl⟩
              have em : (a : Int) + (bs : Int) = (m : Int) := by omega
              by_cases hml : m < len
              · have hmlz : (m : Int) < (len : Int) := by omega
                have o := Runs.one key PA.out.r
                have c := CS.out a m len wr P1 (R1.take bs) (R1.drop bs) [] (by simp; omega) (by simp; omega) hla.symm (by simp; omega) (by simp; omega) o.1 (Runs.sorted key o.2 (by simp; omega)) (by simp; omega) (by rw [List.append_nil, List.take_append_drop]; exact S1.out)
                obtain ⟨q1, q2⟩ := PA.out.last2 (by omega)
                have q3 : (P1 ++ (mrg key (R1.take bs) (R1.drop bs) ++ [])).length = len := by simp [mrg_len]; omega
                obtain ⟨M, hM⟩ : ∃ M, mrg key (R1.take bs) (R1.drop bs) = M := ⟨_, rfl⟩
                rw [hM] at c q1 q2 q3
                have RN : Aside (RunsAt key L0 len (2 * bs) (P1 ++ (M ++ []))) := ⟨q1, q2, q3⟩
                clear o hM hm S1 PA hla hll CS q1 q2 q3
                go_wp2_with fail
                go_at_call 133
                refine c.mono ?_
                rintro e wB ⟨rfl, hX⟩
                have S2' : Aside (SWK enc k w0 blk off (P1 ++ (M ++ [])).toArray wB) := hX
                clear c hX
                go_wp2
                go_roundg (len + 1 - 2 * bs)
                case measure => omega
                case rel => exact ⟨2 * bs, P1 ++ (M ++ []), by first | rfl | go_num | (congr 1; omega), by omega, by omega, Nat.le_refl _, RN, S2'⟩
              · have hmlz : ¬ (m : Int) < (len : Int) := by omega
                have RN : Aside (RunsAt key L0 len (2 * bs) (P1 ++ R1)) := ⟨PA.out.last1 (by omega), PA.out.e, by simp; omega⟩
                clear hm PA hla hll CS
                go_wp2
                go_roundg (len + 1 - 2 * bs)
                case measure => omega
                case rel => exact ⟨2 * bs, P1 ++ R1, by first | rfl | go_num | (congr 1; omega), by omega, by omega, Nat.le_refl _, RN, S1⟩
        · have hltz2 : ¬ (bs : Int) < (len : Int) := by omega
          have FI : Aside (∃ L1, Sorted key L1 ∧ Same key L1 L0 ∧ L1.length = len ∧ SWK enc k w0 blk off L1.toArray wr) := ⟨L2, Runs.sorted key RA.out.r (by have := RA.out.l; omega), RA.out.e, RA.out.l, S1.out⟩
          clear RA S1 CS
          go_wp2
          go_end0
          exact ⟨rfl, FI.out⟩

set_option maxHeartbeats 4000000 in
set_option maxRecDepth 1000000 in
theorem sort_srt (L : SrtP P k) (H : SrtR P k enc key cf g cb blk off len d0 w0) (cap : Nat) (w : World) (L0 : List α) (hl : L0.length = len) (hsm : len ≤ 1099511627776) (S0 : SWK enc k w0 blk off L0.toArray w) :
    Calls P 87 #[.slice (some ⟨blk, off, none⟩) len cap, .func (.func g) #[] cb] w fun e w' => e = .returned (.tuple #[]) ∧ ∃ L1, Sorted key L1 ∧ Same key L1 L0 ∧ L1.length = len ∧ SWK enc k w0 blk off L1.toArray w' := by
  have c := stable_srt L H cap w L0 hl hsm S0
  have mixed := L.mixed; have t0 := L.t0; have a0 := L.a0; have z0 := L.z0; have v0 := L.v0; have t3 := L.t3; have a3 := L.a3; have z3 := L.z3; have v3 := L.v3; have tU := L.tU; have aU := L.aU; have zU := L.zU; have uU := run_underlying L.tU; have u3 := run_underlying L.t3; have t4 := L.t4; have a4 := L.a4; have z4 := L.z4; have v4 := L.v4; have tS := L.tS; have aS := L.aS; have zS := L.zS; have vS := L.vS; have tC := L.tC; have aC := L.aC; have zC := L.zC; have aE := L.aE; have zE := L.zE
  have FG := L.fSort
  have eI : ∀ args w, (callFunc 114 args).run P w = .ok (.enter 114 args) w := enters_of L.fStable (by kernel_rfl) rfl
  clear L S0 H hl
  go_enter FG, Tryz.ntmps87
  go_wp2_with fail
  go_at_call 114
  refine c.mono ?_
  rintro e wA ⟨rfl, hX⟩
  have hX' := Lib.hid hX
  clear c hX
  go_wp2
  go_end0
  exact ⟨rfl, hX'.out⟩
end Go.Proofs.YthnnpnlapjlnoaaGreatDoor.Ca
