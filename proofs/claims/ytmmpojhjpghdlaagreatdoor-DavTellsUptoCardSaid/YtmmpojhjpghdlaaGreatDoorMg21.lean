import Derived.Test.YtmmpojhjpghdlaaGreatDoorMg20
import Derived.Test.YtmmpojhjpghdlaaGreatDoorMg7
import Derived.Tactics
import Derived.Tactics2
import Derived.Defers
import Derived.Laws.Pointers
import Derived.Laws.LoneSync
import Derived.Laws.NewBlocks
import Derived.RegionTactic
import Derived.RegionCalls
import Derived.ChangeAlike
import Derived.Test.YtmmpojhjpghdlaaGreatDoorMg4
import Derived.Test.YtmmpojhjpghdlaaGreatDoorMg3
import Derived.Laws.CopyOwn
import Derived.Lib.SliceRun
import Derived.Lib.SmallJoins
import Derived.Test.YtmmpojhjpghdlaaGreatDoorMg16
import Derived.Test.YtmmpojhjpghdlaaGreatDoorMg5
import Derived.Laws.MakeOwn
import Derived.WalkSpells
import Derived.Deep.QuietTactic
import Derived.Deep.RegionHeld3

/-
  THE WALK OF THE PROGRAM's Check OF LAYER xml: are pieces a document's?
-/
set_option linter.unusedVariables false
namespace Go.Proofs.YtmmpojhjpghdlaaGreatDoor.Xm
open Go.Lib Go.RowKit

/-- what is open: beginnings of elements -/
def Opn (os : List Pc) : Prop := ∀ q ∈ os, q.kind = 1 ∧ okTag q = true
theorem Opn.nil : Opn [] := fun q hq => by cases hq
theorem Opn.snoc {os : List Pc} {p : Pc} (h : Opn os) (h1 : p.kind = 1) (h2 : okTag p = true) : Opn (os ++ [p]) := fun q hq => by
  rcases List.mem_append.1 hq with hq | hq
  · exact h q hq
  · rw [List.mem_singleton] at hq; subst hq; exact ⟨h1, h2⟩
theorem Opn.pop {os : List Pc} {p : Pc} (h : Opn (os ++ [p])) : Opn os ∧ p.kind = 1 ∧ okTag p = true := ⟨fun q hq => h q (List.mem_append_left _ hq), h p (by simp)⟩
theorem okTag_end {p q : Pc} (h : okTag q = true) (h1 : p.space = q.space) (h2 : p.name = q.name) (h3 : p.text = []) : okTag p = true := by
  unfold okTag at h ⊢
  simp only [Bool.and_eq_true, decide_eq_true_eq, List.isEmpty_iff] at h ⊢
  rw [h1, h2, h3]
  exact ⟨⟨rfl, h.1.2⟩, h.2⟩
/-- a piece that ends what is open last -/
def endB (p q : Pc) : Bool := decide (p.kind = 2 ∧ p.space = q.space ∧ p.name = q.name ∧ p.text = [])
theorem end_of {k sp qs : Int} {a1 a2 b1 : ByteArray} {q : Pc} (h : q.space = qs) (hb : b1.data.toList = q.name) : (k == 2 && sp == qs && a1.toList == b1.toList && a2.toList == (⟨#[]⟩ : ByteArray).toList) = endB ⟨k, sp, a1.data.toList, a2.data.toList⟩ q := by
  unfold endB
  rw [Lib.toList_data, Lib.toList_data, Lib.toList_data, Lib.toList_data, hb, ← h, Bool.eq_iff_iff, decide_eq_true_iff]
  simp only [Bool.and_eq_true, beq_iff_eq, and_assoc]
theorem rgt_end {c : Bool} {os : List Pc} {p q : Pc} {r : List Pc} {f : Bool} (ho : Opn (os ++ [q])) (h : endB p q = true) : rgt f c (stk (os ++ [q])) (p :: r) = rgt false false (stk os) r := by
  obtain ⟨h1, h2, h3, h4⟩ := of_decide_eq_true h
  rw [stk_snoc, show (q.name, q.space) = (p.name, p.space) by rw [h2, h3]]
  exact rgt_2 h1 (okTag_end ho.pop.2.2 h2 h3 h4)
theorem okTag_text {p : Pc} (h : okTag p = true) : p.text = [] := by
  unfold okTag at h
  simp only [Bool.and_eq_true, List.isEmpty_iff] at h
  exact h.1.1
/-- a piece with which nothing goes on -/
theorem rgt_stop {f c : Bool} {os : List Pc} {p : Pc} {r : List Pc} {R : Bool} (h : rgt f c (stk os) (p :: r) = R)
    (h1 : p.kind = 1 → okTag p = true → 16 ≤ os.length) (h2 : ∀ s q, os = s ++ [q] → endB p q = false) (h3 : p.kind = 3 → okTxt p = true → f = false → os ≠ [] → c = true) (hf : f = true → os = []) : R = false := by
  refine rgt_no h fun hx => ?_
  rcases hx with ⟨h0, ⟨a, b, l⟩ | ⟨a, b, s, e⟩ | ⟨a, e1, e2, e3⟩⟩
  · rw [stk_len] at l
    have := h1 a b; omega
  · rcases List.eq_nil_or_concat os with rfl | ⟨s2, q, eos⟩
    · cases e
    · rw [List.concat_eq_append] at eos
      subst eos
      rw [stk_snoc] at e
      injection e with e _
      injection e with n1 n2
      have := h2 s2 q rfl
      unfold endB at this
      rw [decide_eq_false_iff_not] at this
      exact this ⟨a, n2.symm, n1.symm, okTag_text b⟩
  · rcases h0 with h0 | h0
    · rw [h0] at e1; cases e1
    · have := h3 a e3 e1 (fun e => h0 ((stk_nil os).2 e))
      rw [this] at e2; cases e2
theorem pc_eta (p : Pc) : p = ⟨p.kind, p.space, p.name, p.text⟩ := rfl

set_option maxHeartbeats 8000000 in
set_option maxRecDepth 100000 in
theorem check_any : CheckC := fun v ps w hv hsz hG => by
  obtain ⟨A, b, off, c, rfl, hc1, hc2, hA, hP⟩ := hv
  unfold maxLen at hc2
  obtain ⟨R, hR⟩ : ∃ R, right ps = R := ⟨_, rfl⟩
  rw [hR]
  obtain ⟨C, hC⟩ : ∃ C : Int, (if R = true then 0 else 70) = C := ⟨_, rfl⟩
  rw [hC]
  obtain ⟨n, hn⟩ : ∃ n, ps.length = n := ⟨_, rfl⟩
  obtain ⟨Z, hZ⟩ : ∃ Z, w.heap.size = Z := ⟨_, rfl⟩
  rw [hn] at hc1 hA ⊢
  have hn' := Lib.hid hn
  have hP' := Lib.hid hP
  have hA' := Lib.hid hA
  have hR' := Lib.hid hR
  have hC' := Lib.hid hC
  have hsz' : Hid (∀ p ∈ ps, p.name.length ≤ 68719476736 ∧ p.text.length ≤ 68719476736) := Lib.hid fun p hp => by
    have := szs_mem hp
    unfold mostP at hsz
    unfold szP at this
    omega
  have hG' := Lib.hid hG
  have hZ' := Lib.hid hZ
  clear hn hP hA hR hC hsz hZ hG
  go_enter Tryz.func83, Tryz.ntmps83
  go_wp2
  go_loopw [3, 9] (fun s3 s9 wr => ∃ (k : Nat) (os : List Pc), s9 = .int .i64 (k : Int) ∧ k ≤ n ∧ PsOwn Z s3 os wr ∧ os.length ≤ 16 ∧ Opn os ∧ (k = 0 → os = []) ∧ Below Z w wr ∧ rgt (decide (k = 0)) (was ps k) (stk os) (ps.drop k) = R) (fun s3 s9 wr => n - (RowKit.intOf s9).toNat)
  case atStart =>
    refine ⟨0, [], rfl, Nat.zero_le _, PsOwn.nil _ _, by decide, Opn.nil, fun _ => rfl, by rw [← hZ'.out]; exact Below.refl _ _, ?_⟩
    rw [← hR'.out, List.drop_zero]; rfl
  case round =>
    obtain ⟨k, os, rfl, hk, hown, hos, hopn, hk0, hB, hr⟩ := hrel
    obtain ⟨A2, b2, off2, c2, rfl, ho1, ho2, ho3, ho4⟩ := hown.at
    unfold maxLen at ho2
    have hZr : Z ≤ wr.heap.size := by have := hB.size; rw [hZ'.out] at this; exact this
    have hB' := Lib.hid hB
    have hown' := Lib.hid hown
    have ho3' := Lib.hid ho3
    have ho4' := Lib.hid ho4
    have hopn' := Lib.hid hopn
    have hk0' := Lib.hid hk0
    clear hB hown ho3 ho4 hopn hk0
    by_cases hlt : k < n
    · have hp : ps[k]? = some (ps[k]'(by have := hn'.out; omega)) := List.getElem?_eq_getElem _
      obtain ⟨p, hPe⟩ : ∃ p, ps[k]'(by have := hn'.out; omega) = p := ⟨_, rfl⟩
      rw [hPe] at hp
      clear hPe
      rw [drop_next hp] at hr
      obtain ⟨rfl, hAb⟩ := hA'.out (by omega)
      obtain ⟨a1, a2, d1, d2, p0, p1, p2, p3⟩ := PcsAt.piece hP'.out hAb (by rw [hZ'.out]; exact hB'.out) hp
      have hs1 : a1.size ≤ 68719476736 := by
        have := (hsz'.out p (List.mem_of_getElem? hp)).1
        rw [← d1, ← Lib.size_eq] at this; exact this
      have hs2 : a2.size ≤ 68719476736 := by
        have := (hsz'.out p (List.mem_of_getElem? hp)).2
        rw [← d2, ← Lib.size_eq] at this; exact this
      obtain ⟨kd, sp, nm, tx⟩ := p
      simp only at d1 d2 p0 p1
      subst d1
      subst d2
      have hstop := Lib.hid (fun h1 h2 h3 hf => rgt_stop (os := os) hr h1 h2 h3 hf)
      have hno := Lib.hid (fun hn => rgt_no hr hn)
      have hr' := Lib.hid hr
      have hp' := Lib.hid hp
      clear hr hp
      have cO := fun W => isOpen_any kd sp a1 a2 W (by omega)
      obtain ⟨O, hO⟩ : ∃ O, openB kd sp a1 a2 = O := ⟨_, rfl⟩
      rw [hO] at cO
      have hO' := Lib.hid hO
      clear hO
      have hal : Hid (Below Z w (wr.alloc (.cells #[.int .i64 kd, .int .i64 sp, .string a1, .string a2] 75))) := Lib.hid (hB'.out.alloc hZr _)
      by_cases hz : 0 < k ∧ os.length = 0
      · obtain ⟨z1, z2⟩ := hz
        have hRf : R = false := hno.out fun h => by
          rcases h.1 with h | h
          · have := of_decide_eq_true h; omega
          · exact h ((stk_nil os).2 (List.eq_nil_of_length_eq_zero z2))
        have hCf : C = 70 := by rw [← hC'.out, hRf]; rfl
        subst hCf
        have z1' : (0 : Int) < (k : Int) := by omega
        rw [z2]
        clear cO hRf
        go_wp2
        go_ret
        exact ⟨rfl, by rw [hZ'.out]; exact hal.out⟩
      · have hcase : (¬ (0 : Int) < (k : Int)) ∨ ((0 : Int) < (k : Int) ∧ ((os.length : Int) == 0) = false) := by
          by_cases hk0 : k = 0
          · exact .inl (by omega)
          · exact .inr ⟨by omega, beq_eq_false_iff_ne.2 (by omega)⟩
        have hkz : k = 0 ∨ os ≠ [] := by
          by_cases hk0 : k = 0
          · exact .inl hk0
          · exact .inr fun e => hz ⟨by omega, by rw [e]; rfl⟩
        have hkz' := Lib.hid hkz
        clear hz hkz
        have a0 : Hid ((wr.alloc (.cells #[.int .i64 kd, .int .i64 sp, .string a1, .string a2] 75)).heap[wr.heap.size]? = some (.cells #[.int .i64 kd, .int .i64 sp, .string a1, .string a2] 75 (0, 0))) := Lib.hid (heap_alloc_new wr _)
        have hb1 : Hid (Below wr.heap.size wr (wr.alloc (.cells #[.int .i64 kd, .int .i64 sp, .string a1, .string a2] 75))) := Lib.hid ((Below.refl _ _).alloc (Nat.le_refl _) _)
        obtain ⟨w1, hw1⟩ : ∃ w1, wr.alloc (.cells #[.int .i64 kd, .int .i64 sp, .string a1, .string a2] 75) = w1 := ⟨_, rfl⟩
        rw [hw1] at a0 hb1 hal
        obtain ⟨x0, x1, x2, x3⟩ := pc_cells a0.out
        rcases hcase with z1 | ⟨z1, z2⟩
        all_goals
          go_wp2_with fail
          go_at_call 107
          refine (cO _).mono ?_
          rintro e w2 ⟨rfl, hb2⟩
          clear cO x0 x1 x2 x3
          have a2 := kept_block a0.out hb2
          obtain ⟨x0, x1, x2, x3⟩ := pc_cells a2
          have hb3 := Lib.hid (hb1.out.trans (hb2.mono hb1.out.size))
          have hal3 := Lib.hid (hal.out.trans (hb2.mono (show Z ≤ w1.heap.size by have := hb1.out.size; omega)))
          have a2' := Lib.hid a2
          have hZ2 : Z ≤ w2.heap.size := by have h1 := hb1.out.size; have h2 := hb2.size; omega
          clear hb2 a2
          by_cases hOl : O = true ∧ os.length < 16
          · obtain ⟨rfl, hl⟩ := hOl
            have hl' : (os.length : Int) < 16 := by omega
            have hOo := hO'.out
            unfold openB at hOo
            rw [Bool.and_eq_true, decide_eq_true_eq] at hOo
            obtain ⟨hk1, htag⟩ := hOo
            subst hk1
            have hnext := Lib.hid (show rgt (decide (k + 1 = 0)) (was ps (k + 1)) (stk (os ++ [⟨1, sp, a1.data.toList, a2.data.toList⟩])) (ps.drop (k + 1)) = R from by
              rw [stk_snoc, was_next hp'.out, ← hr'.out, rgt_1 (hkz'.out.imp decide_eq_true (fun h e => h ((stk_nil os).1 e))) rfl htag (by rw [stk_len]; exact hl)]; rfl)
            have hopn2 := Lib.hid (hopn'.out.snoc (p := ⟨1, sp, a1.data.toList, a2.data.toList⟩) rfl htag)
            have hown2 := Lib.hid (hown'.out.kept hb3.out)
            clear htag
            go_wp2_with (at_builtin; refine append_piece ⟨1, sp, a1.data.toList, a2.data.toList⟩ a1 a2 1 sp ?i1 ?i2 ?i3 ?i4 rfl _ _ rfl Z _ os _ ?i8 rfl rfl ?i5 ?i6 ?i7 ?_)
            case i1 => exact sv_data a1
            case i2 => exact sv_data a2
            case i3 => rfl
            case i4 => rfl
            case i5 => exact hown2.out
            case i6 => omega
            case i7 => omega
            case i8 => rfl
            intro v7 w7 hown7 hg7
            have hB7 := Lib.hid (left_of hown2.out hg7 Z w hal3.out (Nat.le_refl _) hZ2)
            obtain ⟨ao7, co7, e7⟩ := ownsRow_form hown7
            rw [List.length_append, List.length_singleton] at e7
            subst e7
            have hown7' := Lib.hid hown7
            clear hg7 hown7
            go_wp2
            go_roundw
            case rel => exact ⟨k + 1, os ++ [⟨1, sp, a1.data.toList, a2.data.toList⟩], by go_num, by omega, hown7'.out, by simp; omega, hopn2.out, by omega, hB7.out, hnext.out⟩
            case measure => simp [RowKit.intOf]; omega
          · rcases List.eq_nil_or_concat os with rfl | ⟨os2, q, eos⟩
            · have hOf : O = false := by
                cases O
                · rfl
                · exact absurd ⟨rfl, by decide⟩ hOl
              subst hOf
              have hRf : R = false := hstop.out (fun g1 g2 => by
                have := hO'.out
                unfold openB at this
                rw [g2, Bool.and_true, decide_eq_false_iff_not] at this
                exact absurd g1 this) (fun s q e => by simp at e) (fun _ _ _ h => absurd rfl h) (fun _ => rfl)
              have hCf : C = 70 := by rw [← hC'.out, hRf]; rfl
              subst hCf
              clear hRf hOl
              first
                | exact absurd z2 (by simp)
                | (go_wp2_with fail
                   go_quiet (fail)
                   go_wp2
                   go_ret
                   exact ⟨rfl, by rw [hZ'.out]; exact below_drewN _ hal3.out⟩)
            · rw [List.concat_eq_append] at eos
              subst eos
              rw [List.length_append, List.length_singleton] at hos ho1 ho3' hown' hOl ⊢
              obtain ⟨N, hN⟩ : ∃ N, os2.length = N := ⟨_, rfl⟩
              rw [hN] at hos ho1 ho3' hown' hOl ⊢
              obtain ⟨M, hM⟩ : ∃ M, N + 1 = M := ⟨_, rfl⟩
              rw [hM] at hos ho1 ho3' hown' hOl ⊢
              have hkp : 0 < k := by
                rcases Nat.eq_zero_or_pos k with h | h
                · have := hk0'.out h; simp at this
                · exact h
              have hO25 : O = false ∨ (O = true ∧ ¬ (M : Int) < 16) := by
                cases O
                · exact .inl rfl
                · exact .inr ⟨rfl, fun h => hOl ⟨rfl, by omega⟩⟩
              obtain ⟨rfl, hbl2⟩ := ho3'.out (by omega)
              have hqj : (os2 ++ [q])[N]? = some q := by rw [← hN]; simp
              have hcq : Hid (∀ W, Below w2.heap.size w2 W → PcCells W b2 (off2 + N * 4) q) := Lib.hid fun W hW => (ho4'.out N q hqj).kept hbl2 (hb3.out.trans (hW.mono hb3.out.size))
              have hcp : Hid (∀ W, Below w2.heap.size w2 W → W.heap[wr.heap.size]? = some (.cells #[.int .i64 kd, .int .i64 sp, .string a1, .string a2] 75 (0, 0))) := Lib.hid fun W hW => kept_block a2'.out hW
              obtain ⟨b1, eb1, db1⟩ := sv_some q.name
              obtain ⟨b3, eb3, db3⟩ := sv_some q.text
              obtain ⟨qs, hqs⟩ : ∃ qs, q.space = qs := ⟨_, rfl⟩
              obtain ⟨qk, hqk⟩ : ∃ qk, q.kind = qk := ⟨_, rfl⟩
              have hE := eq_pc kd sp 2 qs a1 a2 b1 ⟨#[]⟩
              rw [end_of hqs db1] at hE
              obtain ⟨E, hEE⟩ : ∃ E, endB ⟨kd, sp, a1.data.toList, a2.data.toList⟩ q = E := ⟨_, rfl⟩
              rw [hEE] at hE
              have hEE' := Lib.hid hEE
              have cC := fun W => closing_any qk qs b1 b3 W
              have hSS : ∀ W, Below w2.heap.size w2 W → Below w2.heap.size w2 W ∧ (W.cell? ⟨wr.heap.size, 0, none⟩ = some (.int .i64 kd) ∧ W.cell? ⟨wr.heap.size, 1, none⟩ = some (.int .i64 sp) ∧ W.cell? ⟨wr.heap.size, 2, none⟩ = some (.string a1) ∧ W.cell? ⟨wr.heap.size, 3, none⟩ = some (.string a2)) ∧
                  (W.cell? ⟨b2, off2 + N * 4, none⟩ = some (.int .i64 qk) ∧ W.cell? ⟨b2, off2 + N * 4 + 1, none⟩ = some (.int .i64 qs) ∧ W.cell? ⟨b2, off2 + N * 4 + 2, none⟩ = some (.string b1) ∧ W.cell? ⟨b2, off2 + N * 4 + 3, none⟩ = some (.string b3)) := fun W hW => by
                obtain ⟨y0, y1, y2, y3⟩ := pc_cells (hcp.out W hW)
                obtain ⟨v0, v1, v2, v3⟩ := hcq.out W hW
                rw [hqk] at v0
                rw [hqs] at v1
                rw [eb1] at v2
                rw [eb3] at v3
                exact ⟨hW, ⟨y0, y1, y2, y3⟩, v0, v1, v2, v3⟩
              have hSS' := Lib.hid hSS
              have hn1 : (M : Int) - 1 = (N : Int) := by omega
              have hn2 : (0 : Int) < (M : Int) := by omega
              have hn3 : (N : Int) < (M : Int) := by omega
              have hn4 : (0 : Int) ≤ (N : Int) := by omega
              have hn5 : (N : Int) ≤ (M : Int) := by omega
              have hn6 : decide ((0 : Int) < (M : Int)) = true := decide_eq_true hn2
              have hn7 : 0 < M := by omega
              have hn8 : decide (0 < M) = true := decide_eq_true hn7
              have hn9 : IntKind.i64.wrap ((M : Int) - 1) = (N : Int) := (IntWalk.i64_in _ (by omega)).trans hn1
              have hn10 : N < M := by omega
              have hn12 : IntKind.i64.wrap (N : Int) = (N : Int) := IntWalk.i64_in _ (by omega)
              have hn11 : wrap64 ((M : Int) - 1) = (N : Int) := (IntWalk.wrap64_in _ (by omega)).trans hn1
              have hM' := Lib.hid hM
              clear hM
              clear hSS hcq hqj eb1 eb3 hEE hqk hOl x0 x1 x2 x3
              rcases hO25 with rfl | ⟨rfl, hO16⟩
              all_goals first | (exfalso; omega) | skip
              all_goals
                go_wp2_with fail
                go_region_held3 (fun W => Below w2.heap.size w2 W ∧ (W.cell? ⟨wr.heap.size, 0, none⟩ = some (.int .i64 kd) ∧ W.cell? ⟨wr.heap.size, 1, none⟩ = some (.int .i64 sp) ∧ W.cell? ⟨wr.heap.size, 2, none⟩ = some (.string a1) ∧ W.cell? ⟨wr.heap.size, 3, none⟩ = some (.string a2)) ∧
                  (W.cell? ⟨b2, off2 + N * 4, none⟩ = some (.int .i64 qk) ∧ W.cell? ⟨b2, off2 + N * 4 + 1, none⟩ = some (.int .i64 qs) ∧ W.cell? ⟨b2, off2 + N * 4 + 2, none⟩ = some (.string b1) ∧ W.cell? ⟨b2, off2 + N * 4 + 3, none⟩ = some (.string b3)))
                  (refine hSS'.out _ ?_ <;> first | exact Below.drew (Below.refl _ _) | exact below_then (And.left (by assumption)) (by assumption) | exact And.left (by assumption) | assumption)
                  (first | (go_at_call 105; ((with_reducible refine (cC _).mono ?_); rintro e wx ⟨rfl, hbx⟩)))
                have hbx : Below w2.heap.size w2 wx := by first | exact And.left (by assumption) | exact below_then (And.left (by assumption)) (by assumption)
                have hbw := Lib.hid (hb3.out.trans (hbx.mono hb3.out.size))
                have halw := Lib.hid (hal3.out.trans (hbx.mono hZ2))
                have ax := Lib.hid (hcp.out wx hbx)
                obtain ⟨x0, x1, x2, x3⟩ := pc_cells ax.out
                have hZx : Z ≤ wx.heap.size := Nat.le_trans hZ2 hbx.size
                clear hSS' hcp hb3 hal3 a2' a0 hb1 hal hE hbx
                try have hO17 : Hid (16 ≤ M) := Lib.hid (by omega)
                try clear hO16
                cases E with
                | true =>
                  have hownx := hown'.out.kept hbw.out
                  rw [← hM'.out, ← hN] at hownx
                  have hownp := hownx.pop
                  rw [hN] at hownp
                  have hownp' := Lib.hid hownp
                  have hopn2 := Lib.hid hopn'.out.pop.1
                  have hkd : kd = 2 := (of_decide_eq_true hEE'.out).1
                  have hnext := Lib.hid (show rgt (decide (k + 1 = 0)) (was ps (k + 1)) (stk os2) (ps.drop (k + 1)) = R from by
                    rw [was_next hp'.out, ← hr'.out, rgt_end hopn'.out hEE'.out, hkd]; rfl)
                  have hNc : (N : Int) ≤ (c2 : Int) := by omega
                  have hNc2 : N ≤ c2 := by omega
                  clear hownx hownp
                  go_wp2
                  go_roundw
                  case rel => exact ⟨k + 1, os2, by go_num, by omega, hownp'.out, by omega, hopn2.out, by omega, halw.out, hnext.out⟩
                  case measure => simp [RowKit.intOf]; omega
                | false =>
                  have hTx := (gw_below hG'.out (show Below w.heap.size w wx by rw [hZ'.out]; exact halw.out)).tabs
                  have cI := isChars_any kd sp a1 a2 wx (by omega) hTx
                  obtain ⟨T, hT⟩ : ∃ T, charsB kd sp a1 a2 = T := ⟨_, rfl⟩
                  rw [hT] at cI
                  have hT' := Lib.hid hT
                  obtain ⟨K, hK⟩ : ∃ K, k - 1 = K := ⟨_, rfl⟩
                  have hK1 : (k : Int) - 1 = (K : Int) := by omega
                  have hKn : K < n := by omega
                  have hq : ps[K]? = some (ps[K]'(by have := hn'.out; omega)) := List.getElem?_eq_getElem _
                  obtain ⟨qq, hqe⟩ : ∃ qq, ps[K]'(by have := hn'.out; omega) = qq := ⟨_, rfl⟩
                  rw [hqe] at hq
                  have hwas : was ps k = decide (qq.kind = 3) := by
                    unfold was
                    rw [hK, hq]
                    simp [hkp]
                  have hwas' := Lib.hid hwas
                  obtain ⟨kq, hkq⟩ : ∃ kq, qq.kind = kq := ⟨_, rfl⟩
                  have hcK := Lib.hid (fun W (hW : Below wx.heap.size wx W) => (show W.cell? ⟨b, off + K * 4, none⟩ = some (.int .i64 kq) from by
                    rw [← hkq]
                    exact ((hP'.out K qq hq).kept hAb (show Below w.heap.size w W by rw [hZ'.out]; exact halw.out.trans (hW.mono hZx))).1))
                  have hkq' := Lib.hid hkq
                  clear hT hTx hqe hq hwas hK hkq
                  go_wp2_with fail
                  go_at_call 108
                  refine cI.mono ?_
                  rintro e wy ⟨rfl, hby⟩
                  clear cI
                  have hky := hcK.out wy hby
                  have haly := Lib.hid (halw.out.trans (hby.mono hZx))
                  have hby' := Lib.hid (hbw.out.trans (hby.mono hbw.out.size))
                  clear hby
                  by_cases hgo : T = true ∧ kq ≠ 3
                  · obtain ⟨rfl, hk3⟩ := hgo
                    have hk3' : (kq == 3) = false := beq_eq_false_iff_ne.2 hk3
                    have hTo := hT'.out
                    unfold charsB at hTo
                    rw [Bool.and_eq_true, decide_eq_true_eq] at hTo
                    obtain ⟨hkd, htx⟩ := hTo
                    have hnext := Lib.hid (show rgt (decide (k + 1 = 0)) (was ps (k + 1)) (stk (os2 ++ [q])) (ps.drop (k + 1)) = R from by
                      have hr2 := hr'.out
                      rw [decide_eq_false (by omega), hwas'.out, hkq'.out, decide_eq_false hk3, rgt_3 (fun e => by
                        have := (stk_nil _).1 e
                        simp at this) hkd htx] at hr2
                      rw [was_next hp'.out, ← hr2, hkd]; rfl)
                    have hownx := Lib.hid (hown'.out.kept hby'.out)
                    clear hkd htx
                    go_wp2
                    go_roundw
                    case rel => exact ⟨k + 1, os2 ++ [q], by go_num, by omega, hownx.out, by simp; omega, hopn'.out, by omega, haly.out, hnext.out⟩
                    case measure => simp [RowKit.intOf]; omega
                  · have hRf : R = false := hstop.out (fun g1 g2 => by
                        have := hO'.out
                        unfold openB at this
                        rw [g2, Bool.and_true] at this
                        have h1 : decide (kd = 1) = true := decide_eq_true g1
                        rw [h1] at this
                        first
                          | (have h17 := hO17.out; have h18 := hM'.out; rw [List.length_append, List.length_singleton, hN]; omega)
                          | (cases this; done)) (fun s q' e => by
                        obtain ⟨_, e2⟩ := List.append_inj' e rfl
                        injection e2 with e2 _
                        subst e2
                        exact hEE'.out) (fun g1 g2 g3 g4 => by
                        rw [hwas'.out, hkq'.out]
                        refine decide_eq_true (Classical.byContradiction fun h => hgo ⟨?_, h⟩)
                        rw [← hT'.out]
                        unfold charsB
                        rw [g2, Bool.and_true]
                        exact decide_eq_true g1) (fun h => by
                        have := of_decide_eq_true h
                        omega)
                    have hCf : C = 70 := by rw [← hC'.out, hRf]; rfl
                    subst hCf
                    have hgo2 : T = false ∨ (T = true ∧ (kq == 3) = true) := by
                      cases T
                      · exact .inl rfl
                      · exact .inr ⟨rfl, beq_iff_eq.2 (Classical.byContradiction fun h => hgo ⟨rfl, h⟩)⟩
                    clear hRf hgo
                    rcases hgo2 with rfl | ⟨rfl, hk3⟩
                    all_goals
                      go_wp2
                      go_ret
                      exact ⟨rfl, by rw [hZ'.out]; exact haly.out⟩
    · have hkn : k = n := by omega
      have hd0 : ps.drop k = [] := List.drop_eq_nil_of_le (by have := hn'.out; omega)
      rw [hd0] at hr
      have hBw : Below w.heap.size w wr := by rw [hZ'.out]; exact hB'.out
      by_cases hn0 : n = 0
      · have hRf : R = false := by
          rw [← hr, hkn, hn0]; rfl
        have hCf : C = 70 := by rw [← hC'.out, hRf]; rfl
        have hz : ((n : Int) == 0) = true := beq_iff_eq.2 (by omega)
        have hzn : (n == 0) = true := beq_iff_eq.2 hn0
        subst hCf
        clear hRf hr hkn hd0 hn0
        go_wp2
        go_ret
        exact ⟨rfl, hBw⟩
      · have hz : ((n : Int) == 0) = false := beq_eq_false_iff_ne.2 (by omega)
        have hzn : (n == 0) = false := beq_eq_false_iff_ne.2 hn0
        have hRe : (stk os).isEmpty = R := by
          rw [← hr, decide_eq_false (by omega)]; rfl
        by_cases ho0 : os.length = 0
        · have hRt : R = true := by
            rw [← hRe, List.eq_nil_of_length_eq_zero ho0]; rfl
          have hCf : C = 0 := by rw [← hC'.out, hRt]; rfl
          subst hCf
          have hl0 : ¬ (0 : Int) < (os.length : Int) := by omega
          clear hRt hr hkn hd0 hn0 hRe
          go_wp2
          go_ret
          exact ⟨rfl, hBw⟩
        · have hRt : R = false := by
            rw [← hRe]
            cases hx : stk os with
            | nil => exact absurd (by rw [(stk_nil os).1 hx]; rfl) ho0
            | cons c r => rfl
          have hCf : C = 70 := by rw [← hC'.out, hRt]; rfl
          subst hCf
          have hl0 : (0 : Int) < (os.length : Int) := by omega
          clear hRt hr hkn hd0 hn0 hRe
          go_wp2
          go_ret
          exact ⟨rfl, hBw⟩
end Go.Proofs.YtmmpojhjpghdlaaGreatDoor.Xm

/-
  WALKS OF sync.Once AT THIS DUMP (one goroutine; a Once that is not yet done, its lock free), in which strings.(*Replacer).buildOnce is called.
-/
set_option linter.unusedVariables false
namespace Go.Proofs.YtmmpojhjpghdlaaGreatDoor.Xm
open Go.Lib Go.RowKit

theorem oDisable (w : World) : (callFunc 192 #[]).run Tryz.prog w = .ok (.value (.tuple #[])) w := run_call_mark0 Tryz.func192 (by kernel_rfl) (by kernel_rfl) (by kernel_rfl) .disable (by kernel_rfl) w
theorem oEnable (w : World) : (callFunc 194 #[]).run Tryz.prog w = .ok (.value (.tuple #[])) w := run_call_mark0 Tryz.func194 (by kernel_rfl) (by kernel_rfl) (by kernel_rfl) .enable (by kernel_rfl) w
theorem oAcquire (a : Addr) (w : World) : (callFunc 195 #[.pointer (some a)]).run Tryz.prog w = .ok (.value (.tuple #[])) w := run_call_marked Tryz.func195 (by kernel_rfl) (by kernel_rfl) (by kernel_rfl) .acquire (by kernel_rfl) a w
theorem oRelease (a : Addr) (w : World) : (callFunc 197 #[.pointer (some a)]).run Tryz.prog w = .ok (.value (.tuple #[])) w := run_call_marked Tryz.func197 (by kernel_rfl) (by kernel_rfl) (by kernel_rfl) .releaseMerge (by kernel_rfl) a w

/-- atomic.Bool's Store(true), as a deferred call: the cell holds 1 -/
theorem store_deferred (a : Addr) (x : Value) (u : FrameMode) (w : World) (hc : w.cell? a = some x) (hz : w.frozen? a = false) :
    CallsD Tryz.prog 173 #[.pointer (some a), .bool true] u w fun e u' w' => u' = u ∧ (e = .returned (.tuple #[]) ∧ w' = w.drew.setCell a (.int .u32 1)) := by
  have hc' : w.drew.cell? a = some x := by go_simp
  have hz' : w.drew.frozen? a = false := by go_simp
  have hst := run_call_store (P := Tryz.prog) Tryz.func185 (by kernel_rfl) (by kernel_rfl) (by kernel_rfl) (by kernel_rfl) (k := .u32) (y := 1) hc' hz'
  go_enter_d Tryz.func173, Tryz.ntmps173
  go_wp2
  go_region_calls
  all_goals (go_end0; exact ⟨rfl, rfl⟩)

set_option maxRecDepth 100000 in
/-- the lock let go, as a deferred call -/
theorem unlock_deferred (a : Addr) (u : FrameMode) (w : World) (hc : w.cell? a = some (.int .i32 1)) (hz : w.frozen? a = false) :
    CallsD Tryz.prog 172 #[.pointer (some a)] u w fun e u' w' => u' = u ∧ (e = .returned (.tuple #[]) ∧ w' = w.setCell a (.int .i32 0)) := by
  have hd := oDisable
  have he := oEnable
  have hr := oRelease
  have hadd := run_call_add (P := Tryz.prog) Tryz.func198 (by kernel_rfl) (by kernel_rfl) (by kernel_rfl) .i32 (by kernel_rfl) (y := -1) (s := 0) hc hz (by simp [go_sem]; rfl)
  have hcv := run_convert_to_unsafe (P := Tryz.prog) (src := 254) (dst := 170) Tryz.underlying254 Tryz.underlying170 (by kernel_rfl) hc
  go_enter_d Tryz.func172, Tryz.ntmps172
  go_wp2
  go_end0
  go_wp2
  go_end0
  exact ⟨rfl, rfl⟩

set_option maxRecDepth 100000 in
/-- the lock taken, which was free -/
theorem lock_free (a : Addr) (w : World) (hc : w.cell? a = some (.int .i32 0)) (hz : w.frozen? a = false) :
    Calls Tryz.prog 171 #[.pointer (some a)] w fun e w' => e = .returned (.tuple #[]) ∧ w' = w.setCell a (.int .i32 1) := by
  have hd := oDisable
  have he := oEnable
  have ha := oAcquire
  have hcas := run_call_cas_hit (P := Tryz.prog) Tryz.func193 (by kernel_rfl) (by kernel_rfl) (by kernel_rfl) .i32 (by kernel_rfl) (y := 1) hc hz
  have hc' : (w.setCell a (.int .i32 1)).cell? a = some (.int .i32 1) := World.cell?_setCell_same w a _ hc
  have hcv := run_convert_to_unsafe (P := Tryz.prog) (src := 254) (dst := 170) Tryz.underlying254 Tryz.underlying170 (by kernel_rfl) hc'
  go_enter Tryz.func171, Tryz.ntmps171
  go_wp2
  first | go_end0 | (simp only [Exit.inBlock, Exit.then]; refine bodyPost_ret (results_none rfl _ _ _) rfl ?_) | refine bodyPost_ret (results_none rfl _ _ _) rfl ?_
  go_wp2
  go_end0
  exact ⟨rfl, rfl⟩

/-- what buildOnce makes of the world in which the lock is taken -/
structure Made (b : Nat) (R : World → Prop) (w1 : World) : Prop where
  r : R w1
  c0 : w1.cell? ⟨b, 0, none⟩ = some (.int .u32 0)
  c1 : w1.cell? ⟨b, 1, none⟩ = some (.int .i32 1)
  f0 : w1.frozen? ⟨b, 0, none⟩ = false
  f1 : w1.frozen? ⟨b, 1, none⟩ = false

set_option maxRecDepth 100000 in
set_option maxHeartbeats 1600000 in
theorem slow_any (b : Nat) (R : World → Prop) (w : World)
    (h0 : w.cell? ⟨b, 0, none⟩ = some (.int .u32 0)) (h1 : w.cell? ⟨b, 1, none⟩ = some (.int .i32 0)) (f0 : w.frozen? ⟨b, 0, none⟩ = false) (f1 : w.frozen? ⟨b, 1, none⟩ = false)
    (hB : Calls Tryz.prog 144 #[.pointer (some ⟨b, 0, none⟩)] (w.setCell ⟨b, 1, none⟩ (.int .i32 1)) fun e w' => e = .returned (.tuple #[]) ∧ Made b R w') :
    Calls Tryz.prog 161 #[.pointer (some ⟨b, 0, none⟩), .func (.func 144) #[.pointer (some ⟨b, 0, none⟩)] #[]] w fun e w' => e = .returned (.tuple #[]) ∧
      ∃ w1, R w1 ∧ w' = ((w1.drew.setCell ⟨b, 0, none⟩ (.int .u32 1)).setCell ⟨b, 1, none⟩ (.int .i32 0)) := by
  have hl := run_call_load (P := Tryz.prog) Tryz.func170 (by kernel_rfl) (by kernel_rfl) (by kernel_rfl) .u32 (by kernel_rfl) (w := w.setCell ⟨b, 1, none⟩ (.int .i32 1)) (a := ⟨b, 0, none⟩) (x := 0) ((World.cell?_setCell_other _ ⟨b, 1, none⟩ ⟨b, 0, none⟩ _ (by simp)).trans h0)
  have hnot : ∀ (x : Bool) (w : World), (Op.unary .not (.bool x)).run Tryz.prog w = .ok (.bool (!x)) w := fun _ _ => rfl
  go_enter_defers Tryz.func161, Tryz.ntmps161
  go_wp2_with (go_at_call 171; refine (lock_free ⟨b, 1, none⟩ _ (by go_simp) (by go_simp)).mono ?_; rintro e w' ⟨rfl, rfl⟩)
  go_wp2_with (first | (go_at_call 144; refine hB.mono ?_; rintro e w1 ⟨rfl, hM⟩) | (go_at_call 160; go_in))
  go_wp2
  refine leaves_cons (f := 173) (args := #[.pointer (some ⟨b, 0, none⟩), .bool true]) (by simp) (by simp [go_sem]) ?_
  refine (store_deferred ⟨b, 0, none⟩ (.int .u32 0) .returning _ hM.c0 hM.f0).mono ?_
  rintro e u' w'' ⟨rfl, rfl, rfl⟩
  refine leaves_cons (f := 172) (args := #[.pointer (some ⟨b, 1, none⟩)]) (by simp [settle]) (by simp [go_sem]) ?_
  refine (unlock_deferred ⟨b, 1, none⟩ _ _ ?_ (by simp [hM.f1])).mono ?_
  · refine (World.cell?_setCell_other _ ⟨b, 0, none⟩ ⟨b, 1, none⟩ _ (by simp)).trans ?_
    rw [World.cell?_drew]
    exact hM.c1
  rintro e u' w'' ⟨rfl, rfl, rfl⟩
  simp [Leaves, settle, results, Tryz.results161]
  exact ⟨_, hM.r, rfl⟩

set_option maxRecDepth 100000 in
set_option maxHeartbeats 1600000 in
/-- Do, not yet done, the lock free -/
theorem do_first (b : Nat) (R : World → Prop) (w : World)
    (h0 : w.cell? ⟨b, 0, none⟩ = some (.int .u32 0)) (h1 : w.cell? ⟨b, 1, none⟩ = some (.int .i32 0)) (f0 : w.frozen? ⟨b, 0, none⟩ = false) (f1 : w.frozen? ⟨b, 1, none⟩ = false)
    (hB : Calls Tryz.prog 144 #[.pointer (some ⟨b, 0, none⟩)] (w.setCell ⟨b, 1, none⟩ (.int .i32 1)) fun e w' => e = .returned (.tuple #[]) ∧ Made b R w') :
    Calls Tryz.prog 143 #[.pointer (some ⟨b, 0, none⟩), .func (.func 144) #[.pointer (some ⟨b, 0, none⟩)] #[]] w fun e w' => e = .returned (.tuple #[]) ∧
      ∃ w1, R w1 ∧ w' = ((w1.drew.setCell ⟨b, 0, none⟩ (.int .u32 1)).setCell ⟨b, 1, none⟩ (.int .i32 0)) := by
  have hl := run_call_load (P := Tryz.prog) Tryz.func170 (by kernel_rfl) (by kernel_rfl) (by kernel_rfl) .u32 (by kernel_rfl) h0
  have hnot : ∀ (x : Bool) (w : World), (Op.unary .not (.bool x)).run Tryz.prog w = .ok (.bool (!x)) w := fun _ _ => rfl
  go_enter Tryz.func143, Tryz.ntmps143
  go_wp2_with (first | (go_at_call 161; refine (slow_any b R _ h0 h1 f0 f1 hB).mono ?_; rintro e w' ⟨rfl, w1, hR, rfl⟩) | (go_at_call 160; go_in))
  go_end0
  exact ⟨rfl, w1, hR, rfl⟩
end Go.Proofs.YtmmpojhjpghdlaaGreatDoor.Xm

/-
  WALKS OF strings.NewReplacer AT THIS DUMP, AND HOW STRINGS LIE IN ROWS OF THE CALL's OWN.
-/
set_option linter.unusedVariables false
namespace Go.Proofs.YtmmpojhjpghdlaaGreatDoor.Xm
open Go.Lib Go.RowKit

theorem infoStr : (Tryz.prog.info? 9).map (fun i => (i.zero, i.size, i.bytes)) = some (some (.string ⟨#[]⟩), 1, 16) := by kernel_rfl
/-- a slice of the call's own that reads as these strings -/
def SOwn (B : Nat) (v : Value) (ls : List Row) (w : World) : Prop := w.ownsRow B 9 1 v ls.length (ls.map sv)
theorem SOwn.nil (B : Nat) (w : World) : SOwn B (.slice none 0 0) [] w := World.ownsRow_nil w B _ 1
theorem SOwn.kept {w w' : World} {B : Nat} {v : Value} {ls : List Row} (h : SOwn B v ls w) (hb : Below w.heap.size w w') : SOwn B v ls w' := ownsRow_kept h hb
/-- strings, wherever they read -/
def StrsIn (w : World) (b : Nat) (ls : List Row) : Prop := b < w.heap.size ∧ ∀ (j : Nat) (l : Row), ls[j]? = some l → w.cell? ⟨b, j, none⟩ = some (sv l)
theorem StrsIn.kept {w w' : World} {b : Nat} {ls : List Row} (h : StrsIn w b ls) (hb : Below w.heap.size w w') : StrsIn w' b ls :=
  ⟨Nat.lt_of_lt_of_le h.1 hb.size, fun j l hj => (hb.cell (p := ⟨b, j, none⟩) h.1).trans (h.2 j l hj)⟩
theorem SOwn.in {B : Nat} {v : Value} {l : Row} {ls : List Row} {w : World} (h : SOwn B v (l :: ls) w) : ∃ g c, v = .slice (some ⟨g, 0, none⟩) (l :: ls).length c ∧ B ≤ g ∧ StrsIn w g (l :: ls) := by
  obtain ⟨h1, h2 | ⟨g, cap, cur, e1, e2, e3, e4, e5, e6, e7⟩⟩ := h
  · exact absurd h2.2 (by simp)
  · refine ⟨g, cap, e1, e2, (Array.getElem?_eq_some_iff.1 e3).1, fun j x hj => ?_⟩
    have hlt := (List.getElem?_eq_some_iff.1 hj).1
    rw [Lib.cell_of_heap e3]
    have : (cur.toList.take ((l :: ls).length * 1))[j]? = ((l :: ls).map sv)[j]? := by rw [e7]
    rw [List.getElem?_take, if_pos (by omega), List.getElem?_map, hj] at this
    rw [← Array.getElem?_toList, this]; rfl
/-- the strings that escape replaces, each with what stands for it -/
def e8 : List Row := [[38], [38, 97, 109, 112, 59], [60], [38, 108, 116, 59], [62], [38, 103, 116, 59], [13], [38, 35, 49, 51, 59]]
/-- a new Replacer -/
def NewR (B : Nat) (e : Ending) (w w' : World) : Prop := ∃ b g c, e = .returned (.pointer (some ⟨b, 0, none⟩)) ∧ B ≤ b ∧ w'.heap[b]? = some (.cells #[.int .u32 0, .int .i32 0, .int .u32 0, .nilIface, .slice (some ⟨g, 0, none⟩) 8 c] 201 (0, 0)) ∧ StrsIn w' g e8 ∧ Below B w w'
set_option maxHeartbeats 2000000 in
set_option maxRecDepth 100000 in
theorem newR_any (w : World) (z : Nat) (hS : StrsIn w z e8) : Calls Tryz.prog 127 #[.slice (some ⟨z, 0, none⟩) 8 8] w fun e w' => NewR w.heap.size e w w' := by
  obtain ⟨i0, hi, hz0, hz1, hz2⟩ := info_parts infoStr
  have hrow : w.ownsRow w.heap.size 9 1 (.slice none 0 0) 0 [] := World.ownsRow_nil w _ _ 1
  have hS' := Lib.hid hS
  clear hS
  go_enter Tryz.func127, Tryz.ntmps127
  go_wp2_with (at_builtin; refine wpList_append_own _ rfl _ _ 28 rfl w.heap.size 9 i0 (.string ⟨#[]⟩) 1 16 Tryz.underlying28 hi hz0 hz1 hz2 rfl (by decide) _ 0 [] rfl hrow ⟨z, 0, none⟩ 8 8 (e8.map sv) rfl rfl (fun j u hj => ?c1) (fun u hu => ?c2) (by decide) (by decide) (Nat.le_refl _) ?c3)
  case c1 =>
    rw [List.getElem?_map] at hj
    obtain ⟨l, hl, rfl⟩ := Option.map_eq_some_iff.1 hj
    have := hS'.out.2 j l hl
    unfold Addr.add
    by_cases hj0 : j = 0
    · subst hj0; simpa using this
    · rw [if_neg hj0]; simpa using this
  case c2 =>
    obtain ⟨l, _, rfl⟩ := List.mem_map.1 hu
    rfl
  case c3 =>
    intro v' w' hown hg _
    have hown : SOwn w.heap.size v' e8 w' := hown
    obtain ⟨g, c, rfl, hBg, hIn⟩ := hown.in
    have hb : Below w.heap.size w w' := (Below.refl _ _).grown hg (Nat.le_refl _) (fun k hk => by cases hk)
    have hb' := Lib.hid hb
    have hIn' := Lib.hid hIn
    clear hb hIn hown hg
    go_wp2
    go_ret
    exact ⟨w'.heap.size, g, c, rfl, hb'.out.size, heap_alloc_new w' _, hIn'.out.kept ((Below.refl _ _).alloc (Nat.le_refl _) _), hb'.out.alloc hb'.out.size _⟩
/-! ### what is replaced -/
/-- what stands for a byte in a byteStringReplacer's table -/
def RepAt (w : World) (v : Value) (l : Option Row) : Prop := match l with
  | none => v = .slice none 0 0
  | some l => ∃ g cap bs fr, v = .slice (some ⟨g, 0, none⟩) l.length cap ∧ w.heap[g]? = some (.cells bs 5 fr) ∧ ∀ (j : Nat) (x : UInt8), l[j]? = some x → bs[j]? = some (.int .u8 (x.toNat : Int))
theorem RepAt.kept {w w' : World} {v : Value} {l : Option Row} (h : RepAt w v l) (hb : ∀ (g : Nat) (bs : Array Value) (fr : Nat × Nat), w.heap[g]? = some (.cells bs 5 fr) → w'.heap[g]? = some (.cells bs 5 fr)) : RepAt w' v l := by
  cases l with
  | none => exact h
  | some l =>
    obtain ⟨g, cap, bs, fr, h1, h2, h3⟩ := h
    exact ⟨g, cap, bs, fr, h1, hb g bs fr h2, h3⟩
/-- the pairs, the last one first -/
def rpO (k : Nat) : UInt8 := ([13, 62, 60, 38] : Row).getD k 0
def rpN (k : Nat) : Row := esc (rpO k)
/-- what the table says of c when k pairs are done -/
def rpT (k : Nat) (c : UInt8) : Option Row := if c ∈ ([13, 62, 60, 38] : Row).take k then some (esc c) else none
theorem rpT_zero (c : UInt8) : rpT 0 c = none := rfl
theorem rpT_at (k : Nat) (hk : k < 4) : rpT k (rpO k) = none := by
  match k, hk with
  | 0, _ => rfl
  | 1, _ => rfl
  | 2, _ => rfl
  | 3, _ => rfl
theorem rpT_own (k : Nat) (hk : k < 4) : rpT (k + 1) (rpO k) = some (esc (rpO k)) := by
  match k, hk with
  | 0, _ => rfl
  | 1, _ => rfl
  | 2, _ => rfl
  | 3, _ => rfl
theorem rpT_other (k : Nat) (hk : k < 4) (c : UInt8) (hc : c ≠ rpO k) : rpT (k + 1) c = rpT k c := by
  have : ([13, 62, 60, 38] : Row).take (k + 1) = ([13, 62, 60, 38] : Row).take k ++ [rpO k] := by
    match k, hk with
    | 0, _ => rfl
    | 1, _ => rfl
    | 2, _ => rfl
    | 3, _ => rfl
  unfold rpT
  rw [this]
  simp [hc]
theorem rpT_all (c : UInt8) : rpT 4 c = if esc c = [c] then none else some (esc c) := Ch.byte_all (P := fun c => rpT 4 c = if esc c = [c] then none else some (esc c)) (by decide +kernel) c
def rpS : List Row := [[13], [62], [60], [38]]
theorem rpS_take (k : Nat) (hk : k < 4) : rpS.take (k + 1) = rpS.take k ++ [[rpO k]] := by
  match k, hk with
  | 0, _ => rfl
  | 1, _ => rfl
  | 2, _ => rfl
  | 3, _ => rfl
theorem e8_old (k : Nat) (hk : k < 4) : e8[6 - 2 * k]? = some [rpO k] := by
  match k, hk with
  | 0, _ => rfl
  | 1, _ => rfl
  | 2, _ => rfl
  | 3, _ => rfl
theorem e8_new (k : Nat) (hk : k < 4) : e8[7 - 2 * k]? = some (esc (rpO k)) := by
  match k, hk with
  | 0, _ => decide
  | 1, _ => decide
  | 2, _ => decide
  | 3, _ => decide
/-- a byteStringReplacer in block z when k pairs are done -/
def BR (B z k : Nat) (w : World) : Prop := ∃ (cs : Array Value) (q : Value), w.heap[z]? = some (.cells cs 230 (0, 0)) ∧ cs.size = 257 ∧ cs[256]? = some q ∧ SOwn B q (rpS.take k) w ∧ ∀ c : UInt8, ∃ v, cs[c.toNat]? = some v ∧ RepAt w v (rpT k c)
theorem BR.kept {B z k : Nat} {w w' : World} (h : BR B z k w) (hb : Below w.heap.size w w') : BR B z k w' := by
  obtain ⟨cs, q, h1, h2, h3, h4, h5⟩ := h
  refine ⟨cs, q, (hb.block z (Array.getElem?_eq_some_iff.1 h1).1).trans h1, h2, h3, h4.kept hb, fun c => ?_⟩
  obtain ⟨v, h6, h7⟩ := h5 c
  exact ⟨v, h6, h7.kept fun g bs fr hg => (hb.block g (Array.getElem?_eq_some_iff.1 hg).1).trans hg⟩
theorem zeroBsr : Tryz.zeroCells230 = (Array.replicate 256 (.slice none 0 0)).push (.slice none 0 0) := by kernel_rfl
theorem bsr_size : Tryz.zeroCells230.size = 257 := by rw [zeroBsr, Array.size_push, Array.size_replicate]
theorem bsr_at (q : Value) (c : Nat) (hc : c < 256) : (Tryz.zeroCells230.toList.set 256 q).toArray[c]? = some (.slice none 0 0) := by
  rw [List.getElem?_toArray, List.getElem?_set_ne (by omega), Array.getElem?_toList, zeroBsr, Array.getElem?_push, if_neg (by rw [Array.size_replicate]; omega), Array.getElem?_replicate, if_pos hc]
theorem bsr_last (q : Value) : (Tryz.zeroCells230.toList.set 256 q).toArray[256]? = some q := by
  rw [List.getElem?_toArray, List.getElem?_set_self (by rw [Array.length_toList, bsr_size]; decide)]
theorem bsr_one : ∀ v ∈ Tryz.zeroCells230, v.oneCell' = true := fun v hv => by
  rw [zeroBsr, Array.mem_push, Array.mem_replicate] at hv
  rcases hv with ⟨_, rfl⟩ | rfl <;> rfl
/-- a byteStringReplacer made, nothing replaced yet -/
theorem bsr_new (w : World) (A : Option Addr) (n c : Nat) (B : Nat) (hB : B ≤ w.heap.size) (hq : SOwn B (.slice A n c) [] w) : ∃ w', (storeCells ⟨w.heap.size, 0, none⟩ (Tryz.zeroCells230.toList.set 256 (.slice A n c))).run Tryz.prog (w.alloc (.cells Tryz.zeroCells230 230)) = .ok () w' ∧ BR B w.heap.size 0 w' ∧ Below w.heap.size w w' := by
  have hg : (w.alloc (.cells Tryz.zeroCells230 230)).heap[w.heap.size]? = some (.cells Tryz.zeroCells230 230 (0, 0)) := heap_alloc_new w _
  have hb : Below w.heap.size w ((w.alloc (.cells Tryz.zeroCells230 230)).setRow w.heap.size ((Tryz.zeroCells230.toList.take 0 ++ Tryz.zeroCells230.toList.set 256 (.slice A n c)).toArray)) := below_setRow ((Below.refl _ _).alloc (Nat.le_refl _) _) (Nat.le_refl _) _
  refine ⟨_, run_storeCells_from w.heap.size 230 _ 0 _ _ hg (by rw [Nat.zero_add, List.length_set, Array.length_toList]) (fun v hv => ?_), ⟨_, .slice A n c, setRow_heap _ _ _ _ _ _ hg, ?_, ?_, hq.kept hb, fun x => ⟨.slice none 0 0, ?_, rfl⟩⟩, hb⟩
  · rcases List.mem_or_eq_of_mem_set hv with h | h
    · exact bsr_one v (by simpa using h)
    · rw [h]; rfl
  · rw [List.take_zero, List.nil_append, List.size_toArray, List.length_set, Array.length_toList, bsr_size]
  · rw [List.take_zero, List.nil_append]; exact bsr_last _
  · rw [List.take_zero, List.nil_append]; exact bsr_at _ _ x.toNat_lt
theorem ownsRow_keep {w w' : World} {B : Nat} {e : TypeId} {size : Nat} {v : Value} {n : Nat} {xs : List Value} (h : w.ownsRow B e size v n xs) (hb : ∀ (i : Nat) (cs : Array Value) (fr : Nat × Nat), w.heap[i]? = some (.cells cs e fr) → w'.heap[i]? = some (.cells cs e fr)) : w'.ownsRow B e size v n xs := by
  refine ⟨h.1, ?_⟩
  rcases h.2 with h | ⟨g, cap, cur, e1, e2, e3, e4⟩
  · exact .inl h
  · exact .inr ⟨g, cap, cur, e1, e2, hb g _ _ e3, e4⟩
theorem bsr_ne_str : (230 : TypeId) ≠ 9 := by decide
theorem bsr_ne_u8 : (230 : TypeId) ≠ 5 := by decide
theorem u8_ne_str : (5 : TypeId) ≠ 9 := by decide
/-- what is of another type than string is left where a row of strings grows -/
theorem grown_type {w w' : World} {B n : Nat} {v : Value} {xs : List Value} (h : w.ownsRow B 9 1 v n xs) (hg : w.grownBy w' v.ownBlock) {i : Nat} {cs : Array Value} {t : TypeId} {fr : Nat × Nat} (hi : w.heap[i]? = some (.cells cs t fr)) (ht : t ≠ 9) : w'.heap[i]? = some (.cells cs t fr) := by
  rw [hg.block i (Array.getElem?_eq_some_iff.1 hi).1 (fun e => ?_)]
  · exact hi
  · rcases h.2 with ⟨hv, _⟩ | ⟨g, cap, cur, hv, _, hh, _⟩
    · rw [hv] at e; cases e
    · rw [hv] at e
      have e : i = g := by simpa [Value.ownBlock] using e
      subst e
      rw [hi] at hh
      injection hh with hh
      injection hh with _ ht'
      exact ht ht'
theorem alloc_kept {w : World} {i : Nat} {x : Obj} (h : w.heap[i]? = some x) (o : Obj) : (w.alloc o).heap[i]? = some x := (((Below.refl w.heap.size w).alloc (Nat.le_refl _) o).block i (Array.getElem?_eq_some_iff.1 h).1).trans h
/-- a byte as a string -/
theorem byte_str (c : UInt8) (w : World) : (convert 88 9 (.slice (some ⟨w.heap.size, 0, none⟩) 1 1)).run Tryz.prog (w.alloc (.cells #[.int .u8 (c.toNat : Int)] 5)) = .ok (.string ⟨#[c]⟩) (w.alloc (.cells #[.int .u8 (c.toNat : Int)] 5)) :=
  run_convert_bytes_back (P := Tryz.prog) (w.alloc (.cells #[.int .u8 (c.toNat : Int)] 5)) 88 9 5 ⟨w.heap.size, 0, none⟩ 1 [c] Tryz.underlying88 Tryz.underlying5 Tryz.underlying9 (fun j hj => by
    obtain rfl : j = 0 := by simp at hj; omega
    exact Lib.cell_of_heap (heap_alloc_new w (.cells #[.int .u8 (c.toNat : Int)] 5)) 0)
theorem BR.step {B Z k G cap : Nat} {wr w' w6 : World} {cs C : Array Value} {v' : Value} {fr : Nat × Nat} (hlt : k < 4) (hZ : w'.heap[Z]? = some (.cells cs 230 (0, 0))) (hsz : cs.size = 257) (hown : SOwn B v' (rpS.take (k + 1)) w')
    (g5 : ∀ c : UInt8, ∃ v, cs[c.toNat]? = some v ∧ RepAt wr v (rpT k c)) (hkeep : ∀ (g : Nat) (bs : Array Value) (fr : Nat × Nat), wr.heap[g]? = some (.cells bs 5 fr) → w'.heap[g]? = some (.cells bs 5 fr))
    (hb6 : Below (w'.setCell ⟨Z, 256, none⟩ v').heap.size (w'.setCell ⟨Z, 256, none⟩ v') w6) (hG : w6.heap[G]? = some (.cells C 5 fr)) (hC : ∀ (j : Nat) (x : UInt8), (esc (rpO k))[j]? = some x → C[j]? = some (.int .u8 (x.toNat : Int))) :
    BR B Z (k + 1) (w6.setCell ⟨Z, (rpO k).toNat, none⟩ (.slice (some ⟨G, 0, none⟩) (esc (rpO k)).length cap)) := by
  have h5 : (w'.setCell ⟨Z, 256, none⟩ v').heap[Z]? = some (.cells (cs.setIfInBounds 256 v') 230 (0, 0)) := Joins.block_setCell hZ v'
  have h6 : w6.heap[Z]? = some (.cells (cs.setIfInBounds 256 v') 230 (0, 0)) := (hb6.block Z (Array.getElem?_eq_some_iff.1 h5).1).trans h5
  have h7 : (w6.setCell ⟨Z, (rpO k).toNat, none⟩ (.slice (some ⟨G, 0, none⟩) (esc (rpO k)).length cap)).heap[Z]? = _ := Joins.block_setCell h6 _
  have keep : ∀ (i : Nat) (bs : Array Value) (t : TypeId) (fr : Nat × Nat), t ≠ 230 → w'.heap[i]? = some (.cells bs t fr) → (w6.setCell ⟨Z, (rpO k).toNat, none⟩ (.slice (some ⟨G, 0, none⟩) (esc (rpO k)).length cap)).heap[i]? = some (.cells bs t fr) := fun i bs t fr ht hi => by
    have hiZ : i ≠ Z := fun e => by
      subst e
      rw [hZ] at hi
      injection hi with hi
      injection hi with _ ht'
      exact ht ht'.symm
    rw [Below.heap_setCell w6 _ _ i hiZ, hb6.block i (by simpa using (Array.getElem?_eq_some_iff.1 hi).1), Below.heap_setCell w' _ _ i hiZ]
    exact hi
  have hG7 : (w6.setCell ⟨Z, (rpO k).toNat, none⟩ (.slice (some ⟨G, 0, none⟩) (esc (rpO k)).length cap)).heap[G]? = some (.cells C 5 fr) := by
    rw [Below.heap_setCell w6 _ _ G (fun e => by
      have e : G = Z := e
      subst e
      rw [h6] at hG
      injection hG with hG
      injection hG with _ ht'
      exact bsr_ne_u8 ht')]
    exact hG
  refine ⟨_, v', h7, by rw [Array.size_setIfInBounds, Array.size_setIfInBounds]; exact hsz, ?_, ownsRow_keep hown fun i bs fr hi => keep i bs _ fr (fun e => bsr_ne_str e.symm) hi, fun c => ?_⟩
  · have := (rpO k).toNat_lt
    rw [Array.getElem?_setIfInBounds_ne (by omega), Array.getElem?_setIfInBounds_self_of_lt (by omega)]
  · by_cases hc : c = rpO k
    · subst hc
      have hl := (rpO k).toNat_lt
      refine ⟨_, Array.getElem?_setIfInBounds_self_of_lt (by rw [Array.size_setIfInBounds]; omega), ?_⟩
      rw [rpT_own k hlt]
      exact ⟨G, cap, C, fr, rfl, hG7, hC⟩
    · obtain ⟨v, hv, hr⟩ := g5 c
      have hl := c.toNat_lt
      refine ⟨v, ?_, ?_⟩
      · rw [Array.getElem?_setIfInBounds_ne (fun e => hc (UInt8.toNat_inj.1 e.symm)), Array.getElem?_setIfInBounds_ne (by omega)]
        exact hv
      · rw [rpT_other k hlt c hc]
        exact hr.kept fun g bs fr hg => keep g bs _ fr (fun e => bsr_ne_u8 e.symm) (hkeep g bs fr hg)
set_option maxHeartbeats 4000000 in
set_option maxRecDepth 100000 in
theorem build_any (b s c : Nat) (w : World) (h4 : w.cell? ⟨b, 4, none⟩ = some (.slice (some ⟨s, 0, none⟩) 8 c)) (hS : StrsIn w s e8) : Calls Tryz.prog 162 #[.pointer (some ⟨b, 0, none⟩)] w fun e w' => ∃ z, e = .returned (.iface 231 (.pointer (some ⟨z, 0, none⟩))) ∧ w.heap.size ≤ z ∧ BR w.heap.size z 4 w' ∧ Below w.heap.size w w' := by
  have s0 := hS.2 0 _ rfl
  have s1 := hS.2 1 _ rfl
  have s2 := hS.2 2 _ rfl
  have s3 := hS.2 3 _ rfl
  have s4 := hS.2 4 _ rfl
  have s5 := hS.2 5 _ rfl
  have s6 := hS.2 6 _ rfl
  have s7 := hS.2 7 _ rfl
  unfold sv at s0 s1 s2 s3 s4 s5 s6 s7
  simp only [List.toArray] at s0 s1 s2 s3 s4 s5 s6 s7
  have hS' := Lib.hid hS
  clear hS
  go_enter Tryz.func162, Tryz.ntmps162
  go_wp2
  go_loopw [4, 5] (fun s4 s5 wr => wr = w ∧ ∃ k : Int, s5 = .int .i64 k ∧ ((k = 0 ∧ s4 = .bool true) ∨ (k = 2 ∧ s4 = .bool false) ∨ (k = 4 ∧ s4 = .bool false) ∨ (k = 6 ∧ s4 = .bool false) ∨ (k = 8 ∧ s4 = .bool false))) (fun s4 s5 wr => 8 - (RowKit.intOf s5).toNat)
  case atStart => exact ⟨rfl, 0, rfl, .inl ⟨rfl, rfl⟩⟩
  case round =>
    obtain ⟨rfl, k, rfl, hk⟩ := hrel
    rcases hk with ⟨rfl, rfl⟩ | ⟨rfl, rfl⟩ | ⟨rfl, rfl⟩ | ⟨rfl, rfl⟩ | ⟨rfl, rfl⟩
    all_goals try
      go_wp2
      go_roundw
      case rel => first | exact ⟨by trivial, 2, rfl, .inr (.inl ⟨rfl, rfl⟩)⟩ | exact ⟨by trivial, 4, rfl, .inr (.inr (.inl ⟨rfl, rfl⟩))⟩ | exact ⟨by trivial, 6, rfl, .inr (.inr (.inr (.inl ⟨rfl, rfl⟩)))⟩ | exact ⟨by trivial, 8, rfl, .inr (.inr (.inr (.inr ⟨rfl, rfl⟩)))⟩
      case measure => simp [RowKit.intOf]
    have hS2 := hS'.out
    clear s0 s1 s2 s3 s4 s5 s6 s7
    obtain ⟨i0, hi, hz0, hz1, hz2⟩ := info_parts infoStr
    obtain ⟨w1, hmk, hrow, hg⟩ := run_make_own (P := Tryz.prog) wr wr.heap.size 28 9 i0 (.string ⟨#[]⟩) 1 Tryz.underlying28 hi hz0 hz1 .i64 .i64 4 (by rw [hz2]; decide) (by decide) (Nat.le_refl _)
    have hmk : (Instr.makeSlice 28 (.int .i64 0) (.int .i64 4)).run Tryz.prog wr = .ok (.slice (some ⟨wr.heap.size, 0, none⟩) 0 4) w1 := hmk
    have hb1 : Below wr.heap.size wr w1 := (Below.refl _ _).grown hg (Nat.le_refl _) (fun k hk => by cases hk)
    obtain ⟨w2, hst, hbr, hb2⟩ := bsr_new w1 _ _ _ wr.heap.size hb1.size hrow
    have hb2' := Lib.hid (hb1.trans (hb2.mono hb1.size))
    have hbr' := Lib.hid hbr
    have hZ1 : wr.heap.size ≤ w1.heap.size := hb1.size
    clear hbr hb2 hb1 hg hrow hi hz0 hz1 hz2
    obtain ⟨W0, rfl⟩ : ∃ W, W = wr := ⟨_, rfl⟩
    go_wp2_with fail
    clear hst h4 hmk
    obtain ⟨B, hB⟩ : ∃ B, W0.heap.size = B := ⟨_, rfl⟩
    obtain ⟨Z, hZ⟩ : ∃ Z, w1.heap.size = Z := ⟨_, rfl⟩
    rw [hB] at hbr' hb2' hZ1
    rw [hZ] at hbr' hZ1
    rw [hZ, hB]
    have hB' := Lib.hid hB
    clear hB hZ
    go_loopw [12] (fun s12 wq => ∃ k : Nat, k ≤ 4 ∧ s12 = .int .i64 (6 - 2 * (k : Int)) ∧ BR B Z k wq ∧ Below B W0 wq) (fun s12 wq => (RowKit.intOf s12 + 2).toNat)
    case atStart => exact ⟨0, by decide, rfl, hbr'.out, hb2'.out⟩
    case round =>
      obtain ⟨k, hk, rfl, hbr, hbw⟩ := hrel
      have hbr' := Lib.hid hbr
      have hbw' := Lib.hid hbw
      clear hbr hbw
      by_cases hlt : k < 4
      · obtain ⟨j, hj⟩ : ∃ j, 6 - 2 * k = j := ⟨_, rfl⟩
        have hji : 6 - 2 * (k : Int) = (j : Int) := by omega
        have hj7 : 7 - 2 * k = j + 1 := by omega
        have hj6 : j ≤ 6 := by omega
        have hIn := hS'.out.kept (show Below W0.heap.size W0 wr by rw [hB'.out]; exact hbw'.out)
        have o1 := hIn.2 j _ (by rw [← hj]; exact e8_old k hlt)
        have o2 := hIn.2 (j + 1) _ (by rw [← hj7]; exact e8_new k hlt)
        obtain ⟨c, hc⟩ : ∃ c, rpO k = c := ⟨_, rfl⟩
        rw [hc] at o1 o2
        obtain ⟨N, hN⟩ : ∃ N : ByteArray, (⟨(esc c).toArray⟩ : ByteArray) = N := ⟨_, rfl⟩
        unfold sv at o1 o2
        rw [hN] at o2
        obtain ⟨O, hO⟩ : ∃ O : ByteArray, (⟨#[c]⟩ : ByteArray) = O := ⟨_, rfl⟩
        have o1 : wr.cell? ⟨s, j, none⟩ = some (.string O) := by rw [← hO]; exact o1
        have hO1 : O.size = 1 := by rw [← hO]; rfl
        have hO2 : ∀ h, O[0]'h = c := by rw [← hO]; intro h; rfl
        obtain ⟨cs, q, g1, g2, g3, g4, g5⟩ := hbr'.out
        have hqf := ownsRow_form g4
        obtain ⟨ao, co, rfl⟩ := hqf
        obtain ⟨nq, hnq⟩ : ∃ nq, (rpS.take k).length = nq := ⟨_, rfl⟩
        have hnq4 : nq ≤ 4 := by rw [← hnq]; exact Nat.le_trans (List.length_take_le _ _) (by omega)
        rw [hnq] at g3 g4
        obtain ⟨v, hv, hrv⟩ := g5 c
        have hvn : v = .slice none 0 0 := by
          have := rpT_at k hlt
          rw [hc] at this
          rw [this] at hrv
          exact hrv
        subst hvn
        have z1 : wr.cell? ⟨Z, c.toNat, none⟩ = some (.slice none 0 0) := by rw [Lib.cell_of_heap g1]; exact hv
        have z2 : wr.cell? ⟨Z, 256, none⟩ = some (.slice ao nq co) := by rw [Lib.cell_of_heap g1]; exact g3
        have hc1 : (0 : Int) ≤ (c.toNat : Int) := by omega
        have hc2 : (c.toNat : Int) < 256 := by have := c.toNat_lt; omega
        have hjj : (0 : Int) ≤ (j : Int) := by omega
        have hj8 : (j : Int) < 8 := by omega
        have hj9 : (j : Int) + 1 < 8 := by omega
        have qT : ∀ (w : World) (a : Option Addr) (n c n' c' : Nat), (binOp .eql 88 (.slice a n c) (.slice none n' c')).run Tryz.prog w = .ok (.bool a.isNone) w := fun w a n c n' c' => Lib.run_eql_slice_nil w _ _ a n c n' c' Tryz.underlying88
        have hcv := byte_str c
        rw [hO] at hcv
        obtain ⟨i0, hi, hz0, hz1, hz2⟩ := info_parts infoStr
        have g1' := Lib.hid g1
        have g2' := Lib.hid g2
        have g5' := Lib.hid g5
        have hN' := Lib.hid hN
        have hc' := Lib.hid hc
        have hrow : ((wr.alloc (.cells #[.int .u8 (c.toNat : Int)] 5)).alloc (.cells #[.string O] 9)).ownsRow B 9 1 (.slice ao nq co) nq ((rpS.take k).map sv) := (World.ownsRow.alloc (World.ownsRow.alloc (by rw [← hnq]; rw [hnq]; exact hnq ▸ g4) _) _)
        have g3' := Lib.hid g3
        have hv' := Lib.hid hv
        have hBw : B ≤ wr.heap.size := by have := hbw'.out.size; rw [hB'.out] at this; exact this
        clear g1 g2 g3 g4 g5 hrv hv hIn hN hc
        rw [hji]
        go_wp2_with (at_builtin; refine wpList_append_own _ rfl _ _ 28 rfl B 9 i0 (.string ⟨#[]⟩) 1 16 Tryz.underlying28 hi hz0 hz1 hz2 rfl (by decide) _ nq _ rfl hrow ⟨wr.heap.size + 1, 0, none⟩ 1 1 [.string O] rfl rfl (fun jj u hj => ?c1) (fun u hu => ?c2) ?c4 ?c5 ?c6 ?c3)
        case c1 =>
          have hj0 : jj = 0 ∧ u = .string O := by
            match jj, hj with
            | 0, hj => simp at hj; exact ⟨rfl, hj.symm⟩
          obtain ⟨rfl, rfl⟩ := hj0
          have h := Lib.cell_of_heap (heap_alloc_new (wr.alloc (.cells #[.int .u8 (c.toNat : Int)] 5)) (.cells #[.string O] 9)) 0
          rw [show (wr.alloc (.cells #[.int .u8 (c.toNat : Int)] 5)).heap.size = wr.heap.size + 1 by simp] at h
          exact h
        case c2 => simp at hu; rw [hu]; rfl
        case c4 => unfold maxLen; omega
        case c5 => omega
        case c6 => simp; omega
        case c3 =>
          intro v' w' hown' hg' _
          have g1w : w'.heap[Z]? = some (.cells cs 230 (0, 0)) := grown_type hrow hg' (alloc_kept (alloc_kept g1'.out _) _) bsr_ne_str
          have hkeep : ∀ (g : Nat) (bs : Array Value) (fr : Nat × Nat), wr.heap[g]? = some (.cells bs 5 fr) → w'.heap[g]? = some (.cells bs 5 fr) := fun g bs fr hgg => grown_type hrow hg' (alloc_kept (alloc_kept hgg _) _) u8_ne_str
          have hownS : SOwn B v' (rpS.take (k + 1)) w' := by
            unfold SOwn
            rw [rpS_take k hlt, List.length_append, List.length_singleton, List.map_append, hnq, hc'.out]
            have : [sv [c]] = [Value.string O] := by rw [← hO]; rfl
            rw [List.map_cons, List.map_nil, this, List.map_take]
            exact hown'
          have hbw2 : Below B W0 w' := ((hbw'.out.alloc hBw _).alloc (by simp; omega) _).grown hg' (by simp; omega) (fun i hi => by
            obtain ⟨h1, _⟩ := hrow.lt i hi
            exact h1)
          have f0 : ∀ i, w'.frozen? ⟨Z, i, none⟩ = false := fun i => Lib.frozen_of_heap g1w i
          have f1 : w'.frozen? ⟨Z, 256, none⟩ = false := f0 _
          have y1 : w'.cell? ⟨Z, 256, none⟩ = some (.slice ao nq co) := by rw [Lib.cell_of_heap g1w]; exact g3'.out
          have y2 : w'.cell? ⟨Z, c.toNat, none⟩ = some (.slice none 0 0) := by rw [Lib.cell_of_heap g1w]; exact hv'.out
          obtain ⟨ao', co', rfl⟩ := ownsRow_form hown'
          obtain ⟨cap, C, hconv, hC, hCs⟩ := Ch.bytes_new (w'.setCell ⟨Z, 256, none⟩ (.slice ao' (nq + 1) co')) N
          obtain ⟨w6, hw6⟩ : ∃ w6, (w'.setCell ⟨Z, 256, none⟩ (.slice ao' (nq + 1) co')).drew.alloc (.cells C 5 (C.size, C.size + 1)) = w6 := ⟨_, rfl⟩
          have hb6 : Below (w'.setCell ⟨Z, 256, none⟩ (.slice ao' (nq + 1) co')).heap.size (w'.setCell ⟨Z, 256, none⟩ (.slice ao' (nq + 1) co')) w6 := by
            rw [← hw6]
            exact Below.alloc (Below.drew (Below.refl _ _)) (by simp) _
          have hG : w6.heap[w'.heap.size]? = some (.cells C 5 (C.size, C.size + 1)) := by
            rw [← hw6]
            have := heap_alloc_new (w'.setCell ⟨Z, 256, none⟩ (.slice ao' (nq + 1) co')).drew (.cells C 5 (C.size, C.size + 1))
            rw [show (w'.setCell ⟨Z, 256, none⟩ (.slice ao' (nq + 1) co')).drew.heap.size = w'.heap.size by simp] at this
            exact this
          have hstep := Lib.hid (BR.step (cap := cap) (G := w'.heap.size) hlt g1w g2'.out hownS g5'.out hkeep hb6 hG (fun jj x hx => by
            rw [hc'.out] at hx
            have hd : N.data.toList = esc c := by rw [← hN'.out]
            rw [← hd, Array.getElem?_toList] at hx
            obtain ⟨h1, h2⟩ := Array.getElem?_eq_some_iff.1 hx
            rw [hC jj h1, h2]))
          rw [hw6] at hconv
          rw [show (w'.setCell ⟨Z, 256, none⟩ (.slice ao' (nq + 1) co')).heap.size = w'.heap.size by simp] at hconv
          have h6Z : w6.heap[Z]? = _ := (hb6.block Z (by simpa using (Array.getElem?_eq_some_iff.1 g1w).1)).trans (Joins.block_setCell g1w _)
          have hb66 := Lib.hid hb6
          have f6 : w6.frozen? ⟨Z, c.toNat, none⟩ = false := Lib.frozen_of_heap h6Z _
          have y6 : w6.cell? ⟨Z, c.toNat, none⟩ = some (.slice none 0 0) := by
            rw [Lib.cell_of_heap h6Z, Array.getElem?_setIfInBounds_ne (by omega)]; exact hv'.out
          have hbw2' := Lib.hid hbw2
          clear hw6 hG h6Z hb6 hownS hown' hg' hkeep hC hCs hbw2 hi hz0 hz1 hz2 hrow g1w
          go_wp2_with fail
          go_roundw
          case rel =>
            refine ⟨k + 1, by omega, ?_, ?_, ?_⟩
            · rw [show (j : Int) - 2 = 6 - 2 * ((k + 1 : Nat) : Int) by omega]
            · have h := hstep.out
              have hl : (esc (rpO k)).length = N.size := by rw [← hN'.out, hc'.out]; rfl
              rw [hl, hc'.out] at h
              exact h
            · refine Below.setCell (p := ⟨Z, c.toNat, none⟩) ?_ hZ1 _
              exact (hbw2'.out.setCell (p := ⟨Z, 256, none⟩) hZ1 _).trans (hb66.out.mono (by have := hbw2'.out.size; rw [hB'.out] at this; simpa using this))
          case measure => simp [RowKit.intOf]; omega
      · have hk4 : k = 4 := by omega
        subst hk4
        go_wp2
        go_ret
        exact ⟨Z, rfl, by rw [hB'.out]; exact hZ1, by rw [hB'.out]; exact hbr'.out, by rw [hB'.out]; exact hbw'.out⟩
end Go.Proofs.YtmmpojhjpghdlaaGreatDoor.Xm

/-
  WALKS OF A byteStringReplacer's Replace AT THIS DUMP: what escape makes of a text.
-/
set_option linter.unusedVariables false
namespace Go.Proofs.YtmmpojhjpghdlaaGreatDoor.Xm
open Go.Lib Go.RowKit

/-! ### plain -/
def cntK (t : Row) (k : Nat) : Nat := t.count (rpO k) * ((esc (rpO k)).length - 1)
def sumK (t : Row) : Nat → Nat
  | 0 => 0
  | k + 1 => sumK t k + cntK t k
def anyK (t : Row) : Nat → Bool
  | 0 => false
  | k + 1 => anyK t k || decide (t.count (rpO k) ≠ 0)
theorem escT_cons (c : UInt8) (t : Row) : escT (c :: t) = esc c ++ escT t := by simp [escT]
theorem cnt_cons (c : UInt8) (t : Row) (k : Nat) : cntK (c :: t) k = cntK t k + (if c = rpO k then (esc (rpO k)).length - 1 else 0) := by
  unfold cntK
  rw [List.count_cons, Nat.add_mul]
  by_cases h : c = rpO k
  · rw [if_pos h, if_pos (beq_iff_eq.2 h), Nat.one_mul]
  · rw [if_neg h, if_neg (fun e => h (beq_iff_eq.1 e)), Nat.zero_mul]
theorem esc_sum (c : UInt8) : (esc c).length = 1 + ((if c = rpO 0 then (esc (rpO 0)).length - 1 else 0) + (if c = rpO 1 then (esc (rpO 1)).length - 1 else 0) + (if c = rpO 2 then (esc (rpO 2)).length - 1 else 0) + (if c = rpO 3 then (esc (rpO 3)).length - 1 else 0)) :=
  Ch.byte_all (P := fun c => (esc c).length = 1 + ((if c = rpO 0 then (esc (rpO 0)).length - 1 else 0) + (if c = rpO 1 then (esc (rpO 1)).length - 1 else 0) + (if c = rpO 2 then (esc (rpO 2)).length - 1 else 0) + (if c = rpO 3 then (esc (rpO 3)).length - 1 else 0))) (by decide +kernel) c
theorem sum_all : ∀ (t : Row), (escT t).length = t.length + sumK t 4
  | [] => by
    show 0 = 0 + sumK [] 4
    simp [sumK, cntK]
  | c :: t => by
    have ih := sum_all t
    have h1 := esc_sum c
    have h2 := cnt_cons c t 0
    have h3 := cnt_cons c t 1
    have h4 := cnt_cons c t 2
    have h5 := cnt_cons c t 3
    rw [escT_cons, List.length_append, List.length_cons]
    simp only [sumK] at ih ⊢
    omega
theorem esc_same (c : UInt8) (h : ∀ k, k < 4 → c ≠ rpO k) : esc c = [c] := by
  have h0 := h 0 (by decide)
  have h1 := h 1 (by decide)
  have h2 := h 2 (by decide)
  have h3 := h 3 (by decide)
  have e0 : rpO 0 = 13 := rfl
  have e1 : rpO 1 = 62 := rfl
  have e2 : rpO 2 = 60 := rfl
  have e3 : rpO 3 = 38 := rfl
  unfold esc
  rw [if_neg (by rw [← e3]; exact h3), if_neg (by rw [← e2]; exact h2), if_neg (by rw [← e1]; exact h1), if_neg (by rw [← e0]; exact h0)]
theorem escT_same : ∀ (t : Row), (∀ c ∈ t, esc c = [c]) → escT t = t
  | [], _ => rfl
  | c :: t, h => by
    rw [escT_cons, h c (by simp), escT_same t (fun x hx => h x (by simp [hx]))]; rfl
theorem any_none (t : Row) (h : anyK t 4 = false) : escT t = t := by
  simp only [anyK, Bool.false_or, Bool.or_eq_false_iff, decide_eq_false_iff_not, Classical.not_not] at h
  obtain ⟨⟨⟨h0, h1⟩, h2⟩, h3⟩ := h
  refine escT_same t fun c hc => esc_same c fun k hk e => ?_
  have : t.count (rpO k) ≠ 0 := by
    rw [← e]
    exact Nat.ne_of_gt (List.count_pos_iff.2 hc)
  match k, hk with
  | 0, _ => exact this h0
  | 1, _ => exact this h1
  | 2, _ => exact this h2
  | 3, _ => exact this h3
theorem sum_le (t : Row) (k : Nat) : sumK t k ≤ t.length * 4 * k := by
  induction k with
  | zero => exact Nat.zero_le _
  | succ k ih =>
    have h1 : t.count (rpO k) ≤ t.length := List.count_le_length
    have h2 : (esc (rpO k)).length - 1 ≤ 4 := by have := esc_len (rpO k); omega
    have h3 : cntK t k ≤ t.length * 4 := Nat.mul_le_mul h1 h2
    rw [Nat.mul_succ]
    show sumK t k + cntK t k ≤ _
    omega
theorem rpS_at (k : Nat) (hk : k < 4) : rpS[k]? = some [rpO k] := by
  match k, hk with
  | 0, _ => rfl
  | 1, _ => rfl
  | 2, _ => rfl
  | 3, _ => rfl
theorem rpT_old (k : Nat) (hk : k < 4) : rpT 4 (rpO k) = some (esc (rpO k)) := by
  match k, hk with
  | 0, _ => rfl
  | 1, _ => rfl
  | 2, _ => rfl
  | 3, _ => rfl
/-- the table, as it is read -/
structure Tab (w : World) (z : Nat) : Prop where
  q : ∃ g c, w.cell? ⟨z, 256, none⟩ = some (.slice (some ⟨g, 0, none⟩) 4 c) ∧ StrsIn w g rpS
  v : ∀ c : UInt8, (esc c = [c] ∧ w.cell? ⟨z, c.toNat, none⟩ = some (.slice none 0 0)) ∨ (esc c ≠ [c] ∧ ∃ g cap, w.cell? ⟨z, c.toNat, none⟩ = some (.slice (some ⟨g, 0, none⟩) (esc c).length cap) ∧ g < w.heap.size ∧ ∀ (j : Nat) (x : UInt8), (esc c)[j]? = some x → w.cell? ⟨g, j, none⟩ = some (.int .u8 (x.toNat : Int)))
  lt : z < w.heap.size
theorem Tab.kept {w w' : World} {z : Nat} (h : Tab w z) (hb : Below w.heap.size w w') : Tab w' z := by
  obtain ⟨⟨g, c, h1, h2⟩, hv, hl⟩ := h
  refine ⟨⟨g, c, (hb.cell (p := ⟨z, 256, none⟩) hl).trans h1, h2.kept hb⟩, fun x => ?_, Nat.lt_of_lt_of_le hl hb.size⟩
  rcases hv x with ⟨e, hx⟩ | ⟨ne, g, cap, hx, hg, hc⟩
  · exact .inl ⟨e, (hb.cell (p := ⟨z, x.toNat, none⟩) hl).trans hx⟩
  · exact .inr ⟨ne, g, cap, (hb.cell (p := ⟨z, x.toNat, none⟩) hl).trans hx, Nat.lt_of_lt_of_le hg hb.size, fun j y hj => (hb.cell (p := ⟨g, j, none⟩) hg).trans (hc j y hj)⟩
theorem BR.tab {B z : Nat} {w : World} (h : BR B z 4 w) : Tab w z := by
  obtain ⟨cs, q, h1, h2, h3, h4, h5⟩ := h
  refine ⟨?_, fun c => ?_, (Array.getElem?_eq_some_iff.1 h1).1⟩
  · obtain ⟨g, c, rfl, _, hs⟩ := SOwn.in h4
    exact ⟨g, c, by rw [Lib.cell_of_heap h1]; exact h3, hs⟩
  · obtain ⟨v, hv, hr⟩ := h5 c
    rw [rpT_all] at hr
    by_cases he : esc c = [c]
    · rw [if_pos he] at hr
      have hr : v = .slice none 0 0 := hr
      subst hr
      exact .inl ⟨he, by rw [Lib.cell_of_heap h1]; exact hv⟩
    · rw [if_neg he] at hr
      obtain ⟨g, cap, bs, fr, rfl, hg, hc⟩ := hr
      exact .inr ⟨he, g, cap, by rw [Lib.cell_of_heap h1]; exact hv, (Array.getElem?_eq_some_iff.1 hg).1, fun j x hj => by rw [Lib.cell_of_heap hg]; exact hc j x hj⟩
theorem take_cons {t : Row} {i : Nat} (h : i < t.length) : t.take (i + 1) = t.take i ++ [t[i]] := by
  rw [List.take_add_one, List.getElem?_eq_getElem h]; rfl
/-- how long what is told of a text is, and whether it is the text, byte by byte -/
def lenI (t : Row) (i : Nat) : Nat := (escT (t.take i)).length
theorem lenI_ge (t : Row) (i : Nat) (h : i ≤ t.length) : i ≤ lenI t i := by
  unfold lenI
  rw [sum_all, List.length_take]; omega
theorem lenI_succ {t : Row} {i : Nat} (h : i < t.length) : lenI t (i + 1) = lenI t i + (esc t[i]).length := by
  unfold lenI
  rw [escT_take t i h, List.length_append]
theorem lenI_le (t : Row) (i : Nat) : lenI t i ≤ (escT t).length := escT_len_take t i
theorem lenI_all (t : Row) : lenI t t.length = (escT t).length := by unfold lenI; rw [List.take_length]
/-- what escape's text is made of -/
def RepP (s : ByteArray) (e : Ending) : Prop := e = .returned (.string ⟨(escT s.data.toList).toArray⟩)

end Go.Proofs.YtmmpojhjpghdlaaGreatDoor.Xm
