import Derived.Test.YthnnpnlapjlnoaaGreatDoorMg11
import Derived.Test.YthnnpnlapjlnoaaGreatDoorMg17
import Derived.Deep.LoopGhost
import Derived.Deep.CutRange
import Derived.Test.YthnnpnlapjlnoaaGreatDoorMg10

/-
  THE WALK OF THE REFERENCE's Parse.
-/
set_option linter.unusedVariables false
namespace Go.Proofs.YthnnpnlapjlnoaaGreatDoor.Li
open Go.Lib Go.RowKit Bu

theorem hasB_ends (l : Row) : hasB l [13, 10] = ends l := by
  rw [Bool.eq_iff_iff, ends_mem]
  simp only [hasB, List.any_eq_true]
  constructor
  · rintro ⟨x, hx, h⟩
    simp at h
    rcases h with rfl | rfl
    · exact .inl hx
    · exact .inr hx
  · rintro (h | h)
    · exact ⟨13, h, by decide⟩
    · exact ⟨10, h, by decide⟩
def isU (c : UInt8) (n : Nat) (v : Bool) : Prop := ((c.toNat : Int) == (n : Int)) = v
theorem u_eq (c : UInt8) (n : Nat) (h : c.toNat = n) : ((c.toNat : Int) == (n : Int)) = true := by subst h; simp
theorem u_ne (c : UInt8) (n : Nat) (h : c.toNat ≠ n) : ((c.toNat : Int) == (n : Int)) = false := beq_eq_false_iff_ne.2 (by omega)

/-- at the head of the loop over parameters -/
def OutR (w : World) (Z : Nat) (s g n : ByteArray) (gk : Nat) (s6 : Value) (wr : World) : Prop :=
  ∃ (k x : Nat) (c : UInt8) (acc : List PD) (pv : Value), s6 = .int .u8 (c.toNat : Int) ∧ PS w Z s k x g n pv wr ∧ POwn (Z + 2) pv acc wr ∧ k ≤ s.size ∧ x ≤ 31 ∧ (x = 0 → c = 59 ∨ c = 58) ∧
    Hid (parse s.data.toList = Out g.data.toList n.data.toList acc x c (s.data.toList.drop k)) ∧ acc.length ≤ k + 1 ∧ (x = 0 → acc.length ≤ k) ∧ (c = 59 ∧ x = 0 → s.size - k + 1 ≤ gk)
/-- at the head of the loop over a parameter's values -/
def InR (w0 : World) (Z : Nat) (s g n m : ByteArray) (acc : List PD) (K : Nat) (gk : Nat) (s6 : Value) (wi : World) : Prop :=
  ∃ (k x : Nat) (c : UInt8) (vs : List Row) (uv : Value), s6 = .int .u8 (c.toNat : Int) ∧ w0.grownBy wi (some Z) ∧ Sc Z s k x wi ∧
    wi.heap[w0.heap.size]? = some (.cells #[.string m, uv] 47 (0, 0)) ∧ Own (w0.heap.size + 1) uv vs wi ∧ K ≤ k ∧ k ≤ s.size ∧ x ≤ 31 ∧ (x = 0 → (c = 61 ∨ c = 44 ∨ c = 59 ∨ c = 58) ∧ K < k) ∧
    Hid (parse s.data.toList = OutV g.data.toList n.data.toList acc m.data.toList vs x c (s.data.toList.drop k)) ∧ vs.length ≤ k + 1 ∧ (c = 61 ∨ c = 44 → vs.length ≤ k) ∧ (c = 61 ∨ c = 44 → s.size - k + 1 ≤ gk)

set_option maxHeartbeats 8000000 in
set_option maxRecDepth 100000 in
theorem refParse_any (s : ByteArray) (w : World) (hs : s.size ≤ 1099511627776) :
    Calls Tryz.prog 30 #[.string s] w fun e w' => ParseP w.heap.size s.data.toList e w' ∧ Below w.heap.size w w' := by
  obtain ⟨i0, hi, hz0, hz1, hz2⟩ := info_parts infoStr
  obtain ⟨j0, hj, hjz0, hjz1, hjz2⟩ := info_parts infoPrm
  have hfinB : ∀ n : Nat, n ≠ 0 → n < 100 → parse s.data.toList = .bad n → ∀ W, ParseP w.heap.size s.data.toList (.returned (.tuple #[.agg #[.string ⟨#[]⟩, .string ⟨#[]⟩, .slice none 0 0, .string ⟨#[]⟩], .int .i64 (n : Int)])) W := fun n h0 h1 h W => .inl ⟨n, h, h0, h1, rfl⟩
  have hfinB' := Lib.hid hfinB
  have cV := fun W => Ch.refValid_any s W (by omega)
  have hhas := Lib.hid (hasB_ends s.data.toList)
  have hbad10 := Lib.hid (fun h => hfinB 10 (by decide) (by decide) (parse_text (s := s.data.toList) h))
  have hk1 : (w.alloc (.cells #[.string ⟨#[]⟩, .string ⟨#[]⟩, .slice none 0 0, .string ⟨#[]⟩] 41)).heap[w.heap.size]? = some (.cells #[.string ⟨#[]⟩, .string ⟨#[]⟩, .slice none 0 0, .string ⟨#[]⟩] 41 (0, 0)) := heap_alloc_new w _
  have hb1 : Below w.heap.size w (w.alloc (.cells #[.string ⟨#[]⟩, .string ⟨#[]⟩, .slice none 0 0, .string ⟨#[]⟩] 41)) := (Below.refl _ _).alloc (Nat.le_refl _) _
  clear hfinB
  cases hv : Ch.valid s.data.toList
  · simp only [hv] at cV
    have hf := Lib.hid (hbad10.out (by rw [hv]; simp))
    clear hv
    go_enter Tryz.func30, Tryz.ntmps30
    go_wp2_with fail
    go_at_call 28
    refine (cV _).mono ?_
    rintro e w1 ⟨rfl, hw1⟩
    rw [hw1] at hk1 hb1
    obtain ⟨c0, c1, c2, c3, f0, f1, f2, f3⟩ := res4 hk1
    clear hw1 cV hk1
    go_wp2
    exact bodyPost_ret (v := .tuple #[.agg #[.string ⟨#[]⟩, .string ⟨#[]⟩, .slice none 0 0, .string ⟨#[]⟩], .int .i64 10]) (by simp [results, Tryz.results30, go_sem, c0, c1, c2, c3]) rfl ⟨hf.out _, set4 hb1 _ _ _ _⟩
  · simp only [hv] at cV
    cases he : ends s.data.toList
    · have hT : Ch.valid s.data.toList = true ∧ ends s.data.toList = false := ⟨hv, he⟩
      have hT' := Lib.hid hT
      have cH : ∀ W, Calls Tryz.prog 51 #[.string s, .string ⟨#[13, 10]⟩] W fun e w' => e = .returned (.bool false) ∧ ∃ m, w' = W.drewN m := fun W => by
        have := refHas_any s ⟨#[13, 10]⟩ W (by omega) (by decide)
        rw [show (ByteArray.mk #[13, 10]).data.toList = [13, 10] from rfl, hhas.out, he] at this
        exact this
      clear hv he hT hbad10
      go_enter Tryz.func30, Tryz.ntmps30
      go_wp2_with (go_at_call 28; refine (cV _).mono ?_; rintro e w' ⟨rfl, rfl⟩)
      go_at_call 51
      refine (cH _).mono ?_
      rintro e w1 ⟨rfl, m, hw1⟩
      have hz1 : w.heap.size < w1.heap.size := by rw [hw1]; simp
      have hk1 : w1.heap[w.heap.size]? = some (.cells #[.string ⟨#[]⟩, .string ⟨#[]⟩, .slice none 0 0, .string ⟨#[]⟩] 41 (0, 0)) := by rw [hw1]; exact hk1
      have hb1 : Below w.heap.size w w1 := by rw [hw1]; exact below_drewN m hb1
      clear hw1 cV cH
      go_wp2_with fail
      obtain ⟨wB, hwB⟩ : ∃ wB, (w1.alloc (.cells #[.string s, .int .i64 0, .int .i64 0] 84)).alloc (.cells #[.string ⟨#[]⟩, .string ⟨#[]⟩, .slice none 0 0, .string ⟨#[]⟩] 41) = wB := ⟨_, rfl⟩
      have hP : PS w w1.heap.size s 0 0 ⟨#[]⟩ ⟨#[]⟩ (.slice none 0 0) wB := by
        rw [← hwB]
        refine ⟨hz1, (hb1.alloc (by omega) _).alloc (by simp; omega) _, ?_, ?_, ?_⟩
        · rw [Below.heap_alloc _ _ _ (by simp; omega), Below.heap_alloc _ _ _ hz1]; exact hk1
        · unfold Sc
          rw [Below.heap_alloc _ _ _ (by simp)]; exact heap_alloc_new w1 _
        · have := heap_alloc_new (w1.alloc (.cells #[.string s, .int .i64 0, .int .i64 0] 84)) (.cells #[.string ⟨#[]⟩, .string ⟨#[]⟩, .slice none 0 0, .string ⟨#[]⟩] 41)
          simpa using this
      rw [hwB]
      obtain ⟨Z, hZ⟩ : ∃ Z, w1.heap.size = Z := ⟨_, rfl⟩
      rw [hZ] at hP ⊢
      clear hwB hZ hb1 hk1 hz1
      refine (nam_any Z s 0 0 wB hP.sc (Nat.zero_le _) (by omega) (by omega)).mono ?_
      rintro e w2 ⟨n1, k1, rfl, hn1, hsc2, hd1, _, hk1, hg2⟩
      rw [List.drop_zero] at hn1 hd1 hsc2
      have hP2 := hP.call hg2 hsc2
      obtain ⟨l0, l1, l2, l3, m0, m1, m2, m3⟩ := res4 hP2.line
      have hP3 := hP2.name n1
      have hd1' := Lib.hid hd1
      have hn1' := Lib.hid hn1
      have hP3' := Lib.hid hP3
      clear hP hP2 hg2 hsc2 hd1 hn1 hP3
      go_wp2_with fail
      go_at_call 53
      refine (sig_any Z s ⟨#[46, 59, 58]⟩ k1 _ _ hP3'.out.sc hk1 (by omega) (by decide) (badAt_le (by omega))).mono ?_
      rintro e w4 ⟨c, k2, x2, rfl, hsc4, hR4, hx4, hk4a, hk4b, hk4c, hg4⟩
      have hP4 := hP3'.out.call hg4 hsc4
      rw [hd1'.out] at hR4
      have hR4' := Lib.hid hR4
      clear l0 l1 l2 l3 m0 m1 m2 m3 hsc4 hR4 hg4 hP3' hk4c
      go_upto_if 26 with fail
      go_cut [6] from 9 (fun s6 wx => ∃ (k x : Nat) (c : UInt8) (g n : ByteArray), s6 = .int .u8 (c.toNat : Int) ∧ PS w Z s k x g n (.slice none 0 0) wx ∧ k ≤ s.size ∧ x ≤ 31 ∧ (x = 0 → c = 59 ∨ c = 58) ∧
          Hid (parse s.data.toList = Out g.data.toList n.data.toList [] x c (s.data.toList.drop k)))
      case first =>
        by_cases hc : c = 46
        · have d46 : ((c.toNat : Int) == 46) = true := u_eq c 46 (by rw [hc]; rfl)
          obtain ⟨l0, l1, l2, l3, m0, m1, m2, m3⟩ := res4 hP4.line
          have hP5 := hP4.group n1
          have hP5' := Lib.hid hP5
          have hc' := Lib.hid hc
          clear hP4 hP5 hc
          go_wp2_with fail
          refine (nam_any Z s k2 x2 _ hP5'.out.sc hk4b (by omega) hx4).mono ?_
          rintro e w5 ⟨n2, k3, rfl, hn2, hsc5, hd2, _, hk3, hg5⟩
          have hP6 := hP5'.out.call hg5 hsc5
          obtain ⟨l0, l1, l2, l3, m0, m1, m2, m3⟩ := res4 hP6.line
          have hP7 := hP6.name n2
          have hd2' := Lib.hid hd2
          have hn2' := Lib.hid hn2
          have hP7' := Lib.hid hP7
          clear hP6 hg5 hsc5 hd2 hn2 hP7 hP5'
          go_wp2_with fail
          go_at_call 53
          refine (sig_any Z s ⟨#[59, 58]⟩ k3 _ _ hP7'.out.sc hk3 (by omega) (by decide) (badAt_le hx4)).mono ?_
          rintro e w8 ⟨d, k4, x4, rfl, hsc8, hR8, hx8, hk8a, hk8b, hk8c, hg8⟩
          have hP8 := hP7'.out.call hg8 hsc8
          rw [hd2'.out] at hR8
          have hend : (x4 = 0 → d = 59 ∨ d = 58) ∧ parse s.data.toList = Out n1.data.toList n2.data.toList [] x4 d (s.data.toList.drop k4) := by
            rw [hn1'.out, hn2'.out]
            have h46 := hR4'.out
            rw [hc'.out] at h46
            refine ⟨fun h0 => ?_, out_group hT'.out h46 hR8⟩
            subst h0
            have := (sg_in hR8).1
            simpa using this
          have hend' := Lib.hid hend
          clear hR8 hg8 hsc8 hk8c hend l0 l1 l2 l3 m0 m1 m2 m3
          go_wp2_with fail
          go_meet
          case rel => exact ⟨k4, x4, d, n1, n2, rfl, hP8, hk8b, hx8, hend'.out.1, Lib.hid hend'.out.2⟩
        · have d46 : ((c.toNat : Int) == 46) = false := u_ne c 46 (fun h => hc (UInt8.toNat_inj.1 h))
          have hend : (x2 = 0 → c = 59 ∨ c = 58) ∧ parse s.data.toList = Out [] n1.data.toList [] x2 c (s.data.toList.drop k2) := by
            rw [hn1'.out]
            refine ⟨fun h0 => ?_, out_start hT'.out hR4'.out hc⟩
            subst h0
            have := (sg_in hR4'.out).1
            simp at this
            rcases this with h | h | h
            · exact absurd h hc
            · exact .inl h
            · exact .inr h
          have hend' := Lib.hid hend
          clear hend hc
          go_wp2_with fail
          go_meet
          case rel => exact ⟨k2, x2, c, ⟨#[]⟩, n1, rfl, hP4, hk4b, hx4, hend'.out.1, Lib.hid hend'.out.2⟩
      case rest =>
        obtain ⟨k, x, c, g, n, rfl, hP, hk, hx, hc, hO⟩ := hcut
        clear hP4 hR4' hx4 hk4a hk4b hn1' hd1' hk1
        go_wp2_with fail
        go_loopg [6] (s.size + 1) (fun gk s6 wr => OutR w Z s g n gk s6 wr)
        case atStart => exact ⟨k, x, c, [], _, rfl, hP, POwn.nil _ _, hk, hx, hc, hO, by simp, fun _ => by simp, fun _ => by omega⟩
        case round =>
          clear hP hk hx hc hO
          obtain ⟨k, x, c, acc, pv, rfl, hP, hown, hk, hx, hc, hO, hl1, hl2, hf⟩ := hrel
          obtain ⟨c0, c1, c2, f1, f2⟩ := hP.sc.cells
          by_cases h59 : c = 59
          · have d59 : ((c.toNat : Int) == 59) = true := u_eq c 59 (by rw [h59]; rfl)
            by_cases h0 : x = 0
            · subst h0
              have hP' := Lib.hid hP
              have hl := hl2 rfl
              have hfu := hf ⟨h59, rfl⟩
              have h59' := Lib.hid h59
              clear hP hl1 hl2 hf hc h59
              obtain ⟨G, hG⟩ : ∃ G, G = gk := ⟨_, rfl⟩
              subst hG
              obtain ⟨W0, hW0⟩ : ∃ W0, W0 = wr := ⟨_, rfl⟩
              subst hW0
              go_wp2_with fail
              obtain ⟨wp, hwp⟩ : ∃ wp, W0.alloc (.cells #[.string ⟨#[]⟩, .slice none 0 0] 47) = wp := ⟨_, rfl⟩
              have hgp : W0.grownBy wp (some Z) := by rw [← hwp]; exact gr_alloc (World.grownBy.refl W0 _) _
              have hZr : Z + 1 < W0.heap.size := hP'.out.size
              have hscp : Sc Z s k 0 wp := by rw [← hwp]; exact blk_alloc hP'.out.sc _
              have hpb : wp.heap[W0.heap.size]? = some (.cells #[.string ⟨#[]⟩, .slice none 0 0] 47 (0, 0)) := by rw [← hwp]; exact heap_alloc_new W0 _
              rw [hwp]
              clear hwp c0 c1 c2 f1 f2
              refine (nam_any Z s k 0 wp hscp hk (by omega) (by omega)).mono ?_
              rintro e w2 ⟨m, k1, rfl, hm, hsc2, hd1, hk1a, hk1, hg2⟩
              have hgr2 := gr_trans hgp hg2
              have hpb2 := blk_grown hpb hg2 (fun g hg => by have := Option.some.inj hg; omega)
              obtain ⟨q0, q1, r0, r1⟩ := res2 hpb2
              have hgr3 := Lib.hid (gr_store hgr2 (p := ⟨W0.heap.size, 0, none⟩) (Nat.le_refl _) (.string m))
              have hsc3 := Lib.hid (hsc2.other (p := ⟨W0.heap.size, 0, none⟩) (by show Z ≠ W0.heap.size; omega) (.string m))
              have hpb3 := Lib.hid (set2_0 hpb2 (.string m))
              have hd1' := Lib.hid hd1
              have hm' := Lib.hid hm
              clear hgp hscp hpb hsc2 hgr2 hpb2 hg2 hd1 hm
              go_wp2_with fail
              go_at_call 53
              refine (sig_any Z s ⟨#[61]⟩ k1 _ _ hsc3.out hk1 (by omega) (by decide) (badAt_le (by omega))).mono ?_
              rintro e w4 ⟨d, k2, x2, rfl, hsc4, hR4, hx4, hk4a, hk4b, hk4c, hg4⟩
              rw [hd1'.out] at hR4
              have hgr4 := gr_trans hgr3.out hg4
              have hpb4 := blk_grown hpb3.out hg4 (fun g hg => by have := Option.some.inj hg; omega)
              have hO4 : Hid (parse s.data.toList = OutV g.data.toList n.data.toList acc m.data.toList [] x2 d (s.data.toList.drop k2)) := Lib.hid (by rw [hO.out, h59'.out, hm'.out, out_param hR4])
              have hs4 : (x2 = 0 → (d = 61 ∨ d = 44 ∨ d = 59 ∨ d = 58) ∧ k < k2) := fun h0 => by
                subst h0
                have := (sg_in hR4).1
                obtain rfl : d = 61 := by simpa using this
                refine ⟨.inl rfl, ?_⟩
                rcases hk4c with h | h
                · omega
                · cases h
              have hs5 : d = 61 ∨ d = 44 → k2 = k1 + 1 := fun h => by
                rcases hk4c with h' | h'
                · exact h'
                · subst h'; exact absurd h (by decide)
              clear hgr3 hsc3 hpb3 hR4 hg4 q0 q1 r0 r1 hd1' hO hk4c
              go_wp2_with fail
              go_loopg [6] (s.size + 1) (fun gk s6 wi => InR W0 Z s g n m acc k gk s6 wi)
              case atStart => exact ⟨k2, x2, d, [], _, rfl, hgr4, hsc4, hpb4, Own.nil _ _, by omega, hk4b, hx4, hs4, hO4, by simp, fun _ => by simp, fun _ => by omega⟩
              case round =>
                clear hgr4 hsc4 hpb4 hs4 hs5 hO4 hx4 hk4a hk4b hk1 hk1a
                obtain ⟨k3, x, c3, vs, uv, rfl, hgr, hsc, hpb, hov, hk3a, hk3, hx3, hs3, hO, hl3, hl4, hf3⟩ := hrel
                obtain ⟨q0, q1, r0, r1⟩ := res2 hpb
                have hcase : (c3 = 61 ∨ c3 = 44) ∨ (c3 ≠ 61 ∧ c3 ≠ 44) := by
                  by_cases h1 : c3 = 61
                  · exact .inl (.inl h1)
                  · by_cases h2 : c3 = 44
                    · exact .inl (.inr h2)
                    · exact .inr ⟨h1, h2⟩
                rcases hcase with hin | ⟨h61, h44⟩
                · have hl4' := hl4 hin
                  have hf3' := hf3 hin
                  have hin' := Lib.hid hin
                  have hdd : (((c3.toNat : Int) == 61) = true) ∨ (((c3.toNat : Int) == 61) = false ∧ ((c3.toNat : Int) == 44) = true) := by
                    rcases hin with h | h
                    · subst h; exact .inl rfl
                    · subst h; exact .inr ⟨rfl, rfl⟩
                  clear hin hl4 hl3 hf3 hs3
                  rcases hdd with d1 | ⟨d1, d2⟩
                  all_goals
                    go_wp2_with fail
                    refine (val_any Z s k3 x _ hsc hk3 (by omega) hx3).mono ?_
                    rintro e w5 ⟨v, k4, x4, rfl, hsc5, hV, hx5, hk5a, hk5, hg5⟩
                    have hgr5 := gr_trans hgr hg5
                    have hpb5 := blk_grown hpb hg5 (fun g hg => by have := Option.some.inj hg; omega)
                    have hov5 : Own (W0.heap.size + 1) uv vs w5 := hov.far (gr_far hg5 (by omega))
                    have hV' := Lib.hid hV
                    clear q0 q1 r0 r1 hgr hsc hpb hov hg5 hV
                    obtain ⟨q0, q1, r0, r1⟩ := res2 hpb5
                    unfold Own at hov5
                    go_wp2_with (at_builtin; refine wpList_append_own _ rfl _ _ 45 rfl (W0.heap.size + 1) 9 i0 (.string ⟨#[]⟩) 1 16 Tryz.underlying45 hi hz0 hz1 hz2 rfl (by decide) _ _ _ rfl (hov5.alloc _) ⟨w5.heap.size, 0, none⟩ 1 1 [.string v] rfl rfl ?c1 ?c2 ?c3 ?c4 ?c5 ?_)
                    case c1 =>
                      intro j u hj
                      match j, hj with
                      | 0, hj => simp at hj; subst hj; simp [Addr.add]
                    case c2 => intro u hu; simp at hu; subst hu; rfl
                    case c3 => unfold maxLen; omega
                    case c4 => omega
                    case c5 => have := hgr5.size; have := (Array.getElem?_eq_some_iff.1 hpb5).1; simp; omega
                    intro v' w6 hown6 hgrow6 _
                    have hlt5 := fun g hg => (hov5.lt g hg).1
                    have hgr6 := gr_grown (gr_alloc hgr5 _) hgrow6 (fun g hg => by have := hlt5 g hg; omega)
                    have hsc6 : Sc Z s k4 x4 w6 := blk_grown (blk_alloc hsc5 _) hgrow6 (fun g hg => by have := hlt5 g hg; omega)
                    have hpb6 := blk_grown (blk_alloc hpb5 _) hgrow6 (fun g hg => by have := hlt5 g hg; omega)
                    have hov6 : Own (W0.heap.size + 1) v' (vs ++ [v.data.toList]) w6 := Own.snoc hown6
                    have hlen8 : (vs ++ [v.data.toList]).length = vs.length + 1 := by simp
                    obtain ⟨ag, cg, rfl⟩ := hov6.form
                    obtain ⟨lg, hlg⟩ : ∃ lg, (vs ++ [v.data.toList]).length = lg := ⟨_, rfl⟩
                    rw [hlg] at hov6 hlen8 ⊢
                    have hlen8' := Lib.hid hlen8
                    clear hlen8
                    have hgr7 := Lib.hid (gr_store hgr6 (p := ⟨W0.heap.size, 1, none⟩) (Nat.le_refl _) (.slice ag lg cg))
                    have hsc7 := Lib.hid (hsc6.other (p := ⟨W0.heap.size, 1, none⟩) (by show Z ≠ W0.heap.size; omega) (.slice ag lg cg))
                    have hpb7 := Lib.hid (set2_1 hpb6 (.slice ag lg cg))
                    have hov7 := Lib.hid (show Own (W0.heap.size + 1) (.slice ag lg cg) (vs ++ [v.data.toList]) _ from ownsRow_setCell_below hov6 (a := ⟨W0.heap.size, 1, none⟩) (by simp) (.slice ag lg cg))
                    clear q0 q1 r0 r1
                    obtain ⟨q0, q1, r0, r1⟩ := res2 hpb6
                    have hlg' := Lib.hid hlg
                    clear hgr5 hsc5 hpb5 hov5 hown6 hgrow6 hlt5 hgr6 hsc6 hpb6 hov6 hlg
                    go_wp2_with fail
                    go_at_call 53
                    refine (sig_any Z s ⟨#[44, 59, 58]⟩ k4 x4 _ hsc7.out hk5 (by omega) (by decide) hx5).mono ?_
                    rintro e w8 ⟨dd, k5, x5, rfl, hsc8, hR8, hx8, hk8a, hk8b, hk8c, hg8⟩
                    have hgr8 := gr_trans hgr7.out hg8
                    have hpb8 := blk_grown hpb7.out hg8 (fun g hg => by have := Option.some.inj hg; omega)
                    have hov8 : Own (W0.heap.size + 1) (.slice ag lg cg) (vs ++ [v.data.toList]) w8 := hov7.out.far (gr_far hg8 (by omega))
                    have hO8 : Hid (parse s.data.toList = OutV g.data.toList n.data.toList acc m.data.toList (vs ++ [v.data.toList]) x5 dd (s.data.toList.drop k5)) := Lib.hid (by rw [hO.out, outv_value hin'.out hV'.out hR8])
                    have hne8 : dd ≠ 0 → k5 = k4 + 1 := fun h => by
                      rcases hk8c with h' | h'
                      · exact h'
                      · exact absurd h' h
                    have hs8 : (x5 = 0 → (dd = 61 ∨ dd = 44 ∨ dd = 59 ∨ dd = 58) ∧ k < k5) := fun h0 => by
                      subst h0
                      have h3 := (sg_in hR8).1
                      have h4 : dd = 44 ∨ dd = 59 ∨ dd = 58 := by simpa using h3
                      refine ⟨.inr h4, ?_⟩
                      have := hne8 (fun h => by subst h; revert h3; decide)
                      omega
                    have ht8 : dd = 61 ∨ dd = 44 → k5 = k4 + 1 := fun h => hne8 (by rintro rfl; revert h; decide)
                    clear q0 q1 r0 r1 hgr7 hsc7 hpb7 hov7 hR8 hg8 hV' hO hk8c hne8
                    go_wp2_with fail
                    go_roundg (gk - 1)
                    case measure => omega
                    case rel => exact ⟨k5, x5, dd, _, _, rfl, hgr8, hsc8, hpb8, hov8, by omega, hk8b, hx8, hs8, hO8, by have := hlen8'.out; rw [hlg'.out]; omega, fun h => by have := hlen8'.out; rw [hlg'.out, ht8 h]; omega, fun h => by have := ht8 h; omega⟩
                · have d1 : ((c3.toNat : Int) == 61) = false := u_ne c3 61 (fun h => h61 (UInt8.toNat_inj.1 h))
                  have d2 : ((c3.toNat : Int) == 44) = false := u_ne c3 44 (fun h => h44 (UInt8.toNat_inj.1 h))
                  have hP3 := hP'.out.call hgr hsc
                  have hown3 := hown.call hgr
                  have hO3 : Hid (parse s.data.toList = Out g.data.toList n.data.toList (acc ++ [⟨m.data.toList, vs⟩]) x c3 (s.data.toList.drop k3)) := Lib.hid (by rw [hO.out, outv_end (by rintro (h | h); exact h61 h; exact h44 h)])
                  have hs3' : (x = 0 → (c3 = 59 ∨ c3 = 58) ∧ k < k3) := fun h => by
                    obtain ⟨h5, h6⟩ := hs3 h
                    refine ⟨?_, h6⟩
                    rcases h5 with h | h | h | h
                    · exact absurd h h61
                    · exact absurd h h44
                    · exact .inl h
                    · exact .inr h
                  obtain ⟨us, hus, hrow, hvals⟩ := hown3
                  obtain ⟨l0, l1, l2, l3, m0, m1, m2, m3⟩ := res4 hP3.line
                  have hlow := hP3.below
                  have hrow' := hrow.alloc (.cells #[.string m, uv] 47)
                  have hus' := Lib.hid hus
                  clear h61 h44 hO hs3 hl3 hl4 hf3 hus
                  go_wp2_with (at_builtin; refine wpList_append_own _ rfl _ _ 39 rfl (Z + 2) 47 j0 (.agg #[.string ⟨#[]⟩, .slice none 0 0]) 2 40 Tryz.underlying39 hj hjz0 hjz1 hjz2 rfl (by decide) _ _ _ rfl hrow' ⟨wr.heap.size, 0, none⟩ 1 1 [.string m, uv] rfl rfl ?c1 ?c2 ?c3 ?c4 ?c5 ?_)
                  case c1 =>
                    intro j u hj
                    match j, hj with
                    | 0, hj => simp at hj; subst hj; simp [Addr.add]
                    | 1, hj => simp at hj; subst hj; simp [Addr.add]
                  case c2 =>
                    intro u hu; simp at hu
                    rcases hu with rfl | rfl
                    · rfl
                    · obtain ⟨ao, cp, h⟩ := hov.form
                      rw [h]; rfl
                  case c3 => unfold maxLen; omega
                  case c4 => omega
                  case c5 => have := hP3.size; simp; omega
                  intro v' w6 hown6 hgrow6 _
                  have hal : Below wr.heap.size wr (wr.alloc (.cells #[.string m, uv] 47)) := (Below.refl _ _).alloc (Nat.le_refl _) _
                  have hO6 : POwn (Z + 2) v' (acc ++ [⟨m.data.toList, vs⟩]) w6 := POwn.more (p := ⟨m.data.toList, vs⟩) (w' := w6) hus'.out hrow' (fun j p u hp hu => (hvals j p u hp hu).kept hal) ((hov.less (by omega)).kept hal) (by rw [sv_data]; exact hown6) hgrow6
                  have hP6 := (hP3.alloc (.cells #[.string m, uv] 47)).grown hgrow6 (fun g hg => (hrow'.lt g hg).1)
                  have hlen : (acc ++ [(⟨m.data.toList, vs⟩ : PD)]).length = acc.length + 1 := by simp
                  obtain ⟨ag, cg, rfl⟩ := hO6.form
                  obtain ⟨lg, hlg⟩ : ∃ lg, (acc ++ [(⟨m.data.toList, vs⟩ : PD)]).length = lg := ⟨_, rfl⟩
                  rw [hlg] at hO6 hlen ⊢
                  have hlg' := Lib.hid hlg
                  have hlen' := Lib.hid hlen
                  clear hlen
                  have hP7 := Lib.hid (hP6.prms (.slice ag lg cg))
                  have hO7 := Lib.hid (hO6.stored (a := ⟨Z + 1, 2, none⟩) (by show Z + 1 < Z + 2; omega) (.slice ag lg cg))
                  clear hlg
                  clear l0 l1 l2 l3 m0 m1 m2 m3
                  obtain ⟨l0, l1, l2, l3, m0, m1, m2, m3⟩ := res4 hP6.line
                  clear hal hO6 hP6 hown6 hgrow6 hrow hrow' hvals hus' hP3 hlow hgr hsc hpb hov q0 q1 r0 r1 d1 d2
                  go_wp2_with fail
                  go_roundg (G - 1)
                  case measure => omega
                  case rel => exact ⟨k3, x, c3, _, _, rfl, hP7.out, hO7.out, hk3, hx3, fun h => (hs3' h).1, hO3, by have := hlen'.out; rw [hlg'.out]; omega, fun h => by have := (hs3' h).2; have := hlen'.out; rw [hlg'.out]; omega, fun h => by have := (hs3' h.2).2; omega⟩
            · have dx : ((x : Int) == 0) = false := beq_eq_false_iff_ne.2 (by omega)
              have dx2 : ((x : Int) != 0) = true := bne_iff_ne.2 (by omega)
              have hbad : parse s.data.toList = .bad x := by rw [hO.out, out_bad h0]
              have hfin := Lib.hid (hfinB'.out x h0 (by omega) hbad)
              obtain ⟨l0, l1, l2, l3, m0, m1, m2, m3⟩ := res4 hP.res
              have hne1 : ¬ w.heap.size = Z := by have := hP.lt; omega
              have hne2 : ¬ Z = w.heap.size := by omega
              have hB := hP.below
              clear hP hO hbad hf hc hl1 hl2 hown h0 h59
              go_wp2_with fail
              go_region
              all_goals go_wp2
              all_goals exact bodyPost_ret (v := .tuple #[.agg #[.string ⟨#[]⟩, .string ⟨#[]⟩, .slice none 0 0, .string ⟨#[]⟩], .int .i64 (x : Int)]) (by simp [results, Tryz.results30, go_sem, l0, l1, l2, l3]) rfl ⟨hfin.out _, (set4 hB _ _ _ _).drew⟩
          · have d59 : ((c.toNat : Int) == 59) = false := u_ne c 59 (fun h => h59 (UInt8.toNat_inj.1 h))
            by_cases h0 : x = 0
            · subst h0
              obtain rfl : c = 58 := by rcases hc rfl with h | h; exact absurd h h59; exact h
              have hok := hO.out
              rw [out_ok] at hok
              obtain ⟨ao, cp, rfl⟩ := hown.form
              obtain ⟨l, hl⟩ : ∃ l, acc.length = l := ⟨_, rfl⟩
              obtain ⟨x4, hx4⟩ : ∃ x4, s.extract k s.size = x4 := ⟨_, rfl⟩
              have hfin : ∀ W, POwn (Z + 2) (.slice ao l cp) acc W → Below w.heap.size w W → ParseP w.heap.size s.data.toList (.returned (.tuple #[.agg #[.string g, .string n, .slice ao l cp, .string x4], .int .i64 0])) W ∧ Below w.heap.size w W := fun W h h2 => ⟨.inr ⟨_, _, hok, rfl, _, by rw [sv_data, sv_data, ← hx4, ← Lib.extract_to_end, sv_data], h.less (by have := hP.lt; omega)⟩, h2⟩
              have hfin' := Lib.hid hfin
              rw [hl] at hP hown
              obtain ⟨l0, l1, l2, l3, m0, m1, m2, m3⟩ := res4 hP.line
              obtain ⟨p0, p1, p2, p3, q0, q1, q2, q3⟩ := res4 hP.res
              have hne1 : ¬ w.heap.size = Z + 1 := by have := hP.lt; omega
              have hne2 : ¬ Z + 1 = w.heap.size := by omega
              have hB := hP.below
              have hlt := hP.lt
              have j1 : (k : Int) ≤ (s.size : Int) := by omega
              have j2 : (0 : Int) ≤ (k : Int) := by omega
              have j3 : ¬ (s.size : Int) < (k : Int) := by omega
              have hZ2 : w.heap.size < Z + 2 := by omega
              have hZ1 : w.heap.size ≤ Z + 1 := by omega
              have hfl := (((((hown.stored (a := ⟨Z + 1, 3, none⟩) (by show Z + 1 < Z + 2; omega) (.string x4)).stored (a := ⟨w.heap.size, 0, none⟩) hZ2 (.string g)).stored (a := ⟨w.heap.size, 1, none⟩) hZ2 (.string n)).stored (a := ⟨w.heap.size, 2, none⟩) hZ2 (.slice ao l cp)).stored (a := ⟨w.heap.size, 3, none⟩) hZ2 (.string x4))
              have hbf := set4 (hB.setCell (p := ⟨Z + 1, 3, none⟩) hZ1 (.string x4)) (.string g) (.string n) (.slice ao l cp) (.string x4)
              have hend := Lib.hid (hfin _ hfl hbf)
              clear hP hO hok hf hc hl1 hl2 hown h59 hl hfin hfl hbf hB hlt
              go_wp2_with fail
              exact bodyPost_ret (v := .tuple #[.agg #[.string g, .string n, .slice ao l cp, .string x4], .int .i64 0]) (by simp [results, Tryz.results30, go_sem, p0, p1, p2, p3]) rfl hend.out
            · have dx : ((x : Int) == 0) = false := beq_eq_false_iff_ne.2 (by omega)
              have dx2 : ((x : Int) != 0) = true := bne_iff_ne.2 (by omega)
              have hbad : parse s.data.toList = .bad x := by rw [hO.out, out_bad h0]
              have hfin := Lib.hid (hfinB'.out x h0 (by omega) hbad)
              obtain ⟨l0, l1, l2, l3, m0, m1, m2, m3⟩ := res4 hP.res
              have hne1 : ¬ w.heap.size = Z := by have := hP.lt; omega
              have hne2 : ¬ Z = w.heap.size := by omega
              have hB := hP.below
              clear hP hO hbad hf hc hl1 hl2 hown h0 h59
              go_wp2_with fail
              go_region
              all_goals go_wp2
              all_goals exact bodyPost_ret (v := .tuple #[.agg #[.string ⟨#[]⟩, .string ⟨#[]⟩, .slice none 0 0, .string ⟨#[]⟩], .int .i64 (x : Int)]) (by simp [results, Tryz.results30, go_sem, l0, l1, l2, l3]) rfl ⟨hfin.out _, (set4 hB _ _ _ _).drew⟩
    · have cH : ∀ W, Calls Tryz.prog 51 #[.string s, .string ⟨#[13, 10]⟩] W fun e w' => e = .returned (.bool true) ∧ ∃ m, w' = W.drewN m := fun W => by
        have := refHas_any s ⟨#[13, 10]⟩ W (by omega) (by decide)
        rw [show (ByteArray.mk #[13, 10]).data.toList = [13, 10] from rfl, hhas.out, he] at this
        exact this
      have hf := Lib.hid (hbad10.out (by rw [he]; simp))
      clear hv he hbad10
      go_enter Tryz.func30, Tryz.ntmps30
      go_wp2_with (go_at_call 28; refine (cV _).mono ?_; rintro e w' ⟨rfl, rfl⟩)
      go_at_call 51
      refine (cH _).mono ?_
      rintro e w1 ⟨rfl, m, hw1⟩
      have hk1 : w1.heap[w.heap.size]? = some (.cells #[.string ⟨#[]⟩, .string ⟨#[]⟩, .slice none 0 0, .string ⟨#[]⟩] 41 (0, 0)) := by rw [hw1]; exact hk1
      have hb1 : Below w.heap.size w w1 := by rw [hw1]; exact below_drewN m hb1
      obtain ⟨c0, c1, c2, c3, f0, f1, f2, f3⟩ := res4 hk1
      clear hw1 cV cH hk1
      go_wp2
      exact bodyPost_ret (v := .tuple #[.agg #[.string ⟨#[]⟩, .string ⟨#[]⟩, .slice none 0 0, .string ⟨#[]⟩], .int .i64 10]) (by simp [results, Tryz.results30, go_sem, c0, c1, c2, c3]) rfl ⟨hf.out _, set4 hb1 _ _ _ _⟩
end Go.Proofs.YthnnpnlapjlnoaaGreatDoor.Li

/-
  THE WALK OF THE REFERENCE's Print.
-/
set_option linter.unusedVariables false
namespace Go.Proofs.YthnnpnlapjlnoaaGreatDoor.Li
open Go.Lib Go.RowKit Bu

theorem wvs_end : ∀ (vs : List Row) (v : Row) (m : UInt8), wvs m (vs ++ [v]) = wvs m vs ++ (if vs = [] then m else 44) :: wval v
  | [], v, m => by simp [wvs]
  | u :: vs, v, m => by
    have := wvs_end vs v 44
    simp only [List.cons_append, wvs, this]
    cases vs <;> simp
/-- the values behind the sign = -/
def wj (vs : List Row) : Row := (wvs 61 vs).tail
theorem wj_take (vs : List Row) (i : Nat) (v : Row) (h : vs[i]? = some v) : wj (vs.take (i + 1)) = wj (vs.take i) ++ ((if i = 0 then [] else [44]) ++ wval v) := by
  obtain ⟨hl, hv⟩ := List.getElem?_eq_some_iff.1 h
  unfold wj
  rw [List.take_succ_eq_append_getElem hl, hv, wvs_end]
  by_cases hi : i = 0
  · subst hi; simp [wvs]
  · have hne : vs.take i ≠ [] := fun e => by
      have := congrArg List.length e
      rw [List.length_take, List.length_nil] at this
      omega
    rw [if_neg hne, if_neg hi, wvs_head _ hne 61]
    simp
theorem wvs_more : ∀ (a b : List Row) (m : UInt8), (wvs m a).length ≤ (wvs m (a ++ b)).length
  | [], b, m => by simp [wvs]
  | u :: a, b, m => by
    have := wvs_more a b 44
    simp only [List.cons_append, wvs, List.length_cons, List.length_append]
    omega
theorem wj_take_le (vs : List Row) (i : Nat) (h : vs ≠ []) : (wj (vs.take i)).length + 1 ≤ (wvs 61 vs).length := by
  have h1 := wvs_more (vs.take i) (vs.drop i) 61
  rw [List.take_append_drop] at h1
  unfold wj
  rw [List.length_tail]
  have h2 : 1 ≤ (wvs 61 vs).length := by rw [wvs_head vs h 61]; simp
  omega
theorem wval_le (vs : List Row) (i : Nat) (v : Row) (h : vs[i]? = some v) : (wval v).length ≤ (wvs 61 vs).length := by
  obtain ⟨hl, hv⟩ := List.getElem?_eq_some_iff.1 h
  have h1 := wvs_more (vs.take (i + 1)) (vs.drop (i + 1)) 61
  rw [List.take_append_drop, List.take_succ_eq_append_getElem hl, hv, wvs_end, List.length_append, List.length_cons] at h1
  omega
theorem wj_all (vs : List Row) (h : vs ≠ []) : wvs 61 vs = 61 :: wj vs := wvs_head vs h 61
theorem hasB_sgn (l : Row) : hasB l [44, 59, 58] = sgn l := by
  unfold hasB sgn
  congr 1
  funext c
  exact Ch.byte_all (P := fun c => ([44, 59, 58] : Row).contains c = sgB c) (by decide +kernel) c
theorem esc_wval (v : Row) : (esc v).length ≤ (wval v).length := by
  unfold wval
  split
  · simp; omega
  · omega
theorem esc_ge : ∀ v : Row, v.length ≤ (esc v).length
  | [] => Nat.le_refl _
  | c :: l => by
    have := esc_ge l
    have := (esc1_len c).1
    rw [esc_cons, List.length_append, List.length_cons]
    omega
theorem wprm_le (L : LD) (k : Nat) (p : PD) (h : L.params[k]? = some p) : (wprms (L.params.take k)).length + (wprm p).length ≤ (wprms L.params).length := by
  have h1 := wprms_take L.params k p h
  have h2 := wprms_take_le L.params (k + 1)
  rw [h1, List.length_append] at h2
  exact h2
theorem cat_data (a b c : ByteArray) (h : a ++ b = c) : c.data.toList = a.data.toList ++ b.data.toList := by rw [← h, ByteArray.data_append, Array.toList_append]
theorem cat_size (a b c : ByteArray) (h : a ++ b = c) : c.size = a.size + b.size := by rw [← h, ByteArray.size_append]

set_option maxHeartbeats 16000000 in
set_option maxRecDepth 100000 in
theorem refPrint_any (v : Value) (L : LD) (w : World) (hv : LineAt w v L) (hne : ∀ p ∈ L.params, p.vals ≠ []) (hlen : (pr L).length ≤ 140737488355328) :
    Calls Tryz.prog 39 #[v] w fun e w' => (∃ s : ByteArray, s.data.toList = pr L ∧ e = .returned (.string s)) ∧ Below w.heap.size w w' := by
  obtain ⟨pv, rfl, A, b, o, c, rfl, h1, h2, h3, h4⟩ := hv
  obtain ⟨n, hn⟩ : ∃ n, L.params.length = n := ⟨_, rfl⟩
  rw [hn] at h1 h3 ⊢
  obtain ⟨a1, ea1, ha1⟩ := sv_some L.group
  obtain ⟨a2, ea2, ha2⟩ := sv_some L.name
  obtain ⟨a4, ea4, ha4⟩ := sv_some L.value
  rw [ea1, ea2, ea4]
  have hbox : Below w.heap.size w (w.alloc (.cells #[.string a1, .string a2, .slice A n c, .string a4] 41)) := (Below.refl _ _).alloc (Nat.le_refl _) _
  have hkb : (w.alloc (.cells #[.string a1, .string a2, .slice A n c, .string a4] 41)).heap[w.heap.size]? = some (.cells #[.string a1, .string a2, .slice A n c, .string a4] 41 (0, 0)) := heap_alloc_new w _
  have hprl : pr L = (if L.group = [] then L.name else L.group ++ 46 :: L.name) ++ (wprms L.params ++ 58 :: L.value) := rfl
  -- the head of the line
  obtain ⟨H, hH⟩ : ∃ H, (if L.group = [] then L.name else L.group ++ 46 :: L.name) = H := ⟨_, rfl⟩
  rw [hH] at hprl
  have hTl := congrArg List.length hprl
  simp only [List.length_append, List.length_cons] at hTl
  have hsz4 : a4.size = L.value.length := by rw [Lib.size_eq, ha4]
  have hsz1 : a1.size = L.group.length := by rw [Lib.size_eq, ha1]
  have hsz2 : a2.size = L.name.length := by rw [Lib.size_eq, ha2]
  have hHl : a1.size ≤ H.length ∧ a2.size ≤ H.length := by
    rw [← hH]
    split
    · rename_i hg; rw [hg, List.length_nil] at hsz1; omega
    · simp only [List.length_append, List.length_cons]; omega
  obtain ⟨z0, hz0⟩ : ∃ z, a1 ++ (⟨#[46]⟩ : ByteArray) = z := ⟨_, rfl⟩
  obtain ⟨z1, hz1⟩ : ∃ z, z0 ++ a2 = z := ⟨_, rfl⟩
  have s0 := cat_size _ _ _ hz0
  have d0 := cat_data _ _ _ hz0
  have d1 := cat_data _ _ _ hz1
  rw [show (⟨#[46]⟩ : ByteArray).size = 1 from rfl] at s0
  have u0 : ¬ 9223372036854775807 < a1.size + 1 := by omega
  have u1 : ¬ 9223372036854775807 < z0.size + a2.size := by omega
  have hgr : (L.group = [] → a1.size = 0 ∧ a2.data.toList = H) ∧ (L.group ≠ [] → 0 < a1.size ∧ z1.data.toList = H) := by
    refine ⟨fun h => ⟨by rw [hsz1, h]; rfl, by rw [← hH, if_pos h, ha2]⟩, fun h => ⟨?_, ?_⟩⟩
    · rw [hsz1]; exact List.length_pos_iff.2 h
    · rw [← hH, if_neg h, d1, d0, ha1, ha2]; simp
  have hgr' := Lib.hid hgr
  have hprl' := Lib.hid hprl
  have hTl' := Lib.hid hTl
  have hn' := Lib.hid hn
  have h3' := Lib.hid h3
  have h4' := Lib.hid h4
  have hne' := Lib.hid hne
  have ha4' := Lib.hid ha4
  have hH0 : H.length ≤ 140737488355328 := by omega
  have hs4 : a4.size ≤ 140737488355328 := by omega
  unfold maxLen at h2
  clear ea1 ea2 ea4 hn h3 h4 hne hprl hTl hH hsz1 hsz2 hsz4 ha1 ha2 ha4 s0 d0 d1 hgr hHl
  obtain ⟨wb, hwb⟩ : ∃ wb, (w.alloc (.cells #[.string a1, .string a2, .slice A n c, .string a4] 41)) = wb := ⟨_, rfl⟩
  rw [hwb] at hbox hkb
  obtain ⟨l0, l1, l2, l3, m0, m1, m2, m3⟩ := res4 hkb
  have hkb' := Lib.hid hkb
  have hwb' := Lib.hid hwb
  clear hkb hwb
  go_enter Tryz.func39, Tryz.ntmps39
  go_upto_if 15 with fail
  rw [hwb'.out]
  go_cut [3] from 10 (fun s3 wx => ∃ h : ByteArray, s3 = .string h ∧ h.data.toList = H ∧ wb = wx)
  case first =>
    by_cases hg : L.group = []
    · obtain ⟨hg1, hg2⟩ := hgr'.out.1 hg
      clear hg
      go_wp2_with fail
      go_meet
      case rel => exact ⟨a2, rfl, hg2, rfl⟩
    · obtain ⟨hg1, hg2⟩ := hgr'.out.2 hg
      have hg2' := Lib.hid hg2
      clear hg hg2
      go_wp2_with fail
      go_meet
      case rel => exact ⟨z1, rfl, hg2'.out, rfl⟩
  case rest =>
    obtain ⟨h, rfl, hh, rfl⟩ := hcut
    clear hgr' hz0 hz1 u0 u1
    have hbot : Below wb.heap.size wb wb := Below.refl _ _
    have hh' := Lib.hid hh
    clear hh
    go_wp2_with fail
    go_loopg [3, 25] n (fun g s3 s25 wr => ∃ (k : Nat) (acc : ByteArray), s3 = .string acc ∧ s25 = .int .i64 (k : Int) ∧ g = n - k ∧ k ≤ n ∧ Below wb.heap.size wb wr ∧ Hid (acc.data.toList = H ++ wprms (L.params.take k)))
    case atStart => exact ⟨0, h, rfl, rfl, rfl, Nat.zero_le _, hbot, Lib.hid (by rw [hh'.out]; simp [wprms])⟩
    case round =>
      obtain ⟨k, acc, rfl, rfl, hgk, hk, hbr, hacc⟩ := hrel
      obtain ⟨G, hG⟩ : ∃ G, G = gk := ⟨_, rfl⟩
      subst hG
      have hzb : w.heap.size < wb.heap.size := (Array.getElem?_eq_some_iff.1 hkb'.out).1
      have hbw := below_then hbox hbr
      by_cases hlt : k < n
      · have hp : L.params[k]? = some (L.params[k]'(by have := hn'.out; omega)) := List.getElem?_eq_getElem _
        obtain ⟨P, hPe⟩ : ∃ P, L.params[k]'(by have := hn'.out; omega) = P := ⟨_, rfl⟩
        have hPm : P ∈ L.params := by rw [← hPe]; exact List.getElem_mem _
        rw [hPe] at hp
        clear hPe
        obtain ⟨rfl, hAb⟩ := h3'.out (by omega)
        obtain ⟨p1, u, p2, hu⟩ := h4'.out k P hp
        obtain ⟨x, ex, hx⟩ := sv_some P.name
        rw [ex] at p1
        rw [← hbw.cell (p := ⟨b, o + k * 2, none⟩) hAb] at p1
        rw [← hbw.cell (p := ⟨b, o + k * 2 + 1, none⟩) hAb] at p2
        have hvne := hne'.out P hPm
        obtain ⟨A2, b2, o2, c2, rfl, hs1, hs2, hs3, hs4⟩ := hu
        obtain ⟨l, hl⟩ : ∃ l, P.vals.length = l := ⟨_, rfl⟩
        have hl0 : 0 < l := by rw [← hl]; exact List.length_pos_iff.2 hvne
        rw [hl] at p2 hs1 hs3
        obtain ⟨rfl, hb2⟩ := hs3 hl0
        unfold maxLen at hs2
        -- lengths
        have hwl : (wprm P).length = 1 + x.size + (wvs 61 P.vals).length := by
          unfold wprm
          rw [List.length_cons, List.length_append, Lib.size_eq, hx]; omega
        have hpl := wprm_le L k P hp
        have hTl := hTl'.out
        have hasz : acc.size = H.length + (wprms (L.params.take k)).length := by rw [Lib.size_eq, hacc.out, List.length_append]
        have hx0 : x.size ≤ 140737488355328 := by omega
        have ha0 : acc.size ≤ 140737488355328 := by omega
        have hv0 : (wvs 61 P.vals).length ≤ 140737488355328 := by omega
        obtain ⟨y1, hy1⟩ : ∃ y, (⟨#[59]⟩ : ByteArray) ++ x = y := ⟨_, rfl⟩
        obtain ⟨y2, hy2⟩ : ∃ y, y1 ++ (⟨#[61]⟩ : ByteArray) = y := ⟨_, rfl⟩
        obtain ⟨y3, hy3⟩ : ∃ y, acc ++ y2 = y := ⟨_, rfl⟩
        have e1 := cat_size _ _ _ hy1
        have e2 := cat_size _ _ _ hy2
        have e3 := cat_size _ _ _ hy3
        rw [show (⟨#[59]⟩ : ByteArray).size = 1 from rfl] at e1
        rw [show (⟨#[61]⟩ : ByteArray).size = 1 from rfl] at e2
        have n1 : ¬ 9223372036854775807 < 1 + x.size := by omega
        have n2 : ¬ 9223372036854775807 < y1.size + 1 := by omega
        have n3 : ¬ 9223372036854775807 < acc.size + y2.size := by omega
        have hy3d : y3.data.toList = acc.data.toList ++ (59 :: (x.data.toList ++ [61])) := by
          rw [cat_data _ _ _ hy3, cat_data _ _ _ hy2, cat_data _ _ _ hy1]; simp
        have hy3s : y3.size ≤ 281474976710656 := by omega
        have hdone : ∀ r : ByteArray, r.data.toList = y3.data.toList ++ wj (P.vals.take l) → r.data.toList = H ++ wprms (L.params.take (k + 1)) := fun r hr => by
          rw [hr, hy3d, hacc.out, wprms_take L.params k P hp, ← hl, List.take_length]
          unfold wprm
          rw [wj_all _ hvne, hx]; simp
        have hlenj : ∀ i, (wj (P.vals.take i)).length ≤ 140737488355328 := fun i => by
          have := wj_take_le P.vals i hvne; omega
        have hlenv : ∀ (i : Nat) (v : Row), P.vals[i]? = some v → (wval v).length ≤ 140737488355328 := fun i v h => by
          have := wval_le P.vals i v h; omega
        have hdone' := Lib.hid hdone
        have hlenj' := Lib.hid hlenj
        have hlenv' := Lib.hid hlenv
        have hs4' := Lib.hid hs4
        have hl' := Lib.hid hl
        clear hp hPm ex hx hvne hs3 hl hwl hpl hTl hasz e1 e2 e3 hdone hlenj hlenv hs4 hacc hv0 hy3d hkb'
        go_wp2_with fail
        obtain ⟨W1, hW1⟩ : ∃ W1, wr.alloc (.cells #[.string x, .slice (some ⟨b2, o2, none⟩) l c2] 47) = W1 := ⟨_, rfl⟩
        have hb1 : Below wb.heap.size wb W1 := by rw [← hW1]; exact hbr.alloc hbr.size _
        rw [hW1]
        clear hW1 hbr hbw p1 p2
        go_loopg [3, 38] l (fun g s3 s38 wx => ∃ (i : Nat) (r : ByteArray), s3 = .string r ∧ s38 = .int .i64 (i : Int) ∧ g = l - i ∧ i ≤ l ∧ Below wb.heap.size wb wx ∧ Hid (r.data.toList = y3.data.toList ++ wj (P.vals.take i)))
        case atStart => exact ⟨0, y3, rfl, rfl, rfl, Nat.zero_le _, hb1, Lib.hid (by simp [wj, wvs])⟩
        case round =>
          clear hb1
          obtain ⟨i, r, rfl, rfl, hgi, hi, hbx, hr⟩ := hrel
          obtain ⟨G2, hG2⟩ : ∃ G2, G2 = gk := ⟨_, rfl⟩
          subst hG2
          obtain ⟨W2, hW2⟩ : ∃ W2, W2 = wr := ⟨_, rfl⟩
          subst hW2
          have hbxw := below_then hbox hbx
          have hrs : r.size ≤ 422212465065984 := by
            have h1 := hlenj'.out i
            rw [Lib.size_eq, hr.out, List.length_append, ← Lib.size_eq]; omega
          by_cases hil : i < l
          · have hp : P.vals[i]? = some (P.vals[i]'(by have := hl'.out; omega)) := List.getElem?_eq_getElem _
            obtain ⟨V, hVe⟩ : ∃ V, P.vals[i]'(by have := hl'.out; omega) = V := ⟨_, rfl⟩
            rw [hVe] at hp
            obtain ⟨v, ev, hv⟩ := sv_some V
            have hc := hs4'.out i V hp
            rw [ev, ← hbxw.cell (p := ⟨b2, o2 + i, none⟩) hb2] at hc
            have hvl := hlenv'.out i V hp
            have hel := esc_wval V
            have hvv : v.size ≤ (esc V).length := by rw [Lib.size_eq, hv]; exact esc_ge V
            have hwj := wj_take P.vals i V hp
            have hwj' := Lib.hid hwj
            have hv' := Lib.hid hv
            have hvs : v.size ≤ 140737488355328 := by omega
            have hes : (esc V).length ≤ 140737488355328 := by omega
            obtain ⟨y4, hy4⟩ : ∃ y, r ++ (⟨#[44]⟩ : ByteArray) = y := ⟨_, rfl⟩
            have hy4s : y4.size ≤ 422212465065985 := by
              rw [cat_size _ _ _ hy4, show (⟨#[44]⟩ : ByteArray).size = 1 from rfl]; omega
            have hy4d := Lib.hid (cat_data _ _ _ hy4)
            have n4 : ¬ 9223372036854775807 < r.size + 1 := by omega
            clear hVe ev hp hv hvl hel hvv hwj
            go_upto_if 44 with fail
            go_cut [3] from 44 to 83 (fun s3 wx => ∃ h : ByteArray, s3 = .string h ∧ h.size ≤ 422212465065985 ∧ Hid (h.data.toList = r.data.toList ++ (if i = 0 then [] else [44])) ∧ W2 = wx)
            case first =>
              by_cases hi0 : i = 0
              · subst hi0
                go_wp2_with fail
                go_meet
                case rel => exact ⟨r, rfl, by omega, Lib.hid (by simp), rfl⟩
              · have hi1 : 0 < i := by omega
                have hi0' := Lib.hid hi0
                clear hi0
                go_wp2_with fail
                go_meet
                case rel => exact ⟨y4, rfl, hy4s, Lib.hid (by rw [hy4d.out, if_neg hi0'.out]), rfl⟩
            case rest =>
              obtain ⟨h, rfl, hhs, hhd, rfl⟩ := hcut
              clear hy4 hy4s hy4d n4 hrs
              go_wp2_with fail
              go_loopg [8, 9] v.size (fun g s8 s9 wy => ∃ (j : Nat) (a : ByteArray), s8 = .string a ∧ s9 = .int .i64 (j : Int) ∧ g = v.size - j ∧ j ≤ v.size ∧ W2 = wy ∧ Hid (a.data.toList = esc (v.data.toList.take j)))
              case atStart => exact ⟨0, _, rfl, rfl, rfl, Nat.zero_le _, rfl, Lib.hid rfl⟩
              case round =>
                obtain ⟨j, a, rfl, rfl, hgj, hj, rfl, ha⟩ := hrel
                have has : a.size ≤ 140737488355328 := by
                  have h1 := esc_take_len v.data.toList j
                  rw [hv'.out] at h1
                  have h2 := congrArg List.length ha.out
                  rw [← Lib.size_eq, hv'.out] at h2
                  omega
                by_cases hjl : j < v.size
                · have hg := Lib.data_getElem? v j hjl
                  obtain ⟨J, hJ⟩ : ∃ J, j + 1 = J := ⟨_, rfl⟩
                  have hod := one_data v j hjl
                  rw [hJ] at hod
                  obtain ⟨b1, hb1⟩ : ∃ b1, v.extract j J = b1 := ⟨_, rfl⟩
                  rw [hb1] at hod
                  have hb1s : b1.size = 1 := by rw [Lib.size_eq, hod]; rfl
                  obtain ⟨q1, hq1⟩ : ∃ q, a ++ (⟨#[94, 110]⟩ : ByteArray) = q := ⟨_, rfl⟩
                  obtain ⟨q2, hq2⟩ : ∃ q, a ++ (⟨#[94, 94]⟩ : ByteArray) = q := ⟨_, rfl⟩
                  obtain ⟨q3, hq3⟩ : ∃ q, a ++ (⟨#[94, 39]⟩ : ByteArray) = q := ⟨_, rfl⟩
                  obtain ⟨q4, hq4⟩ : ∃ q, a ++ b1 = q := ⟨_, rfl⟩
                  have m1 : ¬ 9223372036854775807 < a.size + 2 := by omega
                  have m4 : ¬ 9223372036854775807 < a.size + b1.size := by omega
                  have hJI : (j : Int) + 1 = (J : Int) := by omega
                  have j1 : (j : Int) ≤ (J : Int) := by omega
                  have j2 : (J : Int) ≤ (v.size : Int) := by omega
                  have j3 : (0 : Int) ≤ (j : Int) := by omega
                  have j4 : ¬ (J : Int) < (j : Int) := by omega
                  have j5 : ¬ (v.size : Int) < (J : Int) := by omega
                  have j6 : J ≤ v.size := by omega
                  have j7 : j < J := by omega
                  have hnext : ∀ (x : Row) (q : ByteArray), esc1 (v[j]'hjl) = x → q.data.toList = a.data.toList ++ x → q.data.toList = esc (v.data.toList.take J) := fun x q h1 h2 => by
                    rw [← hJ, esc_take _ _ _ hg, h1, h2, ha.out]
                  have hnext' := Lib.hid hnext
                  have hod' := Lib.hid hod
                  have hmeas : v.size - J < v.size - j := by omega
                  have hmeas' := Lib.hid hmeas
                  clear hJ hod hg hnext hmeas ha hb1s
                  by_cases c1 : v[j]'hjl = 10
                  · have f1 := w10 _ c1
                    have hn := Lib.hid (hnext'.out [94, 110] q1 (by rw [c1]; rfl) (cat_data _ _ _ hq1))
                    clear c1
                    go_wp2_with fail
                    go_roundg (v.size - J)
                    case measure => exact hmeas'.out
                    case rel => exact ⟨J, q1, rfl, rfl, rfl, j6, rfl, hn⟩
                  · have f1 := v10 _ c1
                    by_cases c2 : v[j]'hjl = 94
                    · have f2 := w94 _ c2
                      have hn := Lib.hid (hnext'.out [94, 94] q2 (by rw [c2]; rfl) (cat_data _ _ _ hq2))
                      clear c1 c2
                      go_wp2_with fail
                      go_roundg (v.size - J)
                      case measure => exact hmeas'.out
                      case rel => exact ⟨J, q2, rfl, rfl, rfl, j6, rfl, hn⟩
                    · have f2 := v94 _ c2
                      by_cases c3 : v[j]'hjl = 34
                      · have f3 := w34 _ c3
                        have hn := Lib.hid (hnext'.out [94, 39] q3 (by rw [c3]; rfl) (cat_data _ _ _ hq3))
                        clear c1 c2 c3
                        go_wp2_with fail
                        go_roundg (v.size - J)
                        case measure => exact hmeas'.out
                        case rel => exact ⟨J, q3, rfl, rfl, rfl, j6, rfl, hn⟩
                      · have f3 := v34 _ c3
                        have hn := Lib.hid (hnext'.out [v[j]'hjl] q4 (by unfold esc1; rw [if_neg c1, if_neg c2, if_neg c3]) (by rw [cat_data _ _ _ hq4, hod'.out]))
                        clear c1 c2 c3
                        go_wp2_with fail
                        go_roundg (v.size - J)
                        case measure => exact hmeas'.out
                        case rel => exact ⟨J, q4, rfl, rfl, rfl, j6, rfl, hn⟩
                · have hjv : j = v.size := by omega
                  have haV : a.data.toList = esc V := by rw [ha.out, List.take_of_length_le (by rw [← Lib.size_eq]; omega), hv'.out]
                  have cH : ∀ W, Calls Tryz.prog 51 #[.string a, .string ⟨#[44, 59, 58]⟩] W fun e w' => e = .returned (.bool (sgn V)) ∧ ∃ m, w' = W.drewN m := fun W => by
                    have := refHas_any a ⟨#[44, 59, 58]⟩ W (by omega) (by decide)
                    rw [haV, show (ByteArray.mk #[44, 59, 58]).data.toList = [44, 59, 58] from rfl, hasB_sgn, sgn_esc] at this
                    exact this
                  obtain ⟨q1, hq1⟩ : ∃ q, (⟨#[34]⟩ : ByteArray) ++ a = q := ⟨_, rfl⟩
                  obtain ⟨q2, hq2⟩ : ∃ q, q1 ++ (⟨#[34]⟩ : ByteArray) = q := ⟨_, rfl⟩
                  obtain ⟨q3, hq3⟩ : ∃ q, h ++ q2 = q := ⟨_, rfl⟩
                  obtain ⟨q4, hq4⟩ : ∃ q, h ++ a = q := ⟨_, rfl⟩
                  have e1 := cat_size _ _ _ hq1
                  have e2 := cat_size _ _ _ hq2
                  rw [show (⟨#[34]⟩ : ByteArray).size = 1 from rfl] at e1 e2
                  have m1 : ¬ 9223372036854775807 < 1 + a.size := by omega
                  have m2 : ¬ 9223372036854775807 < q1.size + 1 := by omega
                  have m3 : ¬ 9223372036854775807 < h.size + q2.size := by omega
                  have m4 : ¬ 9223372036854775807 < h.size + a.size := by omega
                  have hfin : ∀ q : ByteArray, q.data.toList = h.data.toList ++ wval V → q.data.toList = y3.data.toList ++ wj (P.vals.take (i + 1)) := fun q hq => by
                    rw [hq, hhd.out, hr.out, hwj'.out]; simp
                  cases hs : sgn V
                  · rw [hs] at cH
                    have hq := Lib.hid (hfin q4 (by rw [cat_data _ _ _ hq4, haV]; unfold wval; rw [hs]; rfl))
                    clear hs hfin haV e1 e2 ha hhd hr hjv
                    go_wp2_with fail
                    go_at_call 51
                    refine (cH _).mono ?_
                    rintro e w5 ⟨rfl, m, rfl⟩
                    clear cH
                    go_wp2_with fail
                    go_roundg (G2 - 1)
                    case measure => omega
                    case rel => exact ⟨i + 1, q4, rfl, by go_num, by omega, by omega, below_drewN m hbx, hq⟩
                  · rw [hs] at cH
                    have hq := Lib.hid (hfin q3 (by rw [cat_data _ _ _ hq3, cat_data _ _ _ hq2, cat_data _ _ _ hq1, haV]; unfold wval; rw [hs]; simp))
                    clear hs hfin haV e1 e2 ha hhd hr hjv
                    go_wp2_with fail
                    go_at_call 51
                    refine (cH _).mono ?_
                    rintro e w5 ⟨rfl, m, rfl⟩
                    clear cH
                    go_wp2_with fail
                    go_roundg (G2 - 1)
                    case measure => omega
                    case rel => exact ⟨i + 1, q3, rfl, by go_num, by omega, by omega, below_drewN m hbx, hq⟩
          · have hil2 : i = l := by omega
            subst hil2
            have hd := Lib.hid (hdone'.out r hr.out)
            clear hr
            go_wp2_with fail
            go_roundg (G - 1)
            case measure => omega
            case rel => exact ⟨k + 1, r, rfl, by go_num, by omega, by omega, hbx, hd⟩
      · have hkn : k = n := by omega
        subst hkn
        have hk1 : wr.heap[w.heap.size]? = some (.cells #[.string a1, .string a2, .slice A k c, .string a4] 41 (0, 0)) := (hbr.block _ hzb).trans hkb'.out
        obtain ⟨l0, l1, l2, l3, m0, m1, m2, m3⟩ := res4 hk1
        have hTl := hTl'.out
        have hall : acc.data.toList = H ++ wprms L.params := by rw [hacc.out, List.take_of_length_le (by have := hn'.out; omega)]
        have hasz : acc.size = H.length + (wprms L.params).length := by rw [Lib.size_eq, hall, List.length_append]
        obtain ⟨y1, hy1⟩ : ∃ y, acc ++ (⟨#[58]⟩ : ByteArray) = y := ⟨_, rfl⟩
        obtain ⟨y2, hy2⟩ : ∃ y, y1 ++ a4 = y := ⟨_, rfl⟩
        have e1 := cat_size _ _ _ hy1
        rw [show (⟨#[58]⟩ : ByteArray).size = 1 from rfl] at e1
        have n1 : ¬ 9223372036854775807 < acc.size + 1 := by omega
        have n2 : ¬ 9223372036854775807 < y1.size + a4.size := by omega
        have hend : y2.data.toList = pr L := by
          rw [cat_data _ _ _ hy2, cat_data _ _ _ hy1, hall, hprl'.out, ha4'.out]; simp
        have hend' := Lib.hid hend
        clear hk1 hall hasz hTl e1 hend hacc hkb'
        go_wp2_with fail
        go_ret
        exact ⟨⟨_, hend'.out, rfl⟩, hbw⟩
end Go.Proofs.YthnnpnlapjlnoaaGreatDoor.Li

/-
  HOW LONG A LINE IS PRINTED (plain): what is read is printed in at most three times its length; what a bound on the print bounds.
-/
set_option linter.unusedVariables false
namespace Go.Proofs.YthnnpnlapjlnoaaGreatDoor.Li
open Go.Lib Go.RowKit Bu

/-! ### how long a line that was read is, printed -/
theorem vals_pr : ∀ (n : Nat) {l r : Row} {vs : List Row} (m : UInt8), l.length ≤ n → vals l = some (vs, r) → (wvs m vs).length + 3 * r.length ≤ 3 * l.length + 3 ∧ r.length ≤ l.length
  | n, l, r, vs, m, hn, h => by
    cases hr : rawC l with
    | none => rw [vals_none hr] at h; cases h
    | some p =>
      obtain ⟨a, q⟩ := p
      obtain ⟨⟨p1, q1, e, _⟩, hl⟩ := rawC_tells hr
      have hlen := congrArg List.length e
      simp only [List.length_append] at hlen
      have hm := mean_len a
      have hw := wval_len (mean a)
      by_cases hc : q.head? = some 44
      · have hlt := tail_lt hc
        rw [vals_more hr hc] at h
        obtain ⟨⟨us, u⟩, hu, he⟩ := Option.map_eq_some_iff.1 h
        simp only [Prod.mk.injEq] at he
        obtain ⟨rfl, rfl⟩ := he
        match n, hn with
        | 0, hn => omega
        | n + 1, hn =>
          obtain ⟨h1, h2⟩ := vals_pr n 44 (by omega) hu
          simp only [wvs, List.length_cons, List.length_append]
          omega
      · rw [vals_last hr hc] at h
        have h := Option.some.inj h
        simp only [Prod.mk.injEq] at h
        obtain ⟨rfl, rfl⟩ := h
        simp only [wvs, List.length_cons, List.length_append, List.length_nil]
        omega
theorem prms_pr : ∀ (n : Nat) {l r : Row} {ps : List PD}, l.length ≤ n → prms l = .ok ps r → (wprms ps).length + 3 * r.length ≤ 3 * l.length
  | n, l, r, ps, hn, h => by
    by_cases h59 : l.head? = some 59
    · have hlt := tail_lt h59
      cases hnc : nameC l.tail with
      | none => rw [prms_bad1 h59 hnc] at h; cases h
      | some q =>
        obtain ⟨m, r1⟩ := q
        have hl1 := congrArg List.length (nameC_some hnc).1
        rw [List.length_append] at hl1
        by_cases h61 : r1.head? = some 61
        · have hlt1 := tail_lt h61
          cases hv : vals r1.tail with
          | none => rw [prms_bad3 h59 hnc h61 hv] at h; cases h
          | some q =>
            obtain ⟨vs, r2⟩ := q
            obtain ⟨h1, h2⟩ := vals_pr _ 61 (Nat.le_refl _) hv
            rw [prms_more h59 hnc h61 hv] at h
            cases hp : prms r2 with
            | bad e => rw [hp] at h; cases h
            | ok qs u =>
              rw [hp] at h
              simp only [PR.more, PR.ok.injEq] at h
              obtain ⟨rfl, rfl⟩ := h
              match n, hn with
              | 0, hn => omega
              | n + 1, hn =>
                have i1 := prms_pr n (by omega) hp
                rw [wprms_cons, List.length_append]
                unfold wprm
                simp only [List.length_cons, List.length_append]
                omega
        · rw [prms_bad2 h59 hnc h61] at h; cases h
    · rw [prms_end h59] at h
      simp only [PR.ok.injEq] at h
      obtain ⟨rfl, rfl⟩ := h
      simp [wprms]
theorem parse_len {s : Row} {L : LD} (h : parse s = .ok L) : (pr L).length ≤ 3 * s.length := by
  unfold parse at h
  split at h
  · cases hn : namesC s with
    | none => rw [hn] at h; cases h
    | some p =>
      obtain ⟨g, n, r⟩ := p
      rw [hn] at h
      dsimp only at h
      have hg : (if g = [] then n else g ++ 46 :: n).length + r.length ≤ s.length := by
        unfold namesC at hn
        cases hc : nameC s with
        | none => rw [hc] at hn; cases hn
        | some p =>
          obtain ⟨m, q⟩ := p
          have h1 := congrArg List.length (nameC_some hc).1
          rw [List.length_append] at h1
          rw [hc] at hn
          dsimp only at hn
          split at hn
          · rename_i h46
            obtain ⟨⟨p1, p2⟩, hp, he⟩ := Option.map_eq_some_iff.1 hn
            simp only [Prod.mk.injEq] at he
            obtain ⟨rfl, rfl, rfl⟩ := he
            have h2 := congrArg List.length (nameC_some hp).1
            have h3 := tail_lt h46
            rw [List.length_append] at h2
            split
            · omega
            · simp only [List.length_append, List.length_cons]; omega
          · have hn := Option.some.inj hn
            simp only [Prod.mk.injEq] at hn
            obtain ⟨rfl, rfl, rfl⟩ := hn
            rw [if_pos rfl]; omega
      unfold fin at h
      cases hp : prms r with
      | bad e => rw [hp] at h; cases h
      | ok ps q =>
        rw [hp] at h
        dsimp only at h
        split at h
        · rename_i h58
          simp only [LR.ok.injEq] at h
          subst h
          have h1 := prms_pr _ (Nat.le_refl _) hp
          have h2 := tail_lt h58
          unfold pr
          simp only [List.nil_append, List.length_append, List.length_cons]
          omega
        · cases h
  · cases h

/-! ### what was read -/
def zeroLD : LD := ⟨[], [], [], []⟩
theorem zero_at (w : World) : LineAt w (.agg #[.string ⟨#[]⟩, .string ⟨#[]⟩, .slice none 0 0, .string ⟨#[]⟩]) zeroLD :=
  ⟨_, rfl, none, 0, 0, 0, rfl, by simp [zeroLD], by unfold maxLen; omega, fun h => absurd h (by simp [zeroLD]), fun j p hj => by simp [zeroLD] at hj⟩
def CodeR (t : Row) (L : LD) (n : Nat) : Prop := (n = 0 ∧ parse t = .ok L) ∨ (n ≠ 0 ∧ parse t = .bad n ∧ L = zeroLD)
theorem CodeR.one {t : Row} {L M : LD} {n m : Nat} (h : CodeR t L n) (k : CodeR t M m) : L = M ∧ n = m := by
  rcases h with ⟨h1, h2⟩ | ⟨h1, h2, h3⟩ <;> rcases k with ⟨k1, k2⟩ | ⟨k1, k2, k3⟩
  · rw [h2] at k2; exact ⟨LR.ok.inj k2, by omega⟩
  · rw [h2] at k2; cases k2
  · rw [h2] at k2; cases k2
  · rw [h2] at k2; exact ⟨by rw [h3, k3], LR.bad.inj k2⟩
theorem ParseP.read {B : Nat} {t : Row} {e : Ending} {w' : World} (h : ParseP B t e w') : ∃ (L : LD) (v : Value) (n : Nat), e = .returned (.tuple #[v, .int .i64 (n : Int)]) ∧ n < 100 ∧ LineAt w' v L ∧ CodeR t L n := by
  rcases h with ⟨n, h1, h2, h3, h4⟩ | ⟨L, v, h1, h2, h3⟩
  · exact ⟨zeroLD, _, n, h4, h3, zero_at w', .inr ⟨h2, h1, rfl⟩⟩
  · exact ⟨L, v, 0, h2, by omega, h3.at, .inl ⟨rfl, h1⟩⟩
theorem LineAt.box {w : World} {v : Value} {L : LD} (h : LineAt w v L) : ∃ (g n x : ByteArray) (A : Option Addr) (l c : Nat), v = .agg #[.string g, .string n, .slice A l c, .string x] := by
  obtain ⟨pv, rfl, A, b, o, c, rfl, _⟩ := h
  exact ⟨_, _, _, A, _, c, rfl⟩
theorem SameP.same {L : LD} {e : Ending} (h : SameP L L e) : e = .returned (.bool true) := by
  obtain ⟨R, rfl, hR⟩ := h
  rw [hR.2 rfl]
theorem mem_at {α : Type} {x : α} : ∀ {l : List α}, x ∈ l → ∃ i : Nat, l[i]? = some x
  | [], h => by cases h
  | y :: l, h => by
    rcases List.mem_cons.1 h with rfl | h
    · exact ⟨0, rfl⟩
    · obtain ⟨i, hi⟩ := mem_at h
      exact ⟨i + 1, hi⟩
theorem small_pr {L : LD} (h : (pr L).length ≤ 140737488355328) : SmallL L := by
  unfold pr at h
  simp only [List.length_append, List.length_cons] at h
  refine ⟨?_, ?_, by omega, fun p hp => ?_⟩
  · split at h
    · rename_i hg; rw [hg]; simp
    · simp only [List.length_append, List.length_cons] at h; omega
  · split at h
    · omega
    · simp only [List.length_append, List.length_cons] at h; omega
  · obtain ⟨k, hk⟩ := mem_at hp
    have h1 := wprm_le L k p hk
    have h2 : (wprm p).length = 1 + p.name.length + (wvs 61 p.vals).length := by unfold wprm; rw [List.length_cons, List.length_append]; omega
    refine ⟨by omega, fun v hv => ?_⟩
    obtain ⟨i, hi⟩ := mem_at hv
    have h3 := wval_le p.vals i v hi
    have h4 := esc_wval v
    have h5 := esc_ge v
    omega


/-- what the calls on a line want of its size -/
structure SzL (N : Nat) (L : LD) : Prop where
  g : L.group.length ≤ N
  n : L.name.length ≤ N
  v : L.value.length ≤ N
  k : L.params.length ≤ N
  pn : ∀ p ∈ L.params, p.name.length ≤ N
  pk : ∀ p ∈ L.params, p.vals.length ≤ N
theorem wprms_count : ∀ ps : List PD, ps.length ≤ (wprms ps).length
  | [] => Nat.zero_le _
  | p :: ps => by
    have := wprms_count ps
    have e : wprms (p :: ps) = wprm p ++ wprms ps := by unfold wprms; rw [List.flatMap_cons]
    rw [e, List.length_append, List.length_cons]
    have : 1 ≤ (wprm p).length := by unfold wprm; simp
    omega
theorem wvs_count : ∀ (m : UInt8) (vs : List Row), vs.length ≤ (wvs m vs).length
  | m, [] => Nat.zero_le _
  | m, v :: vs => by
    have := wvs_count 44 vs
    unfold wvs
    simp only [List.length_cons, List.length_append]
    omega
theorem sz_pr {L : LD} {N : Nat} (h : (pr L).length ≤ N) : SzL N L := by
  unfold pr at h
  simp only [List.length_append, List.length_cons] at h
  have hc := wprms_count L.params
  have hp : ∀ p ∈ L.params, p.name.length ≤ N ∧ p.vals.length ≤ N := fun p hp => by
    obtain ⟨k, hk⟩ := mem_at hp
    have h1 := wprm_le L k p hk
    have h2 : (wprm p).length = 1 + p.name.length + (wvs 61 p.vals).length := by unfold wprm; rw [List.length_cons, List.length_append]; omega
    have h3 := wvs_count 61 p.vals
    exact ⟨by omega, by omega⟩
  refine ⟨?_, ?_, by omega, by omega, fun p h => (hp p h).1, fun p h => (hp p h).2⟩
  · split at h
    · rename_i hg; rw [hg]; simp
    · simp only [List.length_append, List.length_cons] at h; omega
  · split at h
    · omega
    · simp only [List.length_append, List.length_cons] at h; omega
end Go.Proofs.YthnnpnlapjlnoaaGreatDoor.Li
