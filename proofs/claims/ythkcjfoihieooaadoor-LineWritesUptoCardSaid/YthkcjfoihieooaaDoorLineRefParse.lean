/-
  THE WALK OF THE REFERENCE's Parse.
-/
import Derived.Test.YthkcjfoihieooaaDoorLineScanMem
import Derived.Test.YthkcjfoihieooaaDoorCharRefValid
import Derived.Deep.LoopGhost
import Derived.Deep.CutRange
set_option linter.unusedVariables false
namespace Go.Proofs.YthkcjfoihieooaaDoor.Li
open Go.Lib Go.RowKit Bu

theorem hasB_ends (l : Row) : hasB l [13, 10] = ends l := by
  rw [Bool.eq_iff_iff, ends_mem]
  simp only [hasB, List.any_eq_true]
  constructor
  · rintro ⟨x, hx, h⟩
    simp at h
    rcases h with rfl | rfl
    · exact .inl hx
    · exact .inr hx
  · rintro (h | h)
    · exact ⟨13, h, by decide⟩
    · exact ⟨10, h, by decide⟩
def isU (c : UInt8) (n : Nat) (v : Bool) : Prop := ((c.toNat : Int) == (n : Int)) = v
theorem u_eq (c : UInt8) (n : Nat) (h : c.toNat = n) : ((c.toNat : Int) == (n : Int)) = true := by subst h; simp
theorem u_ne (c : UInt8) (n : Nat) (h : c.toNat ≠ n) : ((c.toNat : Int) == (n : Int)) = false := beq_eq_false_iff_ne.2 (by omega)

/-- at the head of the loop over parameters -/
def OutR (w : World) (Z : Nat) (s g n : ByteArray) (gk : Nat) (s6 : Value) (wr : World) : Prop :=
  ∃ (k x : Nat) (c : UInt8) (acc : List PD) (pv : Value), s6 = .int .u8 (c.toNat : Int) ∧ PS w Z s k x g n pv wr ∧ POwn (Z + 2) pv acc wr ∧ k ≤ s.size ∧ x ≤ 31 ∧ (x = 0 → c = 59 ∨ c = 58) ∧
    Hid (parse s.data.toList = Out g.data.toList n.data.toList acc x c (s.data.toList.drop k)) ∧ acc.length ≤ k + 1 ∧ (x = 0 → acc.length ≤ k) ∧ (c = 59 ∧ x = 0 → s.size - k + 1 ≤ gk)
/-- at the head of the loop over a parameter's values -/
def InR (w0 : World) (Z : Nat) (s g n m : ByteArray) (acc : List PD) (K : Nat) (gk : Nat) (s6 : Value) (wi : World) : Prop :=
  ∃ (k x : Nat) (c : UInt8) (vs : List Row) (uv : Value), s6 = .int .u8 (c.toNat : Int) ∧ w0.grownBy wi (some Z) ∧ Sc Z s k x wi ∧
    wi.heap[w0.heap.size]? = some (.cells #[.string m, uv] 40 (0, 0)) ∧ Own (w0.heap.size + 1) uv vs wi ∧ K ≤ k ∧ k ≤ s.size ∧ x ≤ 31 ∧ (x = 0 → (c = 61 ∨ c = 44 ∨ c = 59 ∨ c = 58) ∧ K < k) ∧
    Hid (parse s.data.toList = OutV g.data.toList n.data.toList acc m.data.toList vs x c (s.data.toList.drop k)) ∧ vs.length ≤ k + 1 ∧ (c = 61 ∨ c = 44 → vs.length ≤ k) ∧ (c = 61 ∨ c = 44 → s.size - k + 1 ≤ gk)

set_option maxHeartbeats 8000000 in
set_option maxRecDepth 100000 in
theorem refParse_any (s : ByteArray) (w : World) (hs : s.size ≤ 1099511627776) :
    Calls Tryd.prog 10 #[.string s] w fun e w' => ParseP w.heap.size s.data.toList e w' ∧ Below w.heap.size w w' := by
  obtain ⟨i0, hi, hz0, hz1, hz2⟩ := info_parts infoStr
  obtain ⟨j0, hj, hjz0, hjz1, hjz2⟩ := info_parts infoPrm
  have hfinB : ∀ n : Nat, n ≠ 0 → n < 100 → parse s.data.toList = .bad n → ∀ W, ParseP w.heap.size s.data.toList (.returned (.tuple #[.agg #[.string ⟨#[]⟩, .string ⟨#[]⟩, .slice none 0 0, .string ⟨#[]⟩], .int .i64 (n : Int)])) W := fun n h0 h1 h W => .inl ⟨n, h, h0, h1, rfl⟩
  have hfinB' := Lib.hid hfinB
  have cV := fun W => Ch.refValid_any s W (by omega)
  have hhas := Lib.hid (hasB_ends s.data.toList)
  have hbad10 := Lib.hid (fun h => hfinB 10 (by decide) (by decide) (parse_text (s := s.data.toList) h))
  have hk1 : (w.alloc (.cells #[.string ⟨#[]⟩, .string ⟨#[]⟩, .slice none 0 0, .string ⟨#[]⟩] 25)).heap[w.heap.size]? = some (.cells #[.string ⟨#[]⟩, .string ⟨#[]⟩, .slice none 0 0, .string ⟨#[]⟩] 25 (0, 0)) := heap_alloc_new w _
  have hb1 : Below w.heap.size w (w.alloc (.cells #[.string ⟨#[]⟩, .string ⟨#[]⟩, .slice none 0 0, .string ⟨#[]⟩] 25)) := (Below.refl _ _).alloc (Nat.le_refl _) _
  clear hfinB
  cases hv : Ch.valid s.data.toList
  · simp only [hv] at cV
    have hf := Lib.hid (hbad10.out (by rw [hv]; simp))
    clear hv
    go_enter Tryd.func10, Tryd.ntmps10
    go_wp2_with fail
    go_at_call 25
    refine (cV _).mono ?_
    rintro e w1 ⟨rfl, hw1⟩
    rw [hw1] at hk1 hb1
    obtain ⟨c0, c1, c2, c3, f0, f1, f2, f3⟩ := res4 hk1
    clear hw1 cV hk1
    go_wp2
    exact bodyPost_ret (v := .tuple #[.agg #[.string ⟨#[]⟩, .string ⟨#[]⟩, .slice none 0 0, .string ⟨#[]⟩], .int .i64 10]) (by simp [results, Tryd.results10, go_sem, c0, c1, c2, c3]) rfl ⟨hf.out _, set4 hb1 _ _ _ _⟩
  · simp only [hv] at cV
    cases he : ends s.data.toList
    · have hT : Ch.valid s.data.toList = true ∧ ends s.data.toList = false := ⟨hv, he⟩
      have hT' := Lib.hid hT
      have cH : ∀ W, Calls Tryd.prog 26 #[.string s, .string ⟨#[13, 10]⟩] W fun e w' => e = .returned (.bool false) ∧ ∃ m, w' = W.drewN m := fun W => by
        have := refHas_any s ⟨#[13, 10]⟩ W (by omega) (by decide)
        rw [show (ByteArray.mk #[13, 10]).data.toList = [13, 10] from rfl, hhas.out, he] at this
        exact this
      clear hv he hT hbad10
      go_enter Tryd.func10, Tryd.ntmps10
      go_wp2_with (go_at_call 25; refine (cV _).mono ?_; rintro e w' ⟨rfl, rfl⟩)
      go_at_call 26
      refine (cH _).mono ?_
      rintro e w1 ⟨rfl, m, hw1⟩
      have hz1 : w.heap.size < w1.heap.size := by rw [hw1]; simp
      have hk1 : w1.heap[w.heap.size]? = some (.cells #[.string ⟨#[]⟩, .string ⟨#[]⟩, .slice none 0 0, .string ⟨#[]⟩] 25 (0, 0)) := by rw [hw1]; exact hk1
      have hb1 : Below w.heap.size w w1 := by rw [hw1]; exact below_drewN m hb1
      clear hw1 cV cH
      go_wp2_with fail
      obtain ⟨wB, hwB⟩ : ∃ wB, (w1.alloc (.cells #[.string s, .int .i64 0, .int .i64 0] 52)).alloc (.cells #[.string ⟨#[]⟩, .string ⟨#[]⟩, .slice none 0 0, .string ⟨#[]⟩] 25) = wB := ⟨_, rfl⟩
      have hP : PS w w1.heap.size s 0 0 ⟨#[]⟩ ⟨#[]⟩ (.slice none 0 0) wB := by
        rw [← hwB]
        refine ⟨hz1, (hb1.alloc (by omega) _).alloc (by simp; omega) _, ?_, ?_, ?_⟩
        · rw [Below.heap_alloc _ _ _ (by simp; omega), Below.heap_alloc _ _ _ hz1]; exact hk1
        · unfold Sc
          rw [Below.heap_alloc _ _ _ (by simp)]; exact heap_alloc_new w1 _
        · have := heap_alloc_new (w1.alloc (.cells #[.string s, .int .i64 0, .int .i64 0] 52)) (.cells #[.string ⟨#[]⟩, .string ⟨#[]⟩, .slice none 0 0, .string ⟨#[]⟩] 25)
          simpa using this
      rw [hwB]
      obtain ⟨Z, hZ⟩ : ∃ Z, w1.heap.size = Z := ⟨_, rfl⟩
      rw [hZ] at hP ⊢
      clear hwB hZ hb1 hk1 hz1
      refine (nam_any Z s 0 0 wB hP.sc (Nat.zero_le _) (by omega) (by omega)).mono ?_
      rintro e w2 ⟨n1, k1, rfl, hn1, hsc2, hd1, _, hk1, hg2⟩
      rw [List.drop_zero] at hn1 hd1 hsc2
      have hP2 := hP.call hg2 hsc2
      obtain ⟨l0, l1, l2, l3, m0, m1, m2, m3⟩ := res4 hP2.line
      have hP3 := hP2.name n1
      have hd1' := Lib.hid hd1
      have hn1' := Lib.hid hn1
      have hP3' := Lib.hid hP3
      clear hP hP2 hg2 hsc2 hd1 hn1 hP3
      go_wp2_with fail
      go_at_call 28
      refine (sig_any Z s ⟨#[46, 59, 58]⟩ k1 _ _ hP3'.out.sc hk1 (by omega) (by decide) (badAt_le (by omega))).mono ?_
      rintro e w4 ⟨c, k2, x2, rfl, hsc4, hR4, hx4, hk4a, hk4b, hk4c, hg4⟩
      have hP4 := hP3'.out.call hg4 hsc4
      rw [hd1'.out] at hR4
      have hR4' := Lib.hid hR4
      clear l0 l1 l2 l3 m0 m1 m2 m3 hsc4 hR4 hg4 hP3' hk4c
      go_upto_if 26 with fail
      go_cut [6] from 9 (fun s6 wx => ∃ (k x : Nat) (c : UInt8) (g n : ByteArray), s6 = .int .u8 (c.toNat : Int) ∧ PS w Z s k x g n (.slice none 0 0) wx ∧ k ≤ s.size ∧ x ≤ 31 ∧ (x = 0 → c = 59 ∨ c = 58) ∧
          Hid (parse s.data.toList = Out g.data.toList n.data.toList [] x c (s.data.toList.drop k)))
      case first =>
        by_cases hc : c = 46
        · have d46 : ((c.toNat : Int) == 46) = true := u_eq c 46 (by rw [hc]; rfl)
          obtain ⟨l0, l1, l2, l3, m0, m1, m2, m3⟩ := res4 hP4.line
          have hP5 := hP4.group n1
          have hP5' := Lib.hid hP5
          have hc' := Lib.hid hc
          clear hP4 hP5 hc
          go_wp2_with fail
          refine (nam_any Z s k2 x2 _ hP5'.out.sc hk4b (by omega) hx4).mono ?_
          rintro e w5 ⟨n2, k3, rfl, hn2, hsc5, hd2, _, hk3, hg5⟩
          have hP6 := hP5'.out.call hg5 hsc5
          obtain ⟨l0, l1, l2, l3, m0, m1, m2, m3⟩ := res4 hP6.line
          have hP7 := hP6.name n2
          have hd2' := Lib.hid hd2
          have hn2' := Lib.hid hn2
          have hP7' := Lib.hid hP7
          clear hP6 hg5 hsc5 hd2 hn2 hP7 hP5'
          go_wp2_with fail
          go_at_call 28
          refine (sig_any Z s ⟨#[59, 58]⟩ k3 _ _ hP7'.out.sc hk3 (by omega) (by decide) (badAt_le hx4)).mono ?_
          rintro e w8 ⟨d, k4, x4, rfl, hsc8, hR8, hx8, hk8a, hk8b, hk8c, hg8⟩
          have hP8 := hP7'.out.call hg8 hsc8
          rw [hd2'.out] at hR8
          have hend : (x4 = 0 → d = 59 ∨ d = 58) ∧ parse s.data.toList = Out n1.data.toList n2.data.toList [] x4 d (s.data.toList.drop k4) := by
            rw [hn1'.out, hn2'.out]
            have h46 := hR4'.out
            rw [hc'.out] at h46
            refine ⟨fun h0 => ?_, out_group hT'.out h46 hR8⟩
            subst h0
            have := (sg_in hR8).1
            simpa using this
          have hend' := Lib.hid hend
          clear hR8 hg8 hsc8 hk8c hend l0 l1 l2 l3 m0 m1 m2 m3
          go_wp2_with fail
          go_meet
          case rel => exact ⟨k4, x4, d, n1, n2, rfl, hP8, hk8b, hx8, hend'.out.1, Lib.hid hend'.out.2⟩
        · have d46 : ((c.toNat : Int) == 46) = false := u_ne c 46 (fun h => hc (UInt8.toNat_inj.1 h))
          have hend : (x2 = 0 → c = 59 ∨ c = 58) ∧ parse s.data.toList = Out [] n1.data.toList [] x2 c (s.data.toList.drop k2) := by
            rw [hn1'.out]
            refine ⟨fun h0 => ?_, out_start hT'.out hR4'.out hc⟩
            subst h0
            have := (sg_in hR4'.out).1
            simp at this
            rcases this with h | h | h
            · exact absurd h hc
            · exact .inl h
            · exact .inr h
          have hend' := Lib.hid hend
          clear hend hc
          go_wp2_with fail
          go_meet
          case rel => exact ⟨k2, x2, c, ⟨#[]⟩, n1, rfl, hP4, hk4b, hx4, hend'.out.1, Lib.hid hend'.out.2⟩
      case rest =>
        obtain ⟨k, x, c, g, n, rfl, hP, hk, hx, hc, hO⟩ := hcut
        clear hP4 hR4' hx4 hk4a hk4b hn1' hd1' hk1
        go_wp2_with fail
        go_loopg [6] (s.size + 1) (fun gk s6 wr => OutR w Z s g n gk s6 wr)
        case atStart => exact ⟨k, x, c, [], _, rfl, hP, POwn.nil _ _, hk, hx, hc, hO, by simp, fun _ => by simp, fun _ => by omega⟩
        case round =>
          clear hP hk hx hc hO
          obtain ⟨k, x, c, acc, pv, rfl, hP, hown, hk, hx, hc, hO, hl1, hl2, hf⟩ := hrel
          obtain ⟨c0, c1, c2, f1, f2⟩ := hP.sc.cells
          by_cases h59 : c = 59
          · have d59 : ((c.toNat : Int) == 59) = true := u_eq c 59 (by rw [h59]; rfl)
            by_cases h0 : x = 0
            · subst h0
              have hP' := Lib.hid hP
              have hl := hl2 rfl
              have hfu := hf ⟨h59, rfl⟩
              have h59' := Lib.hid h59
              clear hP hl1 hl2 hf hc h59
              obtain ⟨G, hG⟩ : ∃ G, G = gk := ⟨_, rfl⟩
              subst hG
              obtain ⟨W0, hW0⟩ : ∃ W0, W0 = wr := ⟨_, rfl⟩
              subst hW0
              go_wp2_with fail
              obtain ⟨wp, hwp⟩ : ∃ wp, W0.alloc (.cells #[.string ⟨#[]⟩, .slice none 0 0] 40) = wp := ⟨_, rfl⟩
              have hgp : W0.grownBy wp (some Z) := by rw [← hwp]; exact gr_alloc (World.grownBy.refl W0 _) _
              have hZr : Z + 1 < W0.heap.size := hP'.out.size
              have hscp : Sc Z s k 0 wp := by rw [← hwp]; exact blk_alloc hP'.out.sc _
              have hpb : wp.heap[W0.heap.size]? = some (.cells #[.string ⟨#[]⟩, .slice none 0 0] 40 (0, 0)) := by rw [← hwp]; exact heap_alloc_new W0 _
              rw [hwp]
              clear hwp c0 c1 c2 f1 f2
              refine (nam_any Z s k 0 wp hscp hk (by omega) (by omega)).mono ?_
              rintro e w2 ⟨m, k1, rfl, hm, hsc2, hd1, hk1a, hk1, hg2⟩
              have hgr2 := gr_trans hgp hg2
              have hpb2 := blk_grown hpb hg2 (fun g hg => by have := Option.some.inj hg; omega)
              obtain ⟨q0, q1, r0, r1⟩ := res2 hpb2
              have hgr3 := Lib.hid (gr_store hgr2 (p := ⟨W0.heap.size, 0, none⟩) (Nat.le_refl _) (.string m))
              have hsc3 := Lib.hid (hsc2.other (p := ⟨W0.heap.size, 0, none⟩) (by show Z ≠ W0.heap.size; omega) (.string m))
              have hpb3 := Lib.hid (set2_0 hpb2 (.string m))
              have hd1' := Lib.hid hd1
              have hm' := Lib.hid hm
              clear hgp hscp hpb hsc2 hgr2 hpb2 hg2 hd1 hm
              go_wp2_with fail
              go_at_call 28
              refine (sig_any Z s ⟨#[61]⟩ k1 _ _ hsc3.out hk1 (by omega) (by decide) (badAt_le (by omega))).mono ?_
              rintro e w4 ⟨d, k2, x2, rfl, hsc4, hR4, hx4, hk4a, hk4b, hk4c, hg4⟩
              rw [hd1'.out] at hR4
              have hgr4 := gr_trans hgr3.out hg4
              have hpb4 := blk_grown hpb3.out hg4 (fun g hg => by have := Option.some.inj hg; omega)
              have hO4 : Hid (parse s.data.toList = OutV g.data.toList n.data.toList acc m.data.toList [] x2 d (s.data.toList.drop k2)) := Lib.hid (by rw [hO.out, h59'.out, hm'.out, out_param hR4])
              have hs4 : (x2 = 0 → (d = 61 ∨ d = 44 ∨ d = 59 ∨ d = 58) ∧ k < k2) := fun h0 => by
                subst h0
                have := (sg_in hR4).1
                obtain rfl : d = 61 := by simpa using this
                refine ⟨.inl rfl, ?_⟩
                rcases hk4c with h | h
                · omega
                · cases h
              have hs5 : d = 61 ∨ d = 44 → k2 = k1 + 1 := fun h => by
                rcases hk4c with h' | h'
                · exact h'
                · subst h'; exact absurd h (by decide)
              clear hgr3 hsc3 hpb3 hR4 hg4 q0 q1 r0 r1 hd1' hO hk4c
              go_wp2_with fail
              go_loopg [6] (s.size + 1) (fun gk s6 wi => InR W0 Z s g n m acc k gk s6 wi)
              case atStart => exact ⟨k2, x2, d, [], _, rfl, hgr4, hsc4, hpb4, Own.nil _ _, by omega, hk4b, hx4, hs4, hO4, by simp, fun _ => by simp, fun _ => by omega⟩
              case round =>
                clear hgr4 hsc4 hpb4 hs4 hs5 hO4 hx4 hk4a hk4b hk1 hk1a
                obtain ⟨k3, x, c3, vs, uv, rfl, hgr, hsc, hpb, hov, hk3a, hk3, hx3, hs3, hO, hl3, hl4, hf3⟩ := hrel
                obtain ⟨q0, q1, r0, r1⟩ := res2 hpb
                have hcase : (c3 = 61 ∨ c3 = 44) ∨ (c3 ≠ 61 ∧ c3 ≠ 44) := by
                  by_cases h1 : c3 = 61
                  · exact .inl (.inl h1)
                  · by_cases h2 : c3 = 44
                    · exact .inl (.inr h2)
                    · exact .inr ⟨h1, h2⟩
                rcases hcase with hin | ⟨h61, h44⟩
                · have hl4' := hl4 hin
                  have hf3' := hf3 hin
                  have hin' := Lib.hid hin
                  have hdd : (((c3.toNat : Int) == 61) = true) ∨ (((c3.toNat : Int) == 61) = false ∧ ((c3.toNat : Int) == 44) = true) := by
                    rcases hin with h | h
                    · subst h; exact .inl rfl
                    · subst h; exact .inr ⟨rfl, rfl⟩
                  clear hin hl4 hl3 hf3 hs3
                  rcases hdd with d1 | ⟨d1, d2⟩
                  all_goals
                    go_wp2_with fail
                    refine (val_any Z s k3 x _ hsc hk3 (by omega) hx3).mono ?_
                    rintro e w5 ⟨v, k4, x4, rfl, hsc5, hV, hx5, hk5a, hk5, hg5⟩
                    have hgr5 := gr_trans hgr hg5
                    have hpb5 := blk_grown hpb hg5 (fun g hg => by have := Option.some.inj hg; omega)
                    have hov5 : Own (W0.heap.size + 1) uv vs w5 := hov.far (gr_far hg5 (by omega))
                    have hV' := Lib.hid hV
                    clear q0 q1 r0 r1 hgr hsc hpb hov hg5 hV
                    obtain ⟨q0, q1, r0, r1⟩ := res2 hpb5
                    unfold Own at hov5
                    go_wp2_with (at_builtin; refine wpList_append_own _ rfl _ _ 38 rfl (W0.heap.size + 1) 9 i0 (.string ⟨#[]⟩) 1 16 Tryd.underlying38 hi hz0 hz1 hz2 rfl (by decide) _ _ _ rfl (hov5.alloc _) ⟨w5.heap.size, 0, none⟩ 1 1 [.string v] rfl rfl ?c1 ?c2 ?c3 ?c4 ?c5 ?_)
                    case c1 =>
                      intro j u hj
                      match j, hj with
                      | 0, hj => simp at hj; subst hj; simp [Addr.add]
                    case c2 => intro u hu; simp at hu; subst hu; rfl
                    case c3 => unfold maxLen; omega
                    case c4 => omega
                    case c5 => have := hgr5.size; have := (Array.getElem?_eq_some_iff.1 hpb5).1; simp; omega
                    intro v' w6 hown6 hgrow6 _
                    have hlt5 := fun g hg => (hov5.lt g hg).1
                    have hgr6 := gr_grown (gr_alloc hgr5 _) hgrow6 (fun g hg => by have := hlt5 g hg; omega)
                    have hsc6 : Sc Z s k4 x4 w6 := blk_grown (blk_alloc hsc5 _) hgrow6 (fun g hg => by have := hlt5 g hg; omega)
                    have hpb6 := blk_grown (blk_alloc hpb5 _) hgrow6 (fun g hg => by have := hlt5 g hg; omega)
                    have hov6 : Own (W0.heap.size + 1) v' (vs ++ [v.data.toList]) w6 := Own.snoc hown6
                    have hlen8 : (vs ++ [v.data.toList]).length = vs.length + 1 := by simp
                    obtain ⟨ag, cg, rfl⟩ := hov6.form
                    obtain ⟨lg, hlg⟩ : ∃ lg, (vs ++ [v.data.toList]).length = lg := ⟨_, rfl⟩
                    rw [hlg] at hov6 hlen8 ⊢
                    have hlen8' := Lib.hid hlen8
                    clear hlen8
                    have hgr7 := Lib.hid (gr_store hgr6 (p := ⟨W0.heap.size, 1, none⟩) (Nat.le_refl _) (.slice ag lg cg))
                    have hsc7 := Lib.hid (hsc6.other (p := ⟨W0.heap.size, 1, none⟩) (by show Z ≠ W0.heap.size; omega) (.slice ag lg cg))
                    have hpb7 := Lib.hid (set2_1 hpb6 (.slice ag lg cg))
                    have hov7 := Lib.hid (show Own (W0.heap.size + 1) (.slice ag lg cg) (vs ++ [v.data.toList]) _ from ownsRow_setCell_below hov6 (a := ⟨W0.heap.size, 1, none⟩) (by simp) (.slice ag lg cg))
                    clear q0 q1 r0 r1
                    obtain ⟨q0, q1, r0, r1⟩ := res2 hpb6
                    have hlg' := Lib.hid hlg
                    clear hgr5 hsc5 hpb5 hov5 hown6 hgrow6 hlt5 hgr6 hsc6 hpb6 hov6 hlg
                    go_wp2_with fail
                    go_at_call 28
                    refine (sig_any Z s ⟨#[44, 59, 58]⟩ k4 x4 _ hsc7.out hk5 (by omega) (by decide) hx5).mono ?_
                    rintro e w8 ⟨dd, k5, x5, rfl, hsc8, hR8, hx8, hk8a, hk8b, hk8c, hg8⟩
                    have hgr8 := gr_trans hgr7.out hg8
                    have hpb8 := blk_grown hpb7.out hg8 (fun g hg => by have := Option.some.inj hg; omega)
                    have hov8 : Own (W0.heap.size + 1) (.slice ag lg cg) (vs ++ [v.data.toList]) w8 := hov7.out.far (gr_far hg8 (by omega))
                    have hO8 : Hid (parse s.data.toList = OutV g.data.toList n.data.toList acc m.data.toList (vs ++ [v.data.toList]) x5 dd (s.data.toList.drop k5)) := Lib.hid (by rw [hO.out, outv_value hin'.out hV'.out hR8])
                    have hne8 : dd ≠ 0 → k5 = k4 + 1 := fun h => by
                      rcases hk8c with h' | h'
                      · exact h'
                      · exact absurd h' h
                    have hs8 : (x5 = 0 → (dd = 61 ∨ dd = 44 ∨ dd = 59 ∨ dd = 58) ∧ k < k5) := fun h0 => by
                      subst h0
                      have h3 := (sg_in hR8).1
                      have h4 : dd = 44 ∨ dd = 59 ∨ dd = 58 := by simpa using h3
                      refine ⟨.inr h4, ?_⟩
                      have := hne8 (fun h => by subst h; revert h3; decide)
                      omega
                    have ht8 : dd = 61 ∨ dd = 44 → k5 = k4 + 1 := fun h => hne8 (by rintro rfl; revert h; decide)
                    clear q0 q1 r0 r1 hgr7 hsc7 hpb7 hov7 hR8 hg8 hV' hO hk8c hne8
                    go_wp2_with fail
                    go_roundg (gk - 1)
                    case measure => omega
                    case rel => exact ⟨k5, x5, dd, _, _, rfl, hgr8, hsc8, hpb8, hov8, by omega, hk8b, hx8, hs8, hO8, by have := hlen8'.out; rw [hlg'.out]; omega, fun h => by have := hlen8'.out; rw [hlg'.out, ht8 h]; omega, fun h => by have := ht8 h; omega⟩
                · have d1 : ((c3.toNat : Int) == 61) = false := u_ne c3 61 (fun h => h61 (UInt8.toNat_inj.1 h))
                  have d2 : ((c3.toNat : Int) == 44) = false := u_ne c3 44 (fun h => h44 (UInt8.toNat_inj.1 h))
                  have hP3 := hP'.out.call hgr hsc
                  have hown3 := hown.call hgr
                  have hO3 : Hid (parse s.data.toList = Out g.data.toList n.data.toList (acc ++ [⟨m.data.toList, vs⟩]) x c3 (s.data.toList.drop k3)) := Lib.hid (by rw [hO.out, outv_end (by rintro (h | h); exact h61 h; exact h44 h)])
                  have hs3' : (x = 0 → (c3 = 59 ∨ c3 = 58) ∧ k < k3) := fun h => by
                    obtain ⟨h5, h6⟩ := hs3 h
                    refine ⟨?_, h6⟩
                    rcases h5 with h | h | h | h
                    · exact absurd h h61
                    · exact absurd h h44
                    · exact .inl h
                    · exact .inr h
                  obtain ⟨us, hus, hrow, hvals⟩ := hown3
                  obtain ⟨l0, l1, l2, l3, m0, m1, m2, m3⟩ := res4 hP3.line
                  have hlow := hP3.below
                  have hrow' := hrow.alloc (.cells #[.string m, uv] 40)
                  have hus' := Lib.hid hus
                  clear h61 h44 hO hs3 hl3 hl4 hf3 hus
                  go_wp2_with (at_builtin; refine wpList_append_own _ rfl _ _ 23 rfl (Z + 2) 40 j0 (.agg #[.string ⟨#[]⟩, .slice none 0 0]) 2 40 Tryd.underlying23 hj hjz0 hjz1 hjz2 rfl (by decide) _ _ _ rfl hrow' ⟨wr.heap.size, 0, none⟩ 1 1 [.string m, uv] rfl rfl ?c1 ?c2 ?c3 ?c4 ?c5 ?_)
                  case c1 =>
                    intro j u hj
                    match j, hj with
                    | 0, hj => simp at hj; subst hj; simp [Addr.add]
                    | 1, hj => simp at hj; subst hj; simp [Addr.add]
                  case c2 =>
                    intro u hu; simp at hu
                    rcases hu with rfl | rfl
                    · rfl
                    · obtain ⟨ao, cp, h⟩ := hov.form
                      rw [h]; rfl
                  case c3 => unfold maxLen; omega
                  case c4 => omega
                  case c5 => have := hP3.size; simp; omega
                  intro v' w6 hown6 hgrow6 _
                  have hal : Below wr.heap.size wr (wr.alloc (.cells #[.string m, uv] 40)) := (Below.refl _ _).alloc (Nat.le_refl _) _
                  have hO6 : POwn (Z + 2) v' (acc ++ [⟨m.data.toList, vs⟩]) w6 := POwn.more (p := ⟨m.data.toList, vs⟩) (w' := w6) hus'.out hrow' (fun j p u hp hu => (hvals j p u hp hu).kept hal) ((hov.less (by omega)).kept hal) (by rw [sv_data]; exact hown6) hgrow6
                  have hP6 := (hP3.alloc (.cells #[.string m, uv] 40)).grown hgrow6 (fun g hg => (hrow'.lt g hg).1)
                  have hlen : (acc ++ [(⟨m.data.toList, vs⟩ : PD)]).length = acc.length + 1 := by simp
                  obtain ⟨ag, cg, rfl⟩ := hO6.form
                  obtain ⟨lg, hlg⟩ : ∃ lg, (acc ++ [(⟨m.data.toList, vs⟩ : PD)]).length = lg := ⟨_, rfl⟩
                  rw [hlg] at hO6 hlen ⊢
                  have hlg' := Lib.hid hlg
                  have hlen' := Lib.hid hlen
                  clear hlen
                  have hP7 := Lib.hid (hP6.prms (.slice ag lg cg))
                  have hO7 := Lib.hid (hO6.stored (a := ⟨Z + 1, 2, none⟩) (by show Z + 1 < Z + 2; omega) (.slice ag lg cg))
                  clear hlg
                  clear l0 l1 l2 l3 m0 m1 m2 m3
                  obtain ⟨l0, l1, l2, l3, m0, m1, m2, m3⟩ := res4 hP6.line
                  clear hal hO6 hP6 hown6 hgrow6 hrow hrow' hvals hus' hP3 hlow hgr hsc hpb hov q0 q1 r0 r1 d1 d2
                  go_wp2_with fail
                  go_roundg (G - 1)
                  case measure => omega
                  case rel => exact ⟨k3, x, c3, _, _, rfl, hP7.out, hO7.out, hk3, hx3, fun h => (hs3' h).1, hO3, by have := hlen'.out; rw [hlg'.out]; omega, fun h => by have := (hs3' h).2; have := hlen'.out; rw [hlg'.out]; omega, fun h => by have := (hs3' h.2).2; omega⟩
            · have dx : ((x : Int) == 0) = false := beq_eq_false_iff_ne.2 (by omega)
              have dx2 : ((x : Int) != 0) = true := bne_iff_ne.2 (by omega)
              have hbad : parse s.data.toList = .bad x := by rw [hO.out, out_bad h0]
              have hfin := Lib.hid (hfinB'.out x h0 (by omega) hbad)
              obtain ⟨l0, l1, l2, l3, m0, m1, m2, m3⟩ := res4 hP.res
              have hne1 : ¬ w.heap.size = Z := by have := hP.lt; omega
              have hne2 : ¬ Z = w.heap.size := by omega
              have hB := hP.below
              clear hP hO hbad hf hc hl1 hl2 hown h0 h59
              go_wp2_with fail
              go_region
              all_goals go_wp2
              all_goals exact bodyPost_ret (v := .tuple #[.agg #[.string ⟨#[]⟩, .string ⟨#[]⟩, .slice none 0 0, .string ⟨#[]⟩], .int .i64 (x : Int)]) (by simp [results, Tryd.results10, go_sem, l0, l1, l2, l3]) rfl ⟨hfin.out _, (set4 hB _ _ _ _).drew⟩
          · have d59 : ((c.toNat : Int) == 59) = false := u_ne c 59 (fun h => h59 (UInt8.toNat_inj.1 h))
            by_cases h0 : x = 0
            · subst h0
              obtain rfl : c = 58 := by rcases hc rfl with h | h; exact absurd h h59; exact h
              have hok := hO.out
              rw [out_ok] at hok
              obtain ⟨ao, cp, rfl⟩ := hown.form
              obtain ⟨l, hl⟩ : ∃ l, acc.length = l := ⟨_, rfl⟩
              obtain ⟨x4, hx4⟩ : ∃ x4, s.extract k s.size = x4 := ⟨_, rfl⟩
              have hfin : ∀ W, POwn (Z + 2) (.slice ao l cp) acc W → Below w.heap.size w W → ParseP w.heap.size s.data.toList (.returned (.tuple #[.agg #[.string g, .string n, .slice ao l cp, .string x4], .int .i64 0])) W ∧ Below w.heap.size w W := fun W h h2 => ⟨.inr ⟨_, _, hok, rfl, _, by rw [sv_data, sv_data, ← hx4, ← Lib.extract_to_end, sv_data], h.less (by have := hP.lt; omega)⟩, h2⟩
              have hfin' := Lib.hid hfin
              rw [hl] at hP hown
              obtain ⟨l0, l1, l2, l3, m0, m1, m2, m3⟩ := res4 hP.line
              obtain ⟨p0, p1, p2, p3, q0, q1, q2, q3⟩ := res4 hP.res
              have hne1 : ¬ w.heap.size = Z + 1 := by have := hP.lt; omega
              have hne2 : ¬ Z + 1 = w.heap.size := by omega
              have hB := hP.below
              have hlt := hP.lt
              have j1 : (k : Int) ≤ (s.size : Int) := by omega
              have j2 : (0 : Int) ≤ (k : Int) := by omega
              have j3 : ¬ (s.size : Int) < (k : Int) := by omega
              have hZ2 : w.heap.size < Z + 2 := by omega
              have hZ1 : w.heap.size ≤ Z + 1 := by omega
              have hfl := (((((hown.stored (a := ⟨Z + 1, 3, none⟩) (by show Z + 1 < Z + 2; omega) (.string x4)).stored (a := ⟨w.heap.size, 0, none⟩) hZ2 (.string g)).stored (a := ⟨w.heap.size, 1, none⟩) hZ2 (.string n)).stored (a := ⟨w.heap.size, 2, none⟩) hZ2 (.slice ao l cp)).stored (a := ⟨w.heap.size, 3, none⟩) hZ2 (.string x4))
              have hbf := set4 (hB.setCell (p := ⟨Z + 1, 3, none⟩) hZ1 (.string x4)) (.string g) (.string n) (.slice ao l cp) (.string x4)
              have hend := Lib.hid (hfin _ hfl hbf)
              clear hP hO hok hf hc hl1 hl2 hown h59 hl hfin hfl hbf hB hlt
              go_wp2_with fail
              exact bodyPost_ret (v := .tuple #[.agg #[.string g, .string n, .slice ao l cp, .string x4], .int .i64 0]) (by simp [results, Tryd.results10, go_sem, p0, p1, p2, p3]) rfl hend.out
            · have dx : ((x : Int) == 0) = false := beq_eq_false_iff_ne.2 (by omega)
              have dx2 : ((x : Int) != 0) = true := bne_iff_ne.2 (by omega)
              have hbad : parse s.data.toList = .bad x := by rw [hO.out, out_bad h0]
              have hfin := Lib.hid (hfinB'.out x h0 (by omega) hbad)
              obtain ⟨l0, l1, l2, l3, m0, m1, m2, m3⟩ := res4 hP.res
              have hne1 : ¬ w.heap.size = Z := by have := hP.lt; omega
              have hne2 : ¬ Z = w.heap.size := by omega
              have hB := hP.below
              clear hP hO hbad hf hc hl1 hl2 hown h0 h59
              go_wp2_with fail
              go_region
              all_goals go_wp2
              all_goals exact bodyPost_ret (v := .tuple #[.agg #[.string ⟨#[]⟩, .string ⟨#[]⟩, .slice none 0 0, .string ⟨#[]⟩], .int .i64 (x : Int)]) (by simp [results, Tryd.results10, go_sem, l0, l1, l2, l3]) rfl ⟨hfin.out _, (set4 hB _ _ _ _).drew⟩
    · have cH : ∀ W, Calls Tryd.prog 26 #[.string s, .string ⟨#[13, 10]⟩] W fun e w' => e = .returned (.bool true) ∧ ∃ m, w' = W.drewN m := fun W => by
        have := refHas_any s ⟨#[13, 10]⟩ W (by omega) (by decide)
        rw [show (ByteArray.mk #[13, 10]).data.toList = [13, 10] from rfl, hhas.out, he] at this
        exact this
      have hf := Lib.hid (hbad10.out (by rw [he]; simp))
      clear hv he hbad10
      go_enter Tryd.func10, Tryd.ntmps10
      go_wp2_with (go_at_call 25; refine (cV _).mono ?_; rintro e w' ⟨rfl, rfl⟩)
      go_at_call 26
      refine (cH _).mono ?_
      rintro e w1 ⟨rfl, m, hw1⟩
      have hk1 : w1.heap[w.heap.size]? = some (.cells #[.string ⟨#[]⟩, .string ⟨#[]⟩, .slice none 0 0, .string ⟨#[]⟩] 25 (0, 0)) := by rw [hw1]; exact hk1
      have hb1 : Below w.heap.size w w1 := by rw [hw1]; exact below_drewN m hb1
      obtain ⟨c0, c1, c2, c3, f0, f1, f2, f3⟩ := res4 hk1
      clear hw1 cV cH hk1
      go_wp2
      exact bodyPost_ret (v := .tuple #[.agg #[.string ⟨#[]⟩, .string ⟨#[]⟩, .slice none 0 0, .string ⟨#[]⟩], .int .i64 10]) (by simp [results, Tryd.results10, go_sem, c0, c1, c2, c3]) rfl ⟨hf.out _, set4 hb1 _ _ _ _⟩
end Go.Proofs.YthkcjfoihieooaaDoor.Li
