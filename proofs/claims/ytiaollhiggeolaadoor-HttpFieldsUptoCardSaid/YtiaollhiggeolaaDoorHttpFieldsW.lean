/-
  THE WALK OF THE LAW HttpFields.
-/
import Derived.Test.YtiaollhiggeolaaDoorHttpFieldsP
import Derived.Test.YtiaollhiggeolaaDoorHttpGetsW
import Derived.Deep.LoopGhost
import Derived.Deep.CutRange
set_option linter.unusedVariables false
namespace Go.Proofs.YtiaollhiggeolaaDoor.Ht
open Go.Lib Go.RowKit Go.Shelf

def flatF : ((Row × Row) × List Fd × Row × Nat) ⊕ Int → Row × Row × Row × List Fd × Int × Int
  | .inl (x, fs, body, n) => (x.1, x.2, body, fs, (n : Int), 0)
  | .inr c => ([], [], [], [], 0, c)
/-- a request's answer, whichever it is -/
theorem ansF_form {r : ((Row × Row) × List Fd × Row × Nat) ⊕ Int} {e : Ending} {w : World} (h : AnsQ r e w) : ∃ (m t b : ByteArray) (fv : Value) (fs : List Fd) (n c : Int), e = .returned (.tuple #[.agg #[.string m, .string t, fv, .string b], .int .i64 n, .int .i64 c]) ∧ FsAt w fv fs ∧
    (m.data.toList, t.data.toList, b.data.toList, fs, n, c) = flatF r := by
  unfold AnsQ at h
  split at h
  · rename_i x fs body n
    obtain ⟨fv, rfl, hfs⟩ := h
    obtain ⟨m, hm, dm⟩ := sv_some x.1
    obtain ⟨t, ht, dt⟩ := sv_some x.2
    obtain ⟨b, hb, db⟩ := sv_some body
    exact ⟨m, t, b, fv, fs, n, 0, by rw [hm, ht, hb], hfs, by rw [dm, dt, db]; rfl⟩
  · rename_i c
    obtain ⟨fv, rfl, hfs⟩ := h
    exact ⟨⟨#[]⟩, ⟨#[]⟩, ⟨#[]⟩, fv, [], 0, c, rfl, hfs, rfl⟩
theorem decF_len (n : Nat) (h : n ≤ 5000) : (decDigits n).length ≤ 20 := by
  rw [decDigits_length]
  rcases Nat.eq_zero_or_pos n with h0 | h0
  · rw [nDigits_small (by omega)]; omega
  · have := Lib.numDigits_eq n h0 (by omega); split at this <;> omega
theorem clX_len (n : Nat) (h : n ≤ 5000) : (clX n).length ≤ 35 := by
  have := decF_len n h
  have e : (clX n).length = 14 + ((decDigits n).length + 1) := by
    unfold clX
    rw [List.length_append, List.length_cons]; rfl
  omega
theorem upTo_most {m t b : ByteArray} {F : List Fd} {zs : List Int} {k : Nat} (s1 : m.size + t.size + b.size + szF F ≤ mostF) (h31 : F.length ≤ 31) (hl : zs.length ≤ 50) (hb : b.size ≤ 5000) (i : Nat) (hi : i ≤ F.length) :
    (upTo (rowQ m.data.toList t.data.toList) (padR zs) F k b.size i).length ≤ 274877906944 := by
  have h := upTo_len (row := rowQ m.data.toList t.data.toList) (p := padR zs) (fs := F) (k := k) (n := b.size) i
  have h2 := clX_len b.size hb
  have h3 : (rowQ m.data.toList t.data.toList).length = m.size + (t.size + 10) := by
    unfold rowQ
    rw [Lib.size_eq, Lib.size_eq]
    simp [verS]
  unfold mostF at s1
  have h4 : i * ((padR zs).length + 8) ≤ 31 * 58 := Nat.mul_le_mul (by omega) (by rw [padR_len]; omega)
  omega
theorem padR_take {zs : List Int} {j : Nat} {x : Int} (h : zs[j]? = some x) : padR (zs.take (j + 1)) = padR (zs.take j) ++ [if x % 2 = 0 then 32 else 9] := by
  unfold padR
  rw [take_nx h, List.map_append]; rfl

set_option maxHeartbeats 16000000 in
set_option maxRecDepth 100000 in
theorem fields_walk (m t b : ByteArray) (fv : Value) (F : List Fd) (z : Int) (pv : Value) (zs : List Int) (w : World) (hF : FsAt w fv F) (s1 : m.size + t.size + b.size + szF F ≤ mostF) (hZ : BsAt w pv zs) (hG : Gw w) :
    Calls Tryd.prog 6 #[.agg #[.string m, .string t, fv, .string b], .int .i64 z, pv] w fun e w' => e = .returned (.bool true) ∧ Below w.heap.size w w' := by
  unfold mostF at s1
  have hF' := Lib.hid hF
  obtain ⟨A, bf, off, cA, rfl, hc1, hc2, hA, hP⟩ := hF
  obtain ⟨n, hn⟩ : ∃ n, F.length = n := ⟨_, rfl⟩
  rw [hn] at hc1 hA hF' ⊢
  unfold maxLen at hc2
  obtain ⟨q0, bz, oz, cz, rfl, hz1, hz2, hz3, hz4⟩ := hZ
  obtain ⟨l, hl⟩ : ∃ l, zs.length = l := ⟨_, rfl⟩
  rw [hl] at hz1 hz3 ⊢
  have ob : One w (reqO (.string m) (.string t) (.slice A n cA) (.string b)) (w.alloc (.cells #[.string m, .string t, .slice A n cA, .string b] 24)) := One.new
  have c0 := first_any gw_keeps parseQ_any printA_any _ (gw_keeps w _ hG ob.bel)
  have hG' := Lib.hid hG
  have cr := Lib.hid (fun (W : World) (hW : Below w.heap.size w W) => printQ_any (.string m) (.string t) (.slice A n cA) (.string b) _ _ _ F W (sv_data m).symm (sv_data t).symm (sv_data b).symm (hF'.out.kept hW) (by simp only [Lib.size_eq] at s1; omega) (gw_keeps w W hG hW))
  have hA' := Lib.hid hA
  have hP' := Lib.hid hP
  have hz2' := Lib.hid hz2
  have hz3' := Lib.hid hz3
  have hz4' := Lib.hid hz4
  have hn' := Lib.hid hn
  have hl' := Lib.hid hl
  have s1' := Lib.hid s1
  have q1 : m.size ≤ 68719476736 := by omega
  have q2 : t.size ≤ 68719476736 := by omega
  have q3 : b.size ≤ 68719476736 := by omega
  clear hG hA hP hz2 hz3 hz4 hn hl s1
  go_enter Tryd.func6, Tryd.ntmps6
  go_wp2_with fail
  go_at_call 8
  with_reducible refine c0.mono ?_
  rintro e w1 ⟨rfl, hb1⟩
  have o1 := ob.next hb1
  have o1' := Lib.hid o1
  obtain ⟨x0, x1, x2, x3, _, _, _, _⟩ := res4 o1.at0
  clear c0 hb1 ob o1
  go_wp2_with fail
  go_at_call 9
  with_reducible refine (cr.out w1 o1'.out.bel).mono ?_
  rintro e w2 ⟨rfl, hb2⟩
  have o2 := o1'.out.next hb2
  have o2' := Lib.hid o2
  obtain ⟨⟨R, C⟩, eR⟩ : ∃ r, printQ m.data.toList t.data.toList F b.data.toList = r := ⟨_, rfl⟩
  simp only [eR]
  obtain ⟨S, vS, nS⟩ := sv_some R
  rw [vS]
  clear x0 x1 x2 x3 hb2 cr o1' vS nS
  obtain ⟨x0, x1, x2, x3, _, _, _, _⟩ := res4 o2.at0
  clear o2
  by_cases hC : C = 0
  rotate_left
  · go_wp2
    go_ret
    exact ⟨rfl, o2'.out.bel⟩
  subst hC
  by_cases hl50 : 50 < l
  · go_wp2
    go_ret
    exact ⟨rfl, o2'.out.bel⟩
  by_cases hb5 : 5000 < b.size
  · go_wp2
    go_ret
    exact ⟨rfl, o2'.out.bel⟩
  obtain ⟨hasked, hwr⟩ := printQ_ok eR
  obtain ⟨hall, h31, _, h8192⟩ := write_parts hwr
  rw [hn'.out] at h31
  obtain ⟨k, hk, hkl⟩ := at_k z (n + 1) (by omega) (by omega)
  have hmost := Lib.hid (fun (i : Nat) (hi : i ≤ n) => upTo_most (k := k) s1'.out (by rw [hn'.out]; exact h31) (by rw [hl'.out]; omega) (Nat.le_of_not_lt hb5) i (by rw [hn'.out]; exact hi))
  obtain ⟨y1, hy1⟩ : ∃ y, m ++ (⟨#[32]⟩ : ByteArray) = y := ⟨_, rfl⟩
  obtain ⟨y2, hy2⟩ : ∃ y, y1 ++ t = y := ⟨_, rfl⟩
  obtain ⟨y3, hy3⟩ : ∃ y, y2 ++ (⟨#[32, 72, 84, 84, 80, 47, 49, 46, 49, 13, 10]⟩ : ByteArray) = y := ⟨_, rfl⟩
  have e1 := cat_size hy1
  have e2 := cat_size hy2
  rw [show (⟨#[32]⟩ : ByteArray).size = 1 from rfl] at e1
  have n1 : ¬ 9223372036854775807 < m.size + 1 := by omega
  have n2 : ¬ 9223372036854775807 < y1.size + t.size := by omega
  have n3 : ¬ 9223372036854775807 < y2.size + 11 := by omega
  obtain ⟨row, hrow⟩ : ∃ row, rowQ m.data.toList t.data.toList = row := ⟨_, rfl⟩
  obtain ⟨p, hp⟩ : ∃ p, padR zs = p := ⟨_, rfl⟩
  have hpb : Hid (∀ c ∈ p, bl c = true) := Lib.hid (by rw [← hp]; exact padR_bl zs)
  have h3d : Hid (y3.data.toList = upTo row p F k b.size 0) := Lib.hid (by
    rw [upTo_zero, cat_data hy3, cat_data hy2, cat_data hy1, ← hrow]
    unfold rowQ
    simp [verS])
  rw [hrow, hp] at hmost
  have hrow' := Lib.hid hrow
  have hp' := Lib.hid hp
  have hwr' := Lib.hid hwr
  have hasked' := Lib.hid hasked
  have hall' := Lib.hid hall
  rw [show ((n + 1 : Nat) : Int) = (n : Int) + 1 from by omega] at hk
  clear eR hwr hasked hall h8192 hrow hp
  go_wp2_with fail
  simp only [hk]
  clear hk
  go_loopg [9, 11] (n + 1) (fun g s9 s11 wr => ∃ (i : Nat) (r : ByteArray), s9 = .string r ∧ s11 = .int .i64 (i : Int) ∧ g = n + 1 - i ∧ i ≤ n ∧ Hid (One w (reqO (.string m) (.string t) (.slice A n cA) (.string b)) wr) ∧ Hid (r.data.toList = upTo row p F k b.size i))
  case atStart => exact ⟨0, y3, rfl, rfl, rfl, Nat.zero_le _, o2', h3d⟩
  case round =>
    clear x0 x1 x2 x3 h3d
    obtain ⟨i, r, rfl, rfl, hgi, hi, ho, hr⟩ := hrel
    obtain ⟨G, hG⟩ : ∃ G, G = gk := ⟨_, rfl⟩
    subst hG
    obtain ⟨W1, hW1⟩ : ∃ W1, W1 = wr := ⟨_, rfl⟩
    subst hW1
    obtain ⟨x0, x1, x2, x3, _, _, _, _⟩ := res4 ho.out.at0
    have hrz : r.size ≤ 274877906944 := by
      rw [Lib.size_eq, hr.out]; exact hmost.out i hi
    go_upto_if 62 with fail
    have hm31 : Hid (n ≤ 31) := Lib.hid h31
    go_cut [9] from 53 to 108 (fun s9 wx => ∃ h : ByteArray, s9 = .string h ∧ Hid (h.data.toList = r.data.toList ++ (if i = k then clX b.size ++ [13, 10] else [])) ∧ Hid (One w (reqO (.string m) (.string t) (.slice A n cA) (.string b)) wx))
    case first =>
      by_cases hik : i = k
      · have hw : IntKind.u64.wrap (b.size : Int) = (b.size : Int) := by
          unfold IntKind.wrap
          simp only [IntKind.bits, IntKind.signed]
          simp
          omega
        have cD := Ch.refDecimal_any b.size (by omega) W1
        obtain ⟨D, hD⟩ : ∃ D : ByteArray, (⟨(decDigits b.size).toArray⟩ : ByteArray) = D := ⟨_, rfl⟩
        rw [hD] at cD
        have hDd : D.data.toList = decDigits b.size := by rw [← hD]
        have hDz : D.size ≤ 20 := by rw [Lib.size_eq, hDd]; exact decF_len _ (by omega)
        obtain ⟨c1, hc1⟩ : ∃ y, (⟨#[99, 111, 110, 116, 101, 110, 116, 45, 76, 69, 78, 71, 84, 72, 58]⟩ : ByteArray) ++ D = y := ⟨_, rfl⟩
        obtain ⟨c2, hc2⟩ : ∃ y, c1 ++ (⟨#[13, 10]⟩ : ByteArray) = y := ⟨_, rfl⟩
        obtain ⟨c3, hc3⟩ : ∃ y, r ++ c2 = y := ⟨_, rfl⟩
        have f1 := cat_size hc1
        have f2 := cat_size hc2
        rw [show (⟨#[99, 111, 110, 116, 101, 110, 116, 45, 76, 69, 78, 71, 84, 72, 58]⟩ : ByteArray).size = 15 from rfl] at f1
        rw [show (⟨#[13, 10]⟩ : ByteArray).size = 2 from rfl] at f2
        have m1 : ¬ 9223372036854775807 < 15 + D.size := by omega
        have m2 : ¬ 9223372036854775807 < c1.size + 2 := by omega
        have m3 : ¬ 9223372036854775807 < r.size + c2.size := by omega
        have hd3 : Hid (c3.data.toList = r.data.toList ++ (if i = k then clX b.size ++ [13, 10] else [])) := Lib.hid (by
          rw [if_pos hik, cat_data hc3, cat_data hc2, cat_data hc1, hDd]
          unfold clX clL
          simp)
        have hikI : ((i : Int) == (k : Int)) = true := by rw [hik]; exact beq_self_eq_true _
        clear hD hDd hik
        go_wp2_with fail
        go_at_call 15
        with_reducible refine cD.mono ?_
        rintro e w3 ⟨rfl, hb3⟩
        have o3 := Lib.hid (ho.out.next hb3)
        clear cD hb3 x0 x1 x2 x3
        go_wp2_with fail
        go_meet
        case rel => exact ⟨c3, rfl, hd3, o3⟩
      · have hikI : ((i : Int) == (k : Int)) = false := by rw [beq_eq_false_iff_ne]; omega
        have hd3 : Hid (r.data.toList = r.data.toList ++ (if i = k then clX b.size ++ [13, 10] else [])) := Lib.hid (by rw [if_neg hik, List.append_nil])
        clear hik
        go_wp2_with fail
        go_meet
        case rel => exact ⟨r, rfl, hd3, ho⟩
    case rest =>
      clear x0 x1 x2 x3 ho
      obtain ⟨h, rfl, hhd, ho⟩ := hcut
      obtain ⟨W2, hW2⟩ : ∃ W2, W2 = wc := ⟨_, rfl⟩
      subst hW2
      obtain ⟨x0, x1, x2, x3, _, _, _, _⟩ := res4 ho.out.at0
      have hhz : h.size ≤ 274877906984 := by
        have hcl := clX_len b.size (by omega)
        rw [Lib.size_eq, hhd.out, List.length_append, ← Lib.size_eq]
        split
        · rw [List.length_append]; simp only [List.length_cons, List.length_nil]; omega
        · simp only [List.length_nil]; omega
      by_cases hin : i < n
      · have hfi : F[i]? = some (F[i]'(by have := hn'.out; omega)) := List.getElem?_eq_getElem _
        obtain ⟨f, hfe⟩ : ∃ f, F[i]'(by have := hn'.out; omega) = f := ⟨_, rfl⟩
        rw [hfe] at hfi
        obtain ⟨rfl, hAb⟩ := hA'.out (by omega)
        obtain ⟨a1, a2, d1, d2, p0, p1⟩ := FsAt.field hP'.out hAb ho.out.bel hfi
        have hsz := szF_mem (List.mem_of_getElem? hfi)
        have hs1 := s1'.out
        have ha1 : a1.size ≤ 68719476736 := by rw [Lib.size_eq, d1]; omega
        obtain ⟨y4, hy4⟩ : ∃ y, a1 ++ (⟨#[58]⟩ : ByteArray) = y := ⟨_, rfl⟩
        obtain ⟨y5, hy5⟩ : ∃ y, h ++ y4 = y := ⟨_, rfl⟩
        have g4 := cat_size hy4
        have g5 := cat_size hy5
        rw [show (⟨#[58]⟩ : ByteArray).size = 1 from rfl] at g4
        have m1 : ¬ 9223372036854775807 < a1.size + 1 := by omega
        have m2 : ¬ 9223372036854775807 < h.size + y4.size := by omega
        have hy5z : y5.size ≤ 343597383721 := by omega
        have hy5d : Hid (y5.data.toList = h.data.toList ++ (f.1 ++ [58])) := Lib.hid (by rw [cat_data hy5, cat_data hy4, d1])
        have hfi' := Lib.hid hfi
        have hsz' : Hid (f.1.length + f.2.length + 1 ≤ 68719476736) := Lib.hid (by omega)
        clear hfe hfi d1 d2 hsz hs1 g4 g5 p1
        go_wp2_with fail
        go_loopg [9, 88] l (fun g s9 s88 wy => ∃ (j : Nat) (a : ByteArray), s9 = .string a ∧ s88 = .int .i64 (j : Int) ∧ g = l - j ∧ j ≤ l ∧ Hid (One w (reqO (.string m) (.string t) (.slice (some ⟨bf, off, none⟩) n cA) (.string b)) wy) ∧ Hid (a.data.toList = y5.data.toList ++ padR (zs.take j)))
        case atStart => exact ⟨0, y5, rfl, rfl, rfl, Nat.zero_le _, ho, Lib.hid (by simp [padR])⟩
        case round =>
          clear x0 x1 x2 x3 p0 ho
          obtain ⟨j, a, rfl, rfl, hgj, hj, ho, ha⟩ := hrel
          obtain ⟨G2, hG2⟩ : ∃ G2, G2 = gk := ⟨_, rfl⟩
          subst hG2
          obtain ⟨W3, hW3⟩ : ∃ W3, W3 = wr := ⟨_, rfl⟩
          subst hW3
          have haz : a.size ≤ 343597383821 := by
            rw [Lib.size_eq, ha.out, List.length_append, ← Lib.size_eq, padR_len, List.length_take]; omega
          by_cases hjl : j < l
          · obtain ⟨rfl, hbz⟩ := hz2'.out (fun e => by have := hl'.out; rw [e] at this; simp at this; omega)
            have hcell := hz3'.out j hjl
            rw [← ho.out.bel.cell (p := ⟨bz, oz + j, none⟩) hbz] at hcell
            have hxj : zs[j]? = some (zs.getD j 0) := by
              rw [List.getD_eq_getElem?_getD, List.getElem?_eq_getElem (by have := hl'.out; omega)]; rfl
            obtain ⟨X, hX⟩ : ∃ X, zs.getD j 0 = X := ⟨_, rfl⟩
            rw [hX] at hcell hxj
            have hXb := hz4'.out X (List.mem_of_getElem? hxj)
            have hnx := padR_take hxj
            have hb3 : ∀ o, Below W3.heap.size W3 (W3.alloc o) := fun o => (Below.refl _ _).alloc (Nat.le_refl _) o
            by_cases hX2 : X % 2 = 0
            · have hXm : X.tmod 2 = 0 := by rw [Int.tmod_eq_emod_of_nonneg hXb.1]; exact hX2
              rw [if_pos hX2] at hnx
              obtain ⟨a5, ha5⟩ : ∃ y, a ++ (⟨#[32]⟩ : ByteArray) = y := ⟨_, rfl⟩
              have hd5 : Hid (a5.data.toList = y5.data.toList ++ padR (zs.take (j + 1))) := Lib.hid (by rw [hnx, cat_data ha5, ha.out, List.append_assoc])
              have m3 : ¬ 9223372036854775807 < a.size + 1 := by omega
              clear hxj hnx ha hX
              go_wp2_with fail
              go_roundg (G2 - 1)
              case measure => omega
              case rel => exact ⟨j + 1, a5, rfl, by go_num, by omega, by omega, Lib.hid (ho.out.next (hb3 _)), hd5⟩
            · have hXm : X.tmod 2 = 1 := by rw [Int.tmod_eq_emod_of_nonneg hXb.1]; omega
              rw [if_neg hX2] at hnx
              obtain ⟨a5, ha5⟩ : ∃ y, a ++ (⟨#[9]⟩ : ByteArray) = y := ⟨_, rfl⟩
              have hd5 : Hid (a5.data.toList = y5.data.toList ++ padR (zs.take (j + 1))) := Lib.hid (by rw [hnx, cat_data ha5, ha.out, List.append_assoc])
              have m3 : ¬ 9223372036854775807 < a.size + 1 := by omega
              clear hxj hnx ha hX hX2
              go_wp2_with fail
              go_roundg (G2 - 1)
              case measure => omega
              case rel => exact ⟨j + 1, a5, rfl, by go_num, by omega, by omega, Lib.hid (ho.out.next (hb3 _)), hd5⟩
          · have hjl2 : j = l := by omega
            have hjI : ¬ (j : Int) < (l : Int) := by omega
            obtain ⟨x0, x1, x2, x3, _, _, _, _⟩ := res4 ho.out.at0
            obtain ⟨b1, b2, d1, d2, p0, p1⟩ := FsAt.field hP'.out hAb ho.out.bel hfi'.out
            have hb2 : b2.size ≤ 68719476736 := by have := hsz'.out; rw [Lib.size_eq, d2]; omega
            obtain ⟨z4, hz4⟩ : ∃ y, b2 ++ (⟨#[32, 13, 10]⟩ : ByteArray) = y := ⟨_, rfl⟩
            obtain ⟨z5, hz5⟩ : ∃ y, a ++ z4 = y := ⟨_, rfl⟩
            have g4 := cat_size hz4
            rw [show (⟨#[32, 13, 10]⟩ : ByteArray).size = 3 from rfl] at g4
            have m3 : ¬ 9223372036854775807 < b2.size + 3 := by omega
            have m4 : ¬ 9223372036854775807 < a.size + z4.size := by omega
            have hd5 : Hid (z5.data.toList = upTo row p F k b.size (i + 1)) := Lib.hid (by
              rw [cat_data hz5, cat_data hz4, ha.out, hy5d.out, hhd.out, hr.out, List.take_of_length_le (by have := hl'.out; omega), hp'.out, d2, upTo_succ hfi'.out]
              unfold rwF
              simp)
            clear d1 d2 g4 p0 ha
            go_wp2_with fail
            go_roundg (G - 1)
            case measure => omega
            case rel => exact ⟨i + 1, z5, rfl, by go_num, by omega, by omega, ho, hd5⟩
      · have hin2 : i = n := by omega
        have hinB : ((i : Int) == (n : Int)) = true := by rw [hin2]; exact beq_self_eq_true _
        obtain ⟨z4, hz4⟩ : ∃ y, (⟨#[13, 10]⟩ : ByteArray) ++ b = y := ⟨_, rfl⟩
        obtain ⟨z5, hz5⟩ : ∃ y, h ++ z4 = y := ⟨_, rfl⟩
        have g4 := cat_size hz4
        have g5 := cat_size hz5
        rw [show (⟨#[13, 10]⟩ : ByteArray).size = 2 from rfl] at g4
        have m3 : ¬ 9223372036854775807 < 2 + b.size := by omega
        have m4 : ¬ 9223372036854775807 < h.size + z4.size := by omega
        have hd5 : z5.data.toList = textF row p F k b.data.toList := by
          have e := upTo_end (row := row) (p := p) (fs := F) (k := k) (body := b.data.toList) (by have := hn'.out; omega)
          rw [hn'.out, ← Lib.size_eq] at e
          rw [cat_data hz5, cat_data hz4, hhd.out, hr.out, hin2, ← e]
        have cQ := parseQ_any z5 W2 (by unfold mostS; omega) (gw_keeps w W2 hG'.out ho.out.bel)
        have hzI : z5.size = h.size + (2 + b.size) := by omega
        have hd5' := Lib.hid hd5
        clear hin hin2 hd5 g4 g5 hhd hr
        go_wp2_with fail
        go_at_call 12
        with_reducible refine cQ.mono ?_
        rintro e w5 ⟨ha, hb5'⟩
        obtain ⟨m', t', b', fv', fs', n', c', rfl, hfs, hv⟩ := ansF_form ha
        obtain ⟨A5, c5, rfl⟩ := hfs.form
        obtain ⟨N, hN⟩ : ∃ N, fs'.length = N := ⟨_, rfl⟩
        rw [hN] at hfs ⊢
        have hN' := Lib.hid hN
        have oO := (heap_alloc_new w5 (.cells #[.string m', .string t', .slice A5 N c5, .string b'] 24))
        have hb6 : Below w5.heap.size w5 (w5.alloc (.cells #[.string m', .string t', .slice A5 N c5, .string b'] 24)) := (Below.refl _ _).alloc (Nat.le_refl _) _
        have o5 := (ho.out.next hb5').next hb6
        have hfs' := hfs.kept hb6
        have o5' := Lib.hid o5
        clear x0 x1 x2 x3 cQ ha hb5' hb6 hfs hN
        obtain ⟨x0, x1, x2, x3, _, _, _, _⟩ := res4 o5.at0
        obtain ⟨y0, y1', y2', y3', _, _, _, _⟩ := res4 oO
        clear o5 oO
        by_cases hbig : 8192 < h.size + 2
        · have hbI : (8192 : Int) < (z5.size : Int) - (b.size : Int) := by omega
          go_wp2
          go_ret
          exact ⟨rfl, o5'.out.bel⟩
        have hbI : ¬ (8192 : Int) < (z5.size : Int) - (b.size : Int) := by omega
        have hread := read_textF (m := m.data.toList) (t := t.data.toList) (k := k) (body := b.data.toList) hpb.out hasked'.out hall'.out (by rw [hn'.out]; exact h31) (by rw [← Lib.size_eq]; omega) (by rw [hrow'.out, ← hd5'.out, ← Lib.size_eq, ← Lib.size_eq]; omega)
        rw [hrow'.out, ← hd5'.out, ← Lib.size_eq] at hread
        rw [hread] at hv
        simp only [flatF, Prod.mk.injEq] at hv
        obtain ⟨_, _, v3, v4, v5, v6⟩ := hv
        obtain rfl := data_is v3
        subst v4 v5 v6
        have cS := fun W (hW : Below w.heap.size w W) (h5 : FsAt W (.slice A5 N c5) fs') => refSame_any _ _ fs' fs' W h5 (hF'.out.kept hW)
        rw [decide_eq_true (rfl : fs' = fs')] at cS
        have cS2 := cS _ o5'.out.bel hfs'
        clear cS hread v3
        go_wp2_with fail
        go_at_call 13
        with_reducible refine cS2.mono ?_
        rintro e w6 ⟨rfl, hb6⟩
        have o6 := Lib.hid (o5'.out.next hb6)
        clear cS2 hb6 x0 x1 x2 x3 y0 y1' y2' y3'
        go_wp2
        go_ret
        exact ⟨rfl, o6.out.bel⟩
end Go.Proofs.YtiaollhiggeolaaDoor.Ht
