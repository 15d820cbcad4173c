/-
  THE WALK OF THE REFERENCE's Print.
-/
import Derived.Test.YthkcjfoihieooaaDoorLinePrint
import Derived.Test.YthkcjfoihieooaaDoorLineSame
import Derived.Test.YthkcjfoihieooaaDoorLineScanMem
import Derived.Deep.LoopGhost
import Derived.Deep.CutRange
set_option linter.unusedVariables false
namespace Go.Proofs.YthkcjfoihieooaaDoor.Li
open Go.Lib Go.RowKit Bu

theorem wvs_end : ∀ (vs : List Row) (v : Row) (m : UInt8), wvs m (vs ++ [v]) = wvs m vs ++ (if vs = [] then m else 44) :: wval v
  | [], v, m => by simp [wvs]
  | u :: vs, v, m => by
    have := wvs_end vs v 44
    simp only [List.cons_append, wvs, this]
    cases vs <;> simp
/-- the values behind the sign = -/
def wj (vs : List Row) : Row := (wvs 61 vs).tail
theorem wj_take (vs : List Row) (i : Nat) (v : Row) (h : vs[i]? = some v) : wj (vs.take (i + 1)) = wj (vs.take i) ++ ((if i = 0 then [] else [44]) ++ wval v) := by
  obtain ⟨hl, hv⟩ := List.getElem?_eq_some_iff.1 h
  unfold wj
  rw [List.take_succ_eq_append_getElem hl, hv, wvs_end]
  by_cases hi : i = 0
  · subst hi; simp [wvs]
  · have hne : vs.take i ≠ [] := fun e => by
      have := congrArg List.length e
      rw [List.length_take, List.length_nil] at this
      omega
    rw [if_neg hne, if_neg hi, wvs_head _ hne 61]
    simp
theorem wvs_more : ∀ (a b : List Row) (m : UInt8), (wvs m a).length ≤ (wvs m (a ++ b)).length
  | [], b, m => by simp [wvs]
  | u :: a, b, m => by
    have := wvs_more a b 44
    simp only [List.cons_append, wvs, List.length_cons, List.length_append]
    omega
theorem wj_take_le (vs : List Row) (i : Nat) (h : vs ≠ []) : (wj (vs.take i)).length + 1 ≤ (wvs 61 vs).length := by
  have h1 := wvs_more (vs.take i) (vs.drop i) 61
  rw [List.take_append_drop] at h1
  unfold wj
  rw [List.length_tail]
  have h2 : 1 ≤ (wvs 61 vs).length := by rw [wvs_head vs h 61]; simp
  omega
theorem wval_le (vs : List Row) (i : Nat) (v : Row) (h : vs[i]? = some v) : (wval v).length ≤ (wvs 61 vs).length := by
  obtain ⟨hl, hv⟩ := List.getElem?_eq_some_iff.1 h
  have h1 := wvs_more (vs.take (i + 1)) (vs.drop (i + 1)) 61
  rw [List.take_append_drop, List.take_succ_eq_append_getElem hl, hv, wvs_end, List.length_append, List.length_cons] at h1
  omega
theorem wj_all (vs : List Row) (h : vs ≠ []) : wvs 61 vs = 61 :: wj vs := wvs_head vs h 61
theorem hasB_sgn (l : Row) : hasB l [44, 59, 58] = sgn l := by
  unfold hasB sgn
  congr 1
  funext c
  exact Ch.byte_all (P := fun c => ([44, 59, 58] : Row).contains c = sgB c) (by decide +kernel) c
theorem esc_wval (v : Row) : (esc v).length ≤ (wval v).length := by
  unfold wval
  split
  · simp; omega
  · omega
theorem esc_ge : ∀ v : Row, v.length ≤ (esc v).length
  | [] => Nat.le_refl _
  | c :: l => by
    have := esc_ge l
    have := (esc1_len c).1
    rw [esc_cons, List.length_append, List.length_cons]
    omega
theorem wprm_le (L : LD) (k : Nat) (p : PD) (h : L.params[k]? = some p) : (wprms (L.params.take k)).length + (wprm p).length ≤ (wprms L.params).length := by
  have h1 := wprms_take L.params k p h
  have h2 := wprms_take_le L.params (k + 1)
  rw [h1, List.length_append] at h2
  exact h2
theorem cat_data (a b c : ByteArray) (h : a ++ b = c) : c.data.toList = a.data.toList ++ b.data.toList := by rw [← h, ByteArray.data_append, Array.toList_append]
theorem cat_size (a b c : ByteArray) (h : a ++ b = c) : c.size = a.size + b.size := by rw [← h, ByteArray.size_append]

set_option maxHeartbeats 16000000 in
set_option maxRecDepth 100000 in
theorem refPrint_any (v : Value) (L : LD) (w : World) (hv : LineAt w v L) (hne : ∀ p ∈ L.params, p.vals ≠ []) (hlen : (pr L).length ≤ 140737488355328) :
    Calls Tryd.prog 15 #[v] w fun e w' => (∃ s : ByteArray, s.data.toList = pr L ∧ e = .returned (.string s)) ∧ Below w.heap.size w w' := by
  obtain ⟨pv, rfl, A, b, o, c, rfl, h1, h2, h3, h4⟩ := hv
  obtain ⟨n, hn⟩ : ∃ n, L.params.length = n := ⟨_, rfl⟩
  rw [hn] at h1 h3 ⊢
  obtain ⟨a1, ea1, ha1⟩ := sv_some L.group
  obtain ⟨a2, ea2, ha2⟩ := sv_some L.name
  obtain ⟨a4, ea4, ha4⟩ := sv_some L.value
  rw [ea1, ea2, ea4]
  have hbox : Below w.heap.size w (w.alloc (.cells #[.string a1, .string a2, .slice A n c, .string a4] 25)) := (Below.refl _ _).alloc (Nat.le_refl _) _
  have hkb : (w.alloc (.cells #[.string a1, .string a2, .slice A n c, .string a4] 25)).heap[w.heap.size]? = some (.cells #[.string a1, .string a2, .slice A n c, .string a4] 25 (0, 0)) := heap_alloc_new w _
  have hprl : pr L = (if L.group = [] then L.name else L.group ++ 46 :: L.name) ++ (wprms L.params ++ 58 :: L.value) := rfl
  -- the head of the line
  obtain ⟨H, hH⟩ : ∃ H, (if L.group = [] then L.name else L.group ++ 46 :: L.name) = H := ⟨_, rfl⟩
  rw [hH] at hprl
  have hTl := congrArg List.length hprl
  simp only [List.length_append, List.length_cons] at hTl
  have hsz4 : a4.size = L.value.length := by rw [Lib.size_eq, ha4]
  have hsz1 : a1.size = L.group.length := by rw [Lib.size_eq, ha1]
  have hsz2 : a2.size = L.name.length := by rw [Lib.size_eq, ha2]
  have hHl : a1.size ≤ H.length ∧ a2.size ≤ H.length := by
    rw [← hH]
    split
    · rename_i hg; rw [hg, List.length_nil] at hsz1; omega
    · simp only [List.length_append, List.length_cons]; omega
  obtain ⟨z0, hz0⟩ : ∃ z, a1 ++ (⟨#[46]⟩ : ByteArray) = z := ⟨_, rfl⟩
  obtain ⟨z1, hz1⟩ : ∃ z, z0 ++ a2 = z := ⟨_, rfl⟩
  have s0 := cat_size _ _ _ hz0
  have d0 := cat_data _ _ _ hz0
  have d1 := cat_data _ _ _ hz1
  rw [show (⟨#[46]⟩ : ByteArray).size = 1 from rfl] at s0
  have u0 : ¬ 9223372036854775807 < a1.size + 1 := by omega
  have u1 : ¬ 9223372036854775807 < z0.size + a2.size := by omega
  have hgr : (L.group = [] → a1.size = 0 ∧ a2.data.toList = H) ∧ (L.group ≠ [] → 0 < a1.size ∧ z1.data.toList = H) := by
    refine ⟨fun h => ⟨by rw [hsz1, h]; rfl, by rw [← hH, if_pos h, ha2]⟩, fun h => ⟨?_, ?_⟩⟩
    · rw [hsz1]; exact List.length_pos_iff.2 h
    · rw [← hH, if_neg h, d1, d0, ha1, ha2]; simp
  have hgr' := Lib.hid hgr
  have hprl' := Lib.hid hprl
  have hTl' := Lib.hid hTl
  have hn' := Lib.hid hn
  have h3' := Lib.hid h3
  have h4' := Lib.hid h4
  have hne' := Lib.hid hne
  have ha4' := Lib.hid ha4
  have hH0 : H.length ≤ 140737488355328 := by omega
  have hs4 : a4.size ≤ 140737488355328 := by omega
  unfold maxLen at h2
  clear ea1 ea2 ea4 hn h3 h4 hne hprl hTl hH hsz1 hsz2 hsz4 ha1 ha2 ha4 s0 d0 d1 hgr hHl
  obtain ⟨wb, hwb⟩ : ∃ wb, (w.alloc (.cells #[.string a1, .string a2, .slice A n c, .string a4] 25)) = wb := ⟨_, rfl⟩
  rw [hwb] at hbox hkb
  obtain ⟨l0, l1, l2, l3, m0, m1, m2, m3⟩ := res4 hkb
  have hkb' := Lib.hid hkb
  have hwb' := Lib.hid hwb
  clear hkb hwb
  go_enter Tryd.func15, Tryd.ntmps15
  go_upto_if 15 with fail
  rw [hwb'.out]
  go_cut [3] from 10 (fun s3 wx => ∃ h : ByteArray, s3 = .string h ∧ h.data.toList = H ∧ wb = wx)
  case first =>
    by_cases hg : L.group = []
    · obtain ⟨hg1, hg2⟩ := hgr'.out.1 hg
      clear hg
      go_wp2_with fail
      go_meet
      case rel => exact ⟨a2, rfl, hg2, rfl⟩
    · obtain ⟨hg1, hg2⟩ := hgr'.out.2 hg
      have hg2' := Lib.hid hg2
      clear hg hg2
      go_wp2_with fail
      go_meet
      case rel => exact ⟨z1, rfl, hg2'.out, rfl⟩
  case rest =>
    obtain ⟨h, rfl, hh, rfl⟩ := hcut
    clear hgr' hz0 hz1 u0 u1
    have hbot : Below wb.heap.size wb wb := Below.refl _ _
    have hh' := Lib.hid hh
    clear hh
    go_wp2_with fail
    go_loopg [3, 25] n (fun g s3 s25 wr => ∃ (k : Nat) (acc : ByteArray), s3 = .string acc ∧ s25 = .int .i64 (k : Int) ∧ g = n - k ∧ k ≤ n ∧ Below wb.heap.size wb wr ∧ Hid (acc.data.toList = H ++ wprms (L.params.take k)))
    case atStart => exact ⟨0, h, rfl, rfl, rfl, Nat.zero_le _, hbot, Lib.hid (by rw [hh'.out]; simp [wprms])⟩
    case round =>
      obtain ⟨k, acc, rfl, rfl, hgk, hk, hbr, hacc⟩ := hrel
      obtain ⟨G, hG⟩ : ∃ G, G = gk := ⟨_, rfl⟩
      subst hG
      have hzb : w.heap.size < wb.heap.size := (Array.getElem?_eq_some_iff.1 hkb'.out).1
      have hbw := below_then hbox hbr
      by_cases hlt : k < n
      · have hp : L.params[k]? = some (L.params[k]'(by have := hn'.out; omega)) := List.getElem?_eq_getElem _
        obtain ⟨P, hPe⟩ : ∃ P, L.params[k]'(by have := hn'.out; omega) = P := ⟨_, rfl⟩
        have hPm : P ∈ L.params := by rw [← hPe]; exact List.getElem_mem _
        rw [hPe] at hp
        clear hPe
        obtain ⟨rfl, hAb⟩ := h3'.out (by omega)
        obtain ⟨p1, u, p2, hu⟩ := h4'.out k P hp
        obtain ⟨x, ex, hx⟩ := sv_some P.name
        rw [ex] at p1
        rw [← hbw.cell (p := ⟨b, o + k * 2, none⟩) hAb] at p1
        rw [← hbw.cell (p := ⟨b, o + k * 2 + 1, none⟩) hAb] at p2
        have hvne := hne'.out P hPm
        obtain ⟨A2, b2, o2, c2, rfl, hs1, hs2, hs3, hs4⟩ := hu
        obtain ⟨l, hl⟩ : ∃ l, P.vals.length = l := ⟨_, rfl⟩
        have hl0 : 0 < l := by rw [← hl]; exact List.length_pos_iff.2 hvne
        rw [hl] at p2 hs1 hs3
        obtain ⟨rfl, hb2⟩ := hs3 hl0
        unfold maxLen at hs2
        -- lengths
        have hwl : (wprm P).length = 1 + x.size + (wvs 61 P.vals).length := by
          unfold wprm
          rw [List.length_cons, List.length_append, Lib.size_eq, hx]; omega
        have hpl := wprm_le L k P hp
        have hTl := hTl'.out
        have hasz : acc.size = H.length + (wprms (L.params.take k)).length := by rw [Lib.size_eq, hacc.out, List.length_append]
        have hx0 : x.size ≤ 140737488355328 := by omega
        have ha0 : acc.size ≤ 140737488355328 := by omega
        have hv0 : (wvs 61 P.vals).length ≤ 140737488355328 := by omega
        obtain ⟨y1, hy1⟩ : ∃ y, (⟨#[59]⟩ : ByteArray) ++ x = y := ⟨_, rfl⟩
        obtain ⟨y2, hy2⟩ : ∃ y, y1 ++ (⟨#[61]⟩ : ByteArray) = y := ⟨_, rfl⟩
        obtain ⟨y3, hy3⟩ : ∃ y, acc ++ y2 = y := ⟨_, rfl⟩
        have e1 := cat_size _ _ _ hy1
        have e2 := cat_size _ _ _ hy2
        have e3 := cat_size _ _ _ hy3
        rw [show (⟨#[59]⟩ : ByteArray).size = 1 from rfl] at e1
        rw [show (⟨#[61]⟩ : ByteArray).size = 1 from rfl] at e2
        have n1 : ¬ 9223372036854775807 < 1 + x.size := by omega
        have n2 : ¬ 9223372036854775807 < y1.size + 1 := by omega
        have n3 : ¬ 9223372036854775807 < acc.size + y2.size := by omega
        have hy3d : y3.data.toList = acc.data.toList ++ (59 :: (x.data.toList ++ [61])) := by
          rw [cat_data _ _ _ hy3, cat_data _ _ _ hy2, cat_data _ _ _ hy1]; simp
        have hy3s : y3.size ≤ 281474976710656 := by omega
        have hdone : ∀ r : ByteArray, r.data.toList = y3.data.toList ++ wj (P.vals.take l) → r.data.toList = H ++ wprms (L.params.take (k + 1)) := fun r hr => by
          rw [hr, hy3d, hacc.out, wprms_take L.params k P hp, ← hl, List.take_length]
          unfold wprm
          rw [wj_all _ hvne, hx]; simp
        have hlenj : ∀ i, (wj (P.vals.take i)).length ≤ 140737488355328 := fun i => by
          have := wj_take_le P.vals i hvne; omega
        have hlenv : ∀ (i : Nat) (v : Row), P.vals[i]? = some v → (wval v).length ≤ 140737488355328 := fun i v h => by
          have := wval_le P.vals i v h; omega
        have hdone' := Lib.hid hdone
        have hlenj' := Lib.hid hlenj
        have hlenv' := Lib.hid hlenv
        have hs4' := Lib.hid hs4
        have hl' := Lib.hid hl
        clear hp hPm ex hx hvne hs3 hl hwl hpl hTl hasz e1 e2 e3 hdone hlenj hlenv hs4 hacc hv0 hy3d hkb'
        go_wp2_with fail
        obtain ⟨W1, hW1⟩ : ∃ W1, wr.alloc (.cells #[.string x, .slice (some ⟨b2, o2, none⟩) l c2] 40) = W1 := ⟨_, rfl⟩
        have hb1 : Below wb.heap.size wb W1 := by rw [← hW1]; exact hbr.alloc hbr.size _
        rw [hW1]
        clear hW1 hbr hbw p1 p2
        go_loopg [3, 38] l (fun g s3 s38 wx => ∃ (i : Nat) (r : ByteArray), s3 = .string r ∧ s38 = .int .i64 (i : Int) ∧ g = l - i ∧ i ≤ l ∧ Below wb.heap.size wb wx ∧ Hid (r.data.toList = y3.data.toList ++ wj (P.vals.take i)))
        case atStart => exact ⟨0, y3, rfl, rfl, rfl, Nat.zero_le _, hb1, Lib.hid (by simp [wj, wvs])⟩
        case round =>
          clear hb1
          obtain ⟨i, r, rfl, rfl, hgi, hi, hbx, hr⟩ := hrel
          obtain ⟨G2, hG2⟩ : ∃ G2, G2 = gk := ⟨_, rfl⟩
          subst hG2
          obtain ⟨W2, hW2⟩ : ∃ W2, W2 = wr := ⟨_, rfl⟩
          subst hW2
          have hbxw := below_then hbox hbx
          have hrs : r.size ≤ 422212465065984 := by
            have h1 := hlenj'.out i
            rw [Lib.size_eq, hr.out, List.length_append, ← Lib.size_eq]; omega
          by_cases hil : i < l
          · have hp : P.vals[i]? = some (P.vals[i]'(by have := hl'.out; omega)) := List.getElem?_eq_getElem _
            obtain ⟨V, hVe⟩ : ∃ V, P.vals[i]'(by have := hl'.out; omega) = V := ⟨_, rfl⟩
            rw [hVe] at hp
            obtain ⟨v, ev, hv⟩ := sv_some V
            have hc := hs4'.out i V hp
            rw [ev, ← hbxw.cell (p := ⟨b2, o2 + i, none⟩) hb2] at hc
            have hvl := hlenv'.out i V hp
            have hel := esc_wval V
            have hvv : v.size ≤ (esc V).length := by rw [Lib.size_eq, hv]; exact esc_ge V
            have hwj := wj_take P.vals i V hp
            have hwj' := Lib.hid hwj
            have hv' := Lib.hid hv
            have hvs : v.size ≤ 140737488355328 := by omega
            have hes : (esc V).length ≤ 140737488355328 := by omega
            obtain ⟨y4, hy4⟩ : ∃ y, r ++ (⟨#[44]⟩ : ByteArray) = y := ⟨_, rfl⟩
            have hy4s : y4.size ≤ 422212465065985 := by
              rw [cat_size _ _ _ hy4, show (⟨#[44]⟩ : ByteArray).size = 1 from rfl]; omega
            have hy4d := Lib.hid (cat_data _ _ _ hy4)
            have n4 : ¬ 9223372036854775807 < r.size + 1 := by omega
            clear hVe ev hp hv hvl hel hvv hwj
            go_upto_if 44 with fail
            go_cut [3] from 44 to 83 (fun s3 wx => ∃ h : ByteArray, s3 = .string h ∧ h.size ≤ 422212465065985 ∧ Hid (h.data.toList = r.data.toList ++ (if i = 0 then [] else [44])) ∧ W2 = wx)
            case first =>
              by_cases hi0 : i = 0
              · subst hi0
                go_wp2_with fail
                go_meet
                case rel => exact ⟨r, rfl, by omega, Lib.hid (by simp), rfl⟩
              · have hi1 : 0 < i := by omega
                have hi0' := Lib.hid hi0
                clear hi0
                go_wp2_with fail
                go_meet
                case rel => exact ⟨y4, rfl, hy4s, Lib.hid (by rw [hy4d.out, if_neg hi0'.out]), rfl⟩
            case rest =>
              obtain ⟨h, rfl, hhs, hhd, rfl⟩ := hcut
              clear hy4 hy4s hy4d n4 hrs
              go_wp2_with fail
              go_loopg [8, 9] v.size (fun g s8 s9 wy => ∃ (j : Nat) (a : ByteArray), s8 = .string a ∧ s9 = .int .i64 (j : Int) ∧ g = v.size - j ∧ j ≤ v.size ∧ W2 = wy ∧ Hid (a.data.toList = esc (v.data.toList.take j)))
              case atStart => exact ⟨0, _, rfl, rfl, rfl, Nat.zero_le _, rfl, Lib.hid rfl⟩
              case round =>
                obtain ⟨j, a, rfl, rfl, hgj, hj, rfl, ha⟩ := hrel
                have has : a.size ≤ 140737488355328 := by
                  have h1 := esc_take_len v.data.toList j
                  rw [hv'.out] at h1
                  have h2 := congrArg List.length ha.out
                  rw [← Lib.size_eq, hv'.out] at h2
                  omega
                by_cases hjl : j < v.size
                · have hg := Lib.data_getElem? v j hjl
                  obtain ⟨J, hJ⟩ : ∃ J, j + 1 = J := ⟨_, rfl⟩
                  have hod := one_data v j hjl
                  rw [hJ] at hod
                  obtain ⟨b1, hb1⟩ : ∃ b1, v.extract j J = b1 := ⟨_, rfl⟩
                  rw [hb1] at hod
                  have hb1s : b1.size = 1 := by rw [Lib.size_eq, hod]; rfl
                  obtain ⟨q1, hq1⟩ : ∃ q, a ++ (⟨#[94, 110]⟩ : ByteArray) = q := ⟨_, rfl⟩
                  obtain ⟨q2, hq2⟩ : ∃ q, a ++ (⟨#[94, 94]⟩ : ByteArray) = q := ⟨_, rfl⟩
                  obtain ⟨q3, hq3⟩ : ∃ q, a ++ (⟨#[94, 39]⟩ : ByteArray) = q := ⟨_, rfl⟩
                  obtain ⟨q4, hq4⟩ : ∃ q, a ++ b1 = q := ⟨_, rfl⟩
                  have m1 : ¬ 9223372036854775807 < a.size + 2 := by omega
                  have m4 : ¬ 9223372036854775807 < a.size + b1.size := by omega
                  have hJI : (j : Int) + 1 = (J : Int) := by omega
                  have j1 : (j : Int) ≤ (J : Int) := by omega
                  have j2 : (J : Int) ≤ (v.size : Int) := by omega
                  have j3 : (0 : Int) ≤ (j : Int) := by omega
                  have j4 : ¬ (J : Int) < (j : Int) := by omega
                  have j5 : ¬ (v.size : Int) < (J : Int) := by omega
                  have j6 : J ≤ v.size := by omega
                  have j7 : j < J := by omega
                  have hnext : ∀ (x : Row) (q : ByteArray), esc1 (v[j]'hjl) = x → q.data.toList = a.data.toList ++ x → q.data.toList = esc (v.data.toList.take J) := fun x q h1 h2 => by
                    rw [← hJ, esc_take _ _ _ hg, h1, h2, ha.out]
                  have hnext' := Lib.hid hnext
                  have hod' := Lib.hid hod
                  have hmeas : v.size - J < v.size - j := by omega
                  have hmeas' := Lib.hid hmeas
                  clear hJ hod hg hnext hmeas ha hb1s
                  by_cases c1 : v[j]'hjl = 10
                  · have f1 := w10 _ c1
                    have hn := Lib.hid (hnext'.out [94, 110] q1 (by rw [c1]; rfl) (cat_data _ _ _ hq1))
                    clear c1
                    go_wp2_with fail
                    go_roundg (v.size - J)
                    case measure => exact hmeas'.out
                    case rel => exact ⟨J, q1, rfl, rfl, rfl, j6, rfl, hn⟩
                  · have f1 := v10 _ c1
                    by_cases c2 : v[j]'hjl = 94
                    · have f2 := w94 _ c2
                      have hn := Lib.hid (hnext'.out [94, 94] q2 (by rw [c2]; rfl) (cat_data _ _ _ hq2))
                      clear c1 c2
                      go_wp2_with fail
                      go_roundg (v.size - J)
                      case measure => exact hmeas'.out
                      case rel => exact ⟨J, q2, rfl, rfl, rfl, j6, rfl, hn⟩
                    · have f2 := v94 _ c2
                      by_cases c3 : v[j]'hjl = 34
                      · have f3 := w34 _ c3
                        have hn := Lib.hid (hnext'.out [94, 39] q3 (by rw [c3]; rfl) (cat_data _ _ _ hq3))
                        clear c1 c2 c3
                        go_wp2_with fail
                        go_roundg (v.size - J)
                        case measure => exact hmeas'.out
                        case rel => exact ⟨J, q3, rfl, rfl, rfl, j6, rfl, hn⟩
                      · have f3 := v34 _ c3
                        have hn := Lib.hid (hnext'.out [v[j]'hjl] q4 (by unfold esc1; rw [if_neg c1, if_neg c2, if_neg c3]) (by rw [cat_data _ _ _ hq4, hod'.out]))
                        clear c1 c2 c3
                        go_wp2_with fail
                        go_roundg (v.size - J)
                        case measure => exact hmeas'.out
                        case rel => exact ⟨J, q4, rfl, rfl, rfl, j6, rfl, hn⟩
                · have hjv : j = v.size := by omega
                  have haV : a.data.toList = esc V := by rw [ha.out, List.take_of_length_le (by rw [← Lib.size_eq]; omega), hv'.out]
                  have cH : ∀ W, Calls Tryd.prog 26 #[.string a, .string ⟨#[44, 59, 58]⟩] W fun e w' => e = .returned (.bool (sgn V)) ∧ ∃ m, w' = W.drewN m := fun W => by
                    have := refHas_any a ⟨#[44, 59, 58]⟩ W (by omega) (by decide)
                    rw [haV, show (ByteArray.mk #[44, 59, 58]).data.toList = [44, 59, 58] from rfl, hasB_sgn, sgn_esc] at this
                    exact this
                  obtain ⟨q1, hq1⟩ : ∃ q, (⟨#[34]⟩ : ByteArray) ++ a = q := ⟨_, rfl⟩
                  obtain ⟨q2, hq2⟩ : ∃ q, q1 ++ (⟨#[34]⟩ : ByteArray) = q := ⟨_, rfl⟩
                  obtain ⟨q3, hq3⟩ : ∃ q, h ++ q2 = q := ⟨_, rfl⟩
                  obtain ⟨q4, hq4⟩ : ∃ q, h ++ a = q := ⟨_, rfl⟩
                  have e1 := cat_size _ _ _ hq1
                  have e2 := cat_size _ _ _ hq2
                  rw [show (⟨#[34]⟩ : ByteArray).size = 1 from rfl] at e1 e2
                  have m1 : ¬ 9223372036854775807 < 1 + a.size := by omega
                  have m2 : ¬ 9223372036854775807 < q1.size + 1 := by omega
                  have m3 : ¬ 9223372036854775807 < h.size + q2.size := by omega
                  have m4 : ¬ 9223372036854775807 < h.size + a.size := by omega
                  have hfin : ∀ q : ByteArray, q.data.toList = h.data.toList ++ wval V → q.data.toList = y3.data.toList ++ wj (P.vals.take (i + 1)) := fun q hq => by
                    rw [hq, hhd.out, hr.out, hwj'.out]; simp
                  cases hs : sgn V
                  · rw [hs] at cH
                    have hq := Lib.hid (hfin q4 (by rw [cat_data _ _ _ hq4, haV]; unfold wval; rw [hs]; rfl))
                    clear hs hfin haV e1 e2 ha hhd hr hjv
                    go_wp2_with fail
                    go_at_call 26
                    refine (cH _).mono ?_
                    rintro e w5 ⟨rfl, m, rfl⟩
                    clear cH
                    go_wp2_with fail
                    go_roundg (G2 - 1)
                    case measure => omega
                    case rel => exact ⟨i + 1, q4, rfl, by go_num, by omega, by omega, below_drewN m hbx, hq⟩
                  · rw [hs] at cH
                    have hq := Lib.hid (hfin q3 (by rw [cat_data _ _ _ hq3, cat_data _ _ _ hq2, cat_data _ _ _ hq1, haV]; unfold wval; rw [hs]; simp))
                    clear hs hfin haV e1 e2 ha hhd hr hjv
                    go_wp2_with fail
                    go_at_call 26
                    refine (cH _).mono ?_
                    rintro e w5 ⟨rfl, m, rfl⟩
                    clear cH
                    go_wp2_with fail
                    go_roundg (G2 - 1)
                    case measure => omega
                    case rel => exact ⟨i + 1, q3, rfl, by go_num, by omega, by omega, below_drewN m hbx, hq⟩
          · have hil2 : i = l := by omega
            subst hil2
            have hd := Lib.hid (hdone'.out r hr.out)
            clear hr
            go_wp2_with fail
            go_roundg (G - 1)
            case measure => omega
            case rel => exact ⟨k + 1, r, rfl, by go_num, by omega, by omega, hbx, hd⟩
      · have hkn : k = n := by omega
        subst hkn
        have hk1 : wr.heap[w.heap.size]? = some (.cells #[.string a1, .string a2, .slice A k c, .string a4] 25 (0, 0)) := (hbr.block _ hzb).trans hkb'.out
        obtain ⟨l0, l1, l2, l3, m0, m1, m2, m3⟩ := res4 hk1
        have hTl := hTl'.out
        have hall : acc.data.toList = H ++ wprms L.params := by rw [hacc.out, List.take_of_length_le (by have := hn'.out; omega)]
        have hasz : acc.size = H.length + (wprms L.params).length := by rw [Lib.size_eq, hall, List.length_append]
        obtain ⟨y1, hy1⟩ : ∃ y, acc ++ (⟨#[58]⟩ : ByteArray) = y := ⟨_, rfl⟩
        obtain ⟨y2, hy2⟩ : ∃ y, y1 ++ a4 = y := ⟨_, rfl⟩
        have e1 := cat_size _ _ _ hy1
        rw [show (⟨#[58]⟩ : ByteArray).size = 1 from rfl] at e1
        have n1 : ¬ 9223372036854775807 < acc.size + 1 := by omega
        have n2 : ¬ 9223372036854775807 < y1.size + a4.size := by omega
        have hend : y2.data.toList = pr L := by
          rw [cat_data _ _ _ hy2, cat_data _ _ _ hy1, hall, hprl'.out, ha4'.out]; simp
        have hend' := Lib.hid hend
        clear hk1 hall hasz hTl e1 hend hacc hkb'
        go_wp2_with fail
        go_ret
        exact ⟨⟨_, hend'.out, rfl⟩, hbw⟩
end Go.Proofs.YthkcjfoihieooaaDoor.Li
