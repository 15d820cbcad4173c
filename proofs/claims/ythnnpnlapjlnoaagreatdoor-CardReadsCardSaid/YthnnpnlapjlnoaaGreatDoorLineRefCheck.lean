/-
  THE WALK OF THE REFERENCE's Check.
-/
import Derived.Test.YthnnpnlapjlnoaaGreatDoorMgC
set_option linter.unusedVariables false
namespace Go.Proofs.YthnnpnlapjlnoaaGreatDoor.Li
open Go.Lib Go.RowKit Bu

theorem any_take {α : Type} (p : α → Bool) (l : List α) (k : Nat) (x : α) (h : l[k]? = some x) : (l.take (k + 1)).any p = ((l.take k).any p || p x) := by
  obtain ⟨hl, hv⟩ := List.getElem?_eq_some_iff.1 h
  rw [List.take_succ_eq_append_getElem hl, hv, List.any_append]
  simp
theorem hasB_13 (l : Row) : hasB l [13] = l.contains 13 := by
  rw [Bool.eq_iff_iff]
  unfold hasB
  rw [List.any_eq_true]
  constructor
  · rintro ⟨x, hx, h⟩
    simp at h
    subst h
    simpa using hx
  · intro h
    exact ⟨13, by simpa using h, by decide⟩
def B0 (L : LD) : Bool := (!L.group.isEmpty && !nameB L.group) || !nameB L.name
def T0 (L : LD) : Bool := !okT L.value

set_option maxHeartbeats 16000000 in
set_option maxRecDepth 100000 in
theorem refCheck_any (v : Value) (L : LD) (w : World) (hv : LineAt w v L) (hS : SmallL L) :
    Calls Tryz.prog 33 #[v] w fun e w' => e = .returned (.int .i64 (chk L : Int)) ∧ Below w.heap.size w w' := by
  obtain ⟨pv, rfl, A, b, o, c, rfl, h1, h2, h3, h4⟩ := hv
  obtain ⟨n, hn⟩ : ∃ n, L.params.length = n := ⟨_, rfl⟩
  rw [hn] at h1 h3 ⊢
  obtain ⟨a1, ea1, ha1⟩ := sv_some L.group
  obtain ⟨a2, ea2, ha2⟩ := sv_some L.name
  obtain ⟨a4, ea4, ha4⟩ := sv_some L.value
  rw [ea1, ea2, ea4]
  have s1 : a1.size ≤ 9223372036854775807 := by rw [Lib.size_eq, ha1]; exact hS.group
  have s2 : a2.size ≤ 9223372036854775807 := by rw [Lib.size_eq, ha2]; exact hS.name
  have s4 : a4.size ≤ 9223372036854775807 := by rw [Lib.size_eq, ha4]; exact hS.value
  have cN1 := fun W => refName_any a1 W s1
  have cN2 := fun W => refName_any a2 W s2
  have cV := fun W => Ch.refValid_any a4 W s4
  have cH := fun W => refHas_any a4 ⟨#[13, 10]⟩ W s4 (by decide)
  simp only [ha1, ha2, ha4, hasB_ends] at cN1 cN2 cV cH
  have hz1 : (L.group = [] ∧ a1.size = 0) ∨ (L.group ≠ [] ∧ 0 < a1.size) := by
    have : a1.size = L.group.length := by rw [Lib.size_eq, ha1]
    by_cases h : L.group = []
    · exact .inl ⟨h, by rw [this, h]; rfl⟩
    · exact .inr ⟨h, by rw [this]; exact List.length_pos_iff.2 h⟩
  obtain ⟨wb, hwb⟩ : ∃ wb, (w.alloc (.cells #[.string a1, .string a2, .slice A n c, .string a4] 41)) = wb := ⟨_, rfl⟩
  have hbox : Below w.heap.size w wb := by rw [← hwb]; exact (Below.refl _ _).alloc (Nat.le_refl _) _
  have hkb : wb.heap[w.heap.size]? = some (.cells #[.string a1, .string a2, .slice A n c, .string a4] 41 (0, 0)) := by rw [← hwb]; exact heap_alloc_new w _
  obtain ⟨l0, l1, l2, l3, m0, m1, m2, m3⟩ := res4 hkb
  have hkb' := Lib.hid hkb
  have hwb' := Lib.hid hwb
  have hn' := Lib.hid hn
  have h3' := Lib.hid h3
  have h4' := Lib.hid h4
  have hSp := Lib.hid hS.params
  unfold maxLen at h2
  clear ea1 ea2 ea4 ha1 ha2 ha4 hn h3 h4 hS hkb hwb
  go_enter Tryz.func33, Tryz.ntmps33
  go_upto_region 1 with fail
  rw [hwb'.out]
  go_cut [3] from 10 to 25 (fun s3 wx => s3 = .bool (B0 L) ∧ wb = wx)
  case first =>
    have h2c : (nameB L.name = true) ∨ (nameB L.name = false) := by cases nameB L.name <;> simp
    rcases hz1 with ⟨hg, hz⟩ | ⟨hg, hz⟩
    · rcases h2c with h2c | h2c
      · have hB : B0 L = false := by unfold B0; rw [hg, h2c]; rfl
        rw [h2c] at cN2
        have hB' := Lib.hid hB
        clear hg h2c hB cN1 cV cH
        go_wp2_with (go_at_call 55; refine (cN2 _).mono ?_; rintro e w' ⟨rfl, rfl⟩)
        go_meet
        case rel => exact ⟨by rw [hB'.out], rfl⟩
      · have hB : B0 L = true := by unfold B0; rw [hg, h2c]; rfl
        rw [h2c] at cN2
        have hB' := Lib.hid hB
        clear hg h2c hB cN1 cV cH
        go_wp2_with (go_at_call 55; refine (cN2 _).mono ?_; rintro e w' ⟨rfl, rfl⟩)
        go_meet
        case rel => exact ⟨by rw [hB'.out], rfl⟩
    · have hne : L.group.isEmpty = false := by cases hgl : L.group with | nil => exact absurd hgl hg | cons _ _ => rfl
      have h1c : (nameB L.group = true) ∨ (nameB L.group = false) := by cases nameB L.group <;> simp
      rcases h1c with h1c | h1c
      · rcases h2c with h2c | h2c
        · have hB : B0 L = false := by unfold B0; rw [hne, h1c, h2c]; rfl
          rw [h1c] at cN1
          rw [h2c] at cN2
          have hB' := Lib.hid hB
          clear hg h1c h2c hB hne cV cH
          go_wp2_with (go_at_call 55; ((first | (with_reducible refine (cN1 _).mono ?_) | (with_reducible refine (cN2 _).mono ?_)); rintro e w' ⟨rfl, rfl⟩))
          go_meet
          case rel => exact ⟨by rw [hB'.out], rfl⟩
        · have hB : B0 L = true := by unfold B0; rw [hne, h1c, h2c]; rfl
          rw [h1c] at cN1
          rw [h2c] at cN2
          have hB' := Lib.hid hB
          clear hg h1c h2c hB hne cV cH
          go_wp2_with (go_at_call 55; ((first | (with_reducible refine (cN1 _).mono ?_) | (with_reducible refine (cN2 _).mono ?_)); rintro e w' ⟨rfl, rfl⟩))
          go_meet
          case rel => exact ⟨by rw [hB'.out], rfl⟩
      · have hB : B0 L = true := by unfold B0; rw [hne, h1c]; rfl
        rw [h1c] at cN1
        have hB' := Lib.hid hB
        clear hg h1c h2c hB hne cV cH cN2
        go_wp2_with (go_at_call 55; refine (cN1 _).mono ?_; rintro e w' ⟨rfl, rfl⟩)
        go_meet
        case rel => exact ⟨by rw [hB'.out], rfl⟩
  case rest =>
    obtain ⟨rfl, rfl⟩ := hcut
    clear cN1 cN2 hz1
    go_upto_region 3 with fail
    go_cut [5] from 26 to 34 (fun s5 wx => s5 = .bool (T0 L) ∧ ∃ m, wx = wb.drewN m)
    case first =>
      cases hv : Ch.valid L.value
      · have hT : T0 L = true := by unfold T0 okT; rw [hv]; rfl
        rw [hv] at cV
        have hT' := Lib.hid hT
        clear hv hT cH
        go_wp2_with (go_at_call 28; refine (cV _).mono ?_; rintro e w' ⟨rfl, rfl⟩)
        go_meet
        case rel => exact ⟨by rw [hT'.out], 0, rfl⟩
      · cases he : ends L.value
        · have hT : T0 L = false := by unfold T0 okT; rw [hv, he]; rfl
          rw [hv] at cV
          rw [he] at cH
          have hT' := Lib.hid hT
          clear hv hT he
          go_wp2_with (go_at_call 28; refine (cV _).mono ?_; rintro e w' ⟨rfl, rfl⟩)
          go_at_call 51
          refine (cH _).mono ?_
          rintro e w' ⟨rfl, m, rfl⟩
          go_wp2_with fail
          go_meet
          case rel => exact ⟨by rw [hT'.out], m, rfl⟩
        · have hT : T0 L = true := by unfold T0 okT; rw [hv, he]; rfl
          rw [hv] at cV
          rw [he] at cH
          have hT' := Lib.hid hT
          clear hv hT he
          go_wp2_with (go_at_call 28; refine (cV _).mono ?_; rintro e w' ⟨rfl, rfl⟩)
          go_at_call 51
          refine (cH _).mono ?_
          rintro e w' ⟨rfl, m, rfl⟩
          go_wp2_with fail
          go_meet
          case rel => exact ⟨by rw [hT'.out], m, rfl⟩
    case rest =>
      obtain ⟨rfl, m, rfl⟩ := hcut
      have hb0 : Below wb.heap.size wb (wb.drewN m) := below_drew wb m
      clear cV cH
      go_wp2_with fail
      go_loopg [3, 4, 5, 38] n (fun g s3 s4 s5 s38 wr => ∃ (k : Nat) (x y z : Bool), s3 = .bool x ∧ s4 = .bool y ∧ s5 = .bool z ∧ s38 = .int .i64 (k : Int) ∧ g = n - k ∧ k ≤ n ∧ Below wb.heap.size wb wr ∧
          Hid (x = (B0 L || (L.params.take k).any fun p => !nameB p.name)) ∧ Hid (y = (L.params.take k).any fun p => p.vals.isEmpty) ∧ Hid (z = (T0 L || (L.params.take k).any fun p => p.vals.any fun v => !okV v)))
      case atStart => exact ⟨0, _, _, _, rfl, rfl, rfl, rfl, rfl, Nat.zero_le _, hb0, Lib.hid (by simp), Lib.hid (by simp), Lib.hid (by simp)⟩
      case round =>
        clear hb0
        obtain ⟨k, x, y, z, rfl, rfl, rfl, rfl, hgk, hk, hbr, hX, hY, hZ⟩ := hrel
        obtain ⟨G, hG⟩ : ∃ G, G = gk := ⟨_, rfl⟩
        subst hG
        have hbw := below_then hbox hbr
        by_cases hlt : k < n
        · have hp : L.params[k]? = some (L.params[k]'(by have := hn'.out; omega)) := List.getElem?_eq_getElem _
          obtain ⟨P, hPe⟩ : ∃ P, L.params[k]'(by have := hn'.out; omega) = P := ⟨_, rfl⟩
          have hPm : P ∈ L.params := by rw [← hPe]; exact List.getElem_mem _
          rw [hPe] at hp
          clear hPe
          obtain ⟨rfl, hAb⟩ := h3'.out (by omega)
          obtain ⟨p1, u, p2, hu⟩ := h4'.out k P hp
          obtain ⟨xn, ex, hx⟩ := sv_some P.name
          rw [ex] at p1
          rw [← hbw.cell (p := ⟨b, o + k * 2, none⟩) hAb] at p1
          rw [← hbw.cell (p := ⟨b, o + k * 2 + 1, none⟩) hAb] at p2
          obtain ⟨hsn, hsv⟩ := hSp.out P hPm
          obtain ⟨A2, b2, o2, c2, rfl, hs1, hs2, hs3, hs4⟩ := hu
          obtain ⟨l, hl⟩ : ∃ l, P.vals.length = l := ⟨_, rfl⟩
          rw [hl] at p2 hs1 hs3
          unfold maxLen at hs2
          have cN := fun W => refName_any xn W (by rw [Lib.size_eq, hx]; exact hsn)
          simp only [hx] at cN
          have hXn : (B0 L || (L.params.take (k + 1)).any fun p => !nameB p.name) = (x || !nameB P.name) := by rw [any_take _ _ _ _ hp, hX.out, Bool.or_assoc]
          have hYn : ((L.params.take (k + 1)).any fun p => p.vals.isEmpty) = (y || P.vals.isEmpty) := by rw [any_take _ _ _ _ hp, hY.out]
          have hZn : ∀ z2, z2 = (z || (P.vals.take l).any fun v => !okV v) → z2 = (T0 L || (L.params.take (k + 1)).any fun p => p.vals.any fun v => !okV v) := fun z2 h => by
            rw [h, any_take _ _ _ _ hp, hZ.out, Bool.or_assoc, ← hl, List.take_length]
          have hXn' := Lib.hid hXn
          have hYn' := Lib.hid hYn
          have hZn' := Lib.hid hZn
          have hsv' := Lib.hid hsv
          have hs3' := Lib.hid hs3
          have hs4' := Lib.hid hs4
          have hl' := Lib.hid hl
          obtain ⟨W1, hW1⟩ : ∃ W1, wr.alloc (.cells #[.string xn, .slice A2 l c2] 47) = W1 := ⟨_, rfl⟩
          have hb1 : Below wb.heap.size wb W1 := by rw [← hW1]; exact hbr.alloc hbr.size _
          have hkp : W1.heap[wr.heap.size]? = some (.cells #[.string xn, .slice A2 l c2] 47 (0, 0)) := by rw [← hW1]; exact heap_alloc_new wr _
          obtain ⟨e0, e1, e2, e3⟩ := res2 hkp
          clear hp hPm ex hx hsn hsv hs3 hs4 hl hXn hYn hZn hX hY hZ hbr hbw hkp
          go_upto_region 7 with fail
          clear hW1
          go_cut [3] from 42 to 48 (fun s3 wx => s3 = .bool (x || !nameB P.name) ∧ W1 = wx)
          case first =>
            have hc : (x = true) ∨ (x = false ∧ nameB P.name = true) ∨ (x = false ∧ nameB P.name = false) := by cases x <;> cases nameB P.name <;> simp
            rcases hc with rfl | ⟨rfl, h⟩ | ⟨rfl, h⟩
            · go_wp2_with fail
              go_meet
              case rel => exact ⟨rfl, rfl⟩
            · rw [h] at cN
              have h' := Lib.hid h
              clear h
              go_wp2_with (go_at_call 55; refine (cN _).mono ?_; rintro e w' ⟨rfl, rfl⟩)
              go_meet
              case rel => exact ⟨by rw [h'.out]; rfl, rfl⟩
            · rw [h] at cN
              have h' := Lib.hid h
              clear h
              go_wp2_with (go_at_call 55; refine (cN _).mono ?_; rintro e w' ⟨rfl, rfl⟩)
              go_meet
              case rel => exact ⟨by rw [h'.out]; rfl, rfl⟩
          case rest =>
            obtain ⟨rfl, rfl⟩ := hcut
            clear cN
            obtain ⟨x2, hx2⟩ : ∃ x2, (x || !nameB P.name) = x2 := ⟨_, rfl⟩
            rw [hx2] at hXn' ⊢
            clear hx2
            go_upto_region 8 with fail
            go_cut [4] from 49 to 55 (fun s4 wx => s4 = .bool (y || P.vals.isEmpty) ∧ W1 = wx)
            case first =>
              have hc : (y = true) ∨ (y = false ∧ P.vals.isEmpty = true ∧ l = 0) ∨ (y = false ∧ P.vals.isEmpty = false ∧ 0 < l) := by
                have hh := hl'.out
                cases y
                · cases hv : P.vals with
                  | nil => rw [hv] at hh; exact .inr (.inl ⟨rfl, rfl, by simpa using hh.symm⟩)
                  | cons v vs => rw [hv] at hh; exact .inr (.inr ⟨rfl, rfl, by rw [← hh]; simp⟩)
                · exact .inl rfl
              rcases hc with rfl | ⟨rfl, h, h0⟩ | ⟨rfl, h, h0⟩
              · go_wp2_with fail
                go_meet
                case rel => exact ⟨rfl, rfl⟩
              · have h' := Lib.hid h
                have d0 : ((l : Int) == 0) = true := beq_iff_eq.2 (by omega)
                clear h h0
                go_wp2_with fail
                go_meet
                case rel => exact ⟨by rw [h'.out]; rfl, rfl⟩
              · have h' := Lib.hid h
                have d0 : ((l : Int) == 0) = false := beq_eq_false_iff_ne.2 (by omega)
                clear h h0
                go_wp2_with fail
                go_meet
                case rel => exact ⟨by rw [h'.out]; rfl, rfl⟩
            case rest =>
              obtain ⟨rfl, rfl⟩ := hcut
              obtain ⟨y2, hy2⟩ : ∃ y2, (y || P.vals.isEmpty) = y2 := ⟨_, rfl⟩
              rw [hy2] at hYn' ⊢
              clear hy2
              go_wp2_with fail
              go_loopg [5, 59] l (fun g s5 s59 wx => ∃ (i : Nat) (z2 : Bool), s5 = .bool z2 ∧ s59 = .int .i64 (i : Int) ∧ g = l - i ∧ i ≤ l ∧ Below wb.heap.size wb wx ∧ Hid (z2 = (z || (P.vals.take i).any fun v => !okV v)))
              case atStart => exact ⟨0, z, rfl, rfl, rfl, Nat.zero_le _, hb1, Lib.hid (by simp)⟩
              case round =>
                clear hb1 e0 e1 e2 e3
                obtain ⟨i, z2, rfl, rfl, hgi, hi, hbx, hZ2⟩ := hrel
                obtain ⟨W2, hW2⟩ : ∃ W2, W2 = wr := ⟨_, rfl⟩
                subst hW2
                have hbxw := below_then hbox hbx
                by_cases hil : i < l
                · have hp : P.vals[i]? = some (P.vals[i]'(by have := hl'.out; omega)) := List.getElem?_eq_getElem _
                  obtain ⟨V, hVe⟩ : ∃ V, P.vals[i]'(by have := hl'.out; omega) = V := ⟨_, rfl⟩
                  have hVm : V ∈ P.vals := by rw [← hVe]; exact List.getElem_mem _
                  rw [hVe] at hp
                  obtain ⟨v, ev, hv⟩ := sv_some V
                  obtain ⟨rfl, hb2⟩ := hs3'.out (by omega)
                  have hc := hs4'.out i V hp
                  rw [ev, ← hbxw.cell (p := ⟨b2, o2 + i, none⟩) hb2] at hc
                  have hvs : v.size ≤ 9223372036854775807 := by rw [Lib.size_eq, hv]; exact hsv'.out V hVm
                  have cV := fun W => Ch.refValid_any v W hvs
                  have cH := fun W => refHas_any v ⟨#[13]⟩ W hvs (by decide)
                  simp only [hv, hasB_13] at cV cH
                  have hnx : ∀ r, r = (z2 || !okV V) → Hid (r = (z || (P.vals.take (i + 1)).any fun v => !okV v)) := fun r h => Lib.hid (by rw [h, any_take _ _ _ _ hp, hZ2.out, Bool.or_assoc])
                  have hnx' := Lib.hid hnx
                  have hcase : (z2 = true) ∨ (z2 = false ∧ Ch.valid V = false) ∨ (z2 = false ∧ Ch.valid V = true ∧ V.contains 13 = true) ∨ (z2 = false ∧ Ch.valid V = true ∧ V.contains 13 = false) := by
                    cases z2 <;> cases Ch.valid V <;> cases V.contains 13 <;> simp
                  clear hVe hVm ev hv hvs hp hnx hZ2
                  rcases hcase with rfl | ⟨rfl, hv⟩ | ⟨rfl, hv, hh⟩ | ⟨rfl, hv, hh⟩
                  · go_wp2_with fail
                    go_roundg (gk - 1)
                    case measure => omega
                    case rel => exact ⟨i + 1, true, rfl, by go_num, by omega, by omega, hbx, hnx'.out _ rfl⟩
                  · have hf := hnx'.out true (by unfold okV; rw [hv]; rfl)
                    rw [hv] at cV
                    clear hv
                    go_wp2_with (go_at_call 28; refine (cV _).mono ?_; rintro e w' ⟨rfl, rfl⟩)
                    go_roundg (gk - 1)
                    case measure => omega
                    case rel => exact ⟨i + 1, true, rfl, by go_num, by omega, by omega, hbx, hf⟩
                  · have hf := hnx'.out true (by unfold okV; rw [hv, hh]; rfl)
                    rw [hv] at cV
                    rw [hh] at cH
                    clear hv hh
                    go_wp2_with (go_at_call 28; refine (cV _).mono ?_; rintro e w' ⟨rfl, rfl⟩)
                    go_at_call 51
                    refine (cH _).mono ?_
                    rintro e w' ⟨rfl, q, rfl⟩
                    go_wp2_with fail
                    go_roundg (gk - 1)
                    case measure => omega
                    case rel => exact ⟨i + 1, true, rfl, by go_num, by omega, by omega, below_drewN q hbx, hf⟩
                  · have hf := hnx'.out false (by unfold okV; rw [hv, hh]; rfl)
                    rw [hv] at cV
                    rw [hh] at cH
                    clear hv hh
                    go_wp2_with (go_at_call 28; refine (cV _).mono ?_; rintro e w' ⟨rfl, rfl⟩)
                    go_at_call 51
                    refine (cH _).mono ?_
                    rintro e w' ⟨rfl, q, rfl⟩
                    go_wp2_with fail
                    go_roundg (gk - 1)
                    case measure => omega
                    case rel => exact ⟨i + 1, false, rfl, by go_num, by omega, by omega, below_drewN q hbx, hf⟩
                · obtain rfl : i = l := by omega
                  have hf := Lib.hid (hZn'.out _ hZ2.out)
                  clear hZ2
                  go_wp2_with fail
                  go_roundg (G - 1)
                  case measure => omega
                  case rel => exact ⟨k + 1, x2, y2, z2, rfl, rfl, rfl, by go_num, by omega, by omega, hbx, Lib.hid hXn'.out.symm, Lib.hid hYn'.out.symm, hf⟩
        · have hall : k = n := by omega
          subst hall
          have hkk : L.params.take k = L.params := List.take_of_length_le (by have := hn'.out; omega)
          have hX2 : x = badN L := by rw [hX.out, hkk]; rfl
          have hY2 : y = badF L := by rw [hY.out, hkk]; rfl
          have hZ2 : z = badT L := by rw [hZ.out, hkk]; rfl
          have hc : (x = true ∧ chk L = 30) ∨ (x = false ∧ y = true ∧ chk L = 31) ∨ (x = false ∧ y = false ∧ z = true ∧ chk L = 10) ∨ (x = false ∧ y = false ∧ z = false ∧ chk L = 0) := by
            cases hx : x
            · cases hy : y
              · cases hz : z
                · exact .inr (.inr (.inr ⟨rfl, rfl, rfl, chk_0 (by rw [← hX2, hx]) (by rw [← hY2, hy]) (by rw [← hZ2, hz])⟩))
                · exact .inr (.inr (.inl ⟨rfl, rfl, rfl, chk_10 (by rw [← hX2, hx]) (by rw [← hY2, hy]) (by rw [← hZ2, hz])⟩))
              · exact .inr (.inl ⟨rfl, rfl, chk_31 (by rw [← hX2, hx]) (by rw [← hY2, hy])⟩)
            · exact .inl ⟨rfl, chk_30 (by rw [← hX2, hx])⟩
          clear hX2 hY2 hZ2 hX hY hZ hkk
          rcases hc with ⟨rfl, hc⟩ | ⟨rfl, rfl, hc⟩ | ⟨rfl, rfl, rfl, hc⟩ | ⟨rfl, rfl, rfl, hc⟩
          all_goals
            have hc' := Lib.hid hc
            clear hc
            go_wp2_with fail
            go_ret
            exact ⟨by rw [hc'.out]; rfl, hbw⟩
end Go.Proofs.YthnnpnlapjlnoaaGreatDoor.Li
