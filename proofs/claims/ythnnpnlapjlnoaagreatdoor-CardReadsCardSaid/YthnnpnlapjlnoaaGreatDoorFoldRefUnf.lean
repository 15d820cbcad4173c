/-
  THE WALK OF THE REFERENCE's Unfold.
-/
import Derived.Test.YthnnpnlapjlnoaaGreatDoorMgC
import Derived.Laws.OwnMore
import Derived.RegionTactic
import Derived.ChangeAlike
set_option linter.unusedVariables false
namespace Go.Proofs.YthnnpnlapjlnoaaGreatDoor.Fo
open Go.Lib Go.RowKit Bu

theorem strip_short (x : ByteArray) (h : x.size = 0) : stripR x.data.toList = x.data.toList := by
  have : x.data.toList = [] := List.eq_nil_of_length_eq_zero (by rw [← Lib.size_eq]; exact h)
  rw [this]; rfl
theorem last_eq (x : ByteArray) (h : x.size - 1 < x.size) : x.data.toList = x.data.toList.take (x.size - 1) ++ [x[x.size - 1]'h] := by
  have hl : x.size - 1 < x.data.toList.length := by rw [← Lib.size_eq]; exact h
  have e : x[x.size - 1]'h = x.data.toList[x.size - 1]'hl := rfl
  rw [e, ← List.take_succ_eq_append_getElem hl, List.take_of_length_le (by rw [← Lib.size_eq]; omega)]
theorem strip_last (x : ByteArray) (h : x.size - 1 < x.size) (h13 : x[x.size - 1]'h = 13) : stripR x.data.toList = x.data.toList.take (x.size - 1) := by
  have e := last_eq x h
  rw [h13] at e
  generalize x.data.toList.take (x.size - 1) = a at e ⊢
  rw [e, strip_snoc]
theorem strip_other (x : ByteArray) (h : x.size - 1 < x.size) (h13 : x[x.size - 1]'h ≠ 13) : stripR x.data.toList = x.data.toList := by
  rcases strip_cases x.data.toList with h1 | h1
  · exact h1
  · exfalso
    have e := last_eq x h
    rw [e] at h1
    have := congrArg List.getLast? h1
    rw [List.getLast?_concat, List.getLast?_concat] at this
    exact h13 (Option.some.inj this)

/-- the rows as they are gathered -/
def RowRel (T : ByteArray) (w : World) (s4 s5 s6 : Value) (wr : World) : Prop :=
  ∃ (i a : Nat) (rs : List Row) (v : Value), s6 = .int .i64 (i : Int) ∧ s5 = .int .i64 (a : Int) ∧ v = s4 ∧ a ≤ i ∧ i ≤ T.size ∧ Own w.heap.size s4 rs wr ∧ Below w.heap.size w wr ∧ rs.length ≤ i ∧
    (T.data.toList.take i).foldl rowsStep ([], []) = (rs, (T.data.toList.take i).drop a)

/-- what the reference's Unfold answers -/
def RefUnfP (B : Nat) (T : ByteArray) (e : Ending) (w' : World) : Prop :=
  (∃ v out, e = .returned (.tuple #[v, .bool true]) ∧ R [] T.data.toList = some out ∧ Own B v out w') ∨
  (e = .returned (.tuple #[.slice none 0 0, .bool false]) ∧ R [] T.data.toList = none)

theorem take_step (l : Row) (i : Nat) (x : UInt8) (rs : List Row) (c : Row) (h : l[i]? = some x) (hf : (l.take i).foldl rowsStep ([], []) = (rs, c)) : (l.take (i + 1)).foldl rowsStep ([], []) = rowsStep (rs, c) x := by
  obtain ⟨hlt, hx⟩ := List.getElem?_eq_some_iff.1 h
  rw [List.take_succ_eq_append_getElem hlt, List.foldl_append, hf, hx]
  rfl
theorem take_drop_snoc (l : Row) (i a : Nat) (x : UInt8) (h : l[i]? = some x) (ha : a ≤ i) : (l.take (i + 1)).drop a = (l.take i).drop a ++ [x] := by
  obtain ⟨hlt, hx⟩ := List.getElem?_eq_some_iff.1 h
  rw [List.take_succ_eq_append_getElem hlt, List.drop_append_of_le_length (by rw [List.length_take]; omega), hx]

theorem Own.mono {B B' : Nat} {v : Value} {ls : List Row} {w : World} (h : Own B v ls w) (hB : B' ≤ B) : Own B' v ls w := by
  obtain ⟨h1, h2 | ⟨g, cap, cur, e1, e2, e3⟩⟩ := h
  · exact ⟨h1, .inl h2⟩
  · exact ⟨h1, .inr ⟨g, cap, cur, e1, Nat.le_trans hB e2, e3⟩⟩
theorem run_take (rs out : List Row) (k : Nat) (h : k < rs.length) (hr : run [] (rs.take k) = some out) : run [] (rs.take (k + 1)) = gstep out (rs.getD k []) := by
  rw [List.take_succ_eq_append_getElem h, run_append, hr, List.getD_eq_getElem?_getD, List.getElem?_eq_getElem h]
  show run out [rs[k]] = gstep out rs[k]
  unfold run
  cases gstep out rs[k] <;> rfl
theorem run_none (rs out : List Row) (k : Nat) (h : k < rs.length) (hr : run [] (rs.take k) = some out) (hg : gstep out (rs.getD k []) = none) : run [] rs = none := by
  conv => lhs; rw [← List.take_append_drop (k + 1) rs]
  rw [run_append, run_take rs out k h hr, hg]
  rfl
theorem R_rows (T : Row) (rs : List Row) (h : T.foldl rowsStep ([], []) = (rs, [])) : R [] T = run [] rs := by
  unfold R rows
  rw [h]
  rfl
theorem R_left (T : Row) (rs : List Row) (c : Row) (h : T.foldl rowsStep ([], []) = (rs, c)) (hc : c ≠ []) : R [] T = none := by
  unfold R rows
  rw [h]
  exact if_neg hc
theorem set_last (out : List Row) (h : out ≠ []) (u : Row) : (out.map sv).set (out.length - 1) (sv u) = (out.dropLast ++ [u]).map sv := by
  conv => lhs; rw [← List.dropLast_concat_getLast h]
  have e : (out.dropLast ++ [out.getLast h]).length - 1 = (out.dropLast.map sv).length := by simp
  rw [e, List.map_append, List.set_append_right _ _ (Nat.le_refl _), List.map_append]
  simp
theorem last_get (out : List Row) (h : out ≠ []) : (out.map sv)[out.length - 1]? = some (sv (out.getLast?.getD [])) := by
  rw [List.getElem?_map, List.getLast?_eq_some_getLast h, ← List.getLast?_eq_getElem?, List.getLast?_eq_some_getLast h]
  rfl
theorem gstep_at (out : List Row) (r : Row) (hne : out ≠ []) (h : okRow r = true) (hb : headBl r = true) : gstep out r = some (out.dropLast ++ [out.getLast?.getD [] ++ r.tail]) := by
  unfold gstep
  rw [h, hb, if_pos rfl, if_pos rfl, if_neg hne]
/-- the lines as they are gathered -/
def RunRel (rs : List Row) (wM : World) (s8 s54 : Value) (wr : World) : Prop :=
  ∃ (k : Nat) (out : List Row) (v : Value), s54 = .int .i64 (k : Int) ∧ v = s8 ∧ k ≤ rs.length ∧ run [] (rs.take k) = some out ∧ (out = [] → k = 0) ∧ out.length ≤ k ∧ Own wM.heap.size s8 out wr ∧ Below wM.heap.size wM wr

set_option maxHeartbeats 8000000 in
set_option maxRecDepth 100000 in
theorem refUnfold_any (T : ByteArray) (w : World) (hs : T.size ≤ 1099511627776) :
    Calls Tryz.prog 29 #[.string T] w fun e w' => RefUnfP w.heap.size T e w' ∧ Below w.heap.size w w' := by
  obtain ⟨i0, hi0, hz0, hz1, hz2⟩ := info_parts infoStr
  go_enter Tryz.func29, Tryz.ntmps29
  go_wp2
  go_loopw [4, 5, 6] (fun s4 s5 s6 wr => RowRel T w s4 s5 s6 wr) (fun _ _ s6 wr => T.size - (RowKit.intOf s6).toNat)
  case atStart => exact ⟨0, 0, [], _, rfl, rfl, rfl, Nat.le_refl _, Nat.zero_le _, Own.nil _ _, Below.refl _ _, Nat.zero_le _, rfl⟩
  case round =>
    obtain ⟨i, a, rs, v, rfl, rfl, rfl, hai, hiT, hown, hbw, hrl, hf⟩ := hrel
    have hf' := Lib.hid hf
    clear hf
    by_cases hlt : i < T.size
    · have hxl : T.data.toList[i]? = some (T[i]'hlt) := Lib.data_getElem? T i hlt
      have hst := take_step _ i _ rs _ hxl hf'.out
      have hsn := take_drop_snoc T.data.toList i a _ hxl hai
      by_cases hx : T[i]'hlt = 10
      · obtain ⟨x, hxx⟩ : ∃ x, T.extract a i = x := ⟨_, rfl⟩
        have hxd : x.data.toList = (T.data.toList.take i).drop a := by rw [← hxx, Lib.extract_data, List.drop_take]
        have hxz : x.size = i - a := by rw [Lib.size_eq, hxd, List.length_drop, List.length_take, ← Lib.size_eq]; omega
        have d10 : (((T[i]'hlt).toNat : Int) == 10) = true := by rw [hx]; rfl
        have d10' : (((T[i]'hlt).toNat : Int) != 10) = false := by rw [hx]; rfl
        have hnext : ∀ y : ByteArray, y.data.toList = stripR x.data.toList → (T.data.toList.take (i + 1)).foldl rowsStep ([], []) = (rs ++ [y.data.toList], (T.data.toList.take (i + 1)).drop (i + 1)) := fun y hy => by
          rw [hst, hx, hy, hxd, show (T.data.toList.take (i + 1)).drop (i + 1) = [] from List.drop_eq_nil_of_le (by rw [List.length_take]; omega)]
          rfl
        have hnext' := Lib.hid hnext
        have hown1 := hown
        unfold Own at hown1
        have hxd' := Lib.hid hxd
        have hcase : ∃ y : ByteArray, y.data.toList = stripR x.data.toList ∧ ((x.size = 0 ∧ y = x) ∨ ∃ h : x.size - 1 < x.size, 0 < x.size ∧ (((((x[x.size - 1]'h).toNat : Int) == 13) = false ∧ y = x) ∨ ((((x[x.size - 1]'h).toNat : Int) == 13) = true ∧ x.extract 0 (x.size - 1) = y))) := by
          by_cases h0 : x.size = 0
          · exact ⟨x, (strip_short x h0).symm, .inl ⟨h0, rfl⟩⟩
          · have h : x.size - 1 < x.size := by omega
            by_cases h13 : x[x.size - 1]'h = 13
            · exact ⟨x.extract 0 (x.size - 1), by rw [strip_last x h h13, Lib.extract_data]; rfl, .inr ⟨h, by omega, .inr ⟨by rw [h13]; rfl, rfl⟩⟩⟩
            · exact ⟨x, (strip_other x h h13).symm, .inr ⟨h, by omega, .inl ⟨by
                rw [beq_eq_false_iff_ne]
                intro he
                exact h13 (UInt8.toNat_inj.1 (by show _ = 13; omega)), rfl⟩⟩⟩
        obtain ⟨y, hy, hyc⟩ := hcase
        have hn := Lib.hid (hnext'.out y hy)
        clear hst hsn hxl hnext hx hnext' hy hown
        have hxs : x.size ≤ 1099511627776 := by omega
        clear hxz
        rcases hyc with ⟨h0, rfl⟩ | ⟨h, h0, ⟨h13, rfl⟩ | ⟨h13, hyx⟩⟩
        all_goals
          go_wp2_with (at_builtin; refine wpList_append_own _ rfl _ _ 45 rfl w.heap.size 9 i0 (.string ⟨#[]⟩) 1 16 Tryz.underlying45 hi0 hz0 hz1 hz2 rfl (by decide) _ _ _ rfl (hown1.alloc _) ⟨wr.heap.size, 0, none⟩ 1 1 [.string y] rfl rfl ?c1 ?c2 ?c3 ?c4 ?c5 ?_)
          case c1 =>
            intro j u hj
            match j, hj with
            | 0, hj => simp at hj; subst hj; simp [Addr.add]
          case c2 => intro u hu; simp at hu; subst hu; rfl
          case c3 => unfold maxLen; omega
          case c4 => omega
          case c5 => have := hbw.size; simp; omega
          intro v' w2 hown' hgrow _
          have hown2 : Own w.heap.size v' (rs ++ [y.data.toList]) w2 := by
            unfold Own
            rw [List.map_append, List.length_append]
            simpa [sv_data] using hown'
          have hbw2 : Below w.heap.size w w2 := (hbw.alloc hbw.size _).grown hgrow (by have := hbw.size; simp; omega) (fun k hk => (hown1.lt k hk).1)
          clear hown' hgrow hown1
          go_wp2
          go_roundw
          case rel => exact ⟨i + 1, i + 1, _, _, by go_num, by go_num, rfl, Nat.le_refl _, by omega, hown2, hbw2, by rw [List.length_append, List.length_singleton]; omega, hn.out⟩
          case measure => simp [RowKit.intOf]; omega
      · have hn : (T.data.toList.take (i + 1)).foldl rowsStep ([], []) = (rs, (T.data.toList.take (i + 1)).drop a) := by
          rw [hst, hsn]
          exact if_neg hx
        have d10 : (((T[i]'hlt).toNat : Int) != 10) = true := by
          rw [bne_iff_ne]
          intro h
          exact hx (UInt8.toNat_inj.1 (by show _ = 10; omega))
        have hn' := Lib.hid hn
        clear hst hsn hxl hx hn
        go_wp2
        go_roundw
        case rel => exact ⟨i + 1, a, _, _, by go_num, rfl, rfl, by omega, by omega, hown, hbw, by omega, hn'.out⟩
        case measure => simp [RowKit.intOf]; omega
    · have hiz : i = T.size := by omega
      have hall : T.data.toList.take i = T.data.toList := List.take_of_length_le (by rw [← Lib.size_eq]; omega)
      have hff := hf'.out
      rw [hall] at hff
      by_cases haT : a < T.size
      · have hfin : RefUnfP w.heap.size T (.returned (.tuple #[.slice none 0 0, .bool false])) wr := .inr ⟨rfl, R_left _ _ _ hff (fun h => by
          have := List.drop_eq_nil_iff.1 h
          rw [← Lib.size_eq] at this
          omega)⟩
        have hfin' := Lib.hid hfin
        clear hfin hff hall hiz
        go_wp2
        go_ret2
        exact ⟨hfin'.out, hbw⟩
      · have hR : R [] T.data.toList = run [] rs := R_rows _ _ (by rw [hff, List.drop_eq_nil_of_le (by rw [← Lib.size_eq]; omega)])
        have hR' := Lib.hid hR
        have htot : tot rs ≤ T.size := by
          have h1 := fold_tot T.data.toList [] []
          rw [hff] at h1
          have h2 : tot ([] : List Row) = 0 := rfl
          have h3 : ([] : Row).length = 0 := rfl
          have h4 := Lib.size_eq T
          have h5 : tot (rs, T.data.toList.drop a).1 = tot rs := rfl
          omega
        have htot' := Lib.hid htot
        clear hR hff hall hiz htot
        obtain ⟨wM, rfl⟩ : ∃ wM : World, wM = wr := ⟨_, rfl⟩
        rcases hown.reads with ⟨rfl, rfl⟩ | ⟨g, cap, rfl, hBg, hgM, hrd⟩
        · have hfin : RefUnfP w.heap.size T (.returned (.tuple #[.slice none 0 0, .bool true])) wM := .inl ⟨_, [], rfl, hR'.out, Own.nil _ _⟩
          have hfin' := Lib.hid hfin
          clear hfin hown
          go_wp2
          refine wp_loop_rounds 1 ?_
          rw [rounds_succ]
          go_wp2
          go_ret2
          exact ⟨hfin'.out, hbw⟩
        · obtain ⟨n, hn⟩ : ∃ n, rs.length = n := ⟨_, rfl⟩
          have hrd' := Lib.hid hrd
          have hrl2 : n ≤ 1099511627776 := by omega
          rw [hn]
          have hn' := Lib.hid hn
          clear hown hrd hn hrl
          go_wp2
          go_loopw [8, 54] (fun s8 s54 wr => RunRel rs wM s8 s54 wr) (fun _ s54 wr => n - (RowKit.intOf s54).toNat)
          case atStart => exact ⟨0, [], _, rfl, rfl, Nat.zero_le _, rfl, fun _ => rfl, Nat.le_refl _, Own.nil _ _, Below.refl _ _⟩
          case round =>
            obtain ⟨k, out, s8, rfl, rfl, hk, hrun, ho0, hol, hown, hbM⟩ := hrel
            have hrun' := Lib.hid hrun
            have hbw2 : Below w.heap.size w wr := hbw.trans (hbM.mono hbw.size)
            have hBz := hbw.size
            clear hrun
            rw [hn'.out] at hk
            by_cases hkn : k < n
            · have hkl : k < rs.length := by rw [hn'.out]; exact hkn
              have hcell : wr.cell? ⟨g, k, none⟩ = some (sv (rs.getD k [])) := by
                rw [hbM.cell (p := ⟨g, k, none⟩) hgM]
                have := hrd'.out k hkl
                rwa [Nat.zero_add] at this
              obtain ⟨x, hx⟩ : ∃ x : ByteArray, (⟨(rs.getD k []).toArray⟩ : ByteArray) = x := ⟨_, rfl⟩
              have hxd : rs.getD k [] = x.data.toList := by rw [← hx]
              unfold sv at hcell
              rw [hx] at hcell
              have hnx := run_take rs out k hkl hrun'.out
              have hno := run_none rs out k hkl hrun'.out
              rw [hxd] at hnx hno
              have hbad : gstep out x.data.toList = none → RefUnfP w.heap.size T (.returned (.tuple #[.slice none 0 0, .bool false])) wr := fun h => .inr ⟨rfl, by rw [hR'.out]; exact hno h⟩
              have hxb : x.size ≤ 1099511627776 := by
                have h1 := tot_take rs k hkl
                have h2 := htot'.out
                rw [hxd, ← Lib.size_eq] at h1
                omega
              have hxb' := Lib.hid hxb
              have hbad' := Lib.hid hbad
              have hnx' := Lib.hid hnx
              clear hx hxd hnx hno hbad hkl hxb
              by_cases h0 : x.size = 0
              · have hfin' := Lib.hid (hbad'.out (gstep_bad _ _ (by
                  have : x.data.toList = [] := List.eq_nil_of_length_eq_zero (by rw [← Lib.size_eq]; exact h0)
                  rw [this]; rfl)))
                have d0 : ((x.size : Int) == 0) = true := by rw [h0]; rfl
                clear h0
                go_wp2
                go_ret2
                exact ⟨hfin'.out, hbw2⟩
              · have d0 : ((x.size : Int) == 0) = false := beq_eq_false_iff_ne.2 (by omega)
                have hxp : 0 < x.size := by omega
                clear h0
                have hxs : x.size ≤ 1099511627776 := hxb'.out
                go_wp2
                go_loop [11] (fun s11 => ∃ j : Nat, s11 = .int .i64 (j : Int) ∧ j ≤ x.size ∧ 13 ∉ x.data.toList.take j) (fun s11 => x.size - (RowKit.intOf s11).toNat)
                case atStart => exact ⟨0, rfl, Nat.zero_le _, by simp⟩
                case round =>
                  obtain ⟨j, rfl, hj, h13⟩ := hrel
                  have h13' := Lib.hid h13
                  clear h13
                  by_cases hjl : j < x.size
                  · have hxj : x.data.toList[j]? = some (x[j]'hjl) := Lib.data_getElem? x j hjl
                    obtain ⟨hjl2, hxj2⟩ := List.getElem?_eq_some_iff.1 hxj
                    by_cases hx13 : x[j]'hjl = 13
                    · have hm : x.data.toList.contains 13 = true := by
                        have : (13 : UInt8) ∈ x.data.toList := by rw [← hx13, ← hxj2]; exact List.getElem_mem hjl2
                        simpa using this
                      have hfin' := Lib.hid (hbad'.out (gstep_bad _ _ (by unfold okRow; rw [hm]; simp)))
                      have d13 : (((x[j]'hjl).toNat : Int) == 13) = true := by rw [hx13]; rfl
                      clear hxj hxj2 hx13 hm
                      go_wp2
                      go_ret2
                      exact ⟨hfin'.out, hbw2⟩
                    · have hn13 : 13 ∉ x.data.toList.take (j + 1) := by
                        rw [List.take_succ_eq_append_getElem hjl2, hxj2]
                        intro hm
                        rcases List.mem_append.1 hm with hm | hm
                        · exact h13'.out hm
                        · exact hx13 (List.mem_singleton.1 hm).symm
                      have hn13' := Lib.hid hn13
                      have d13 : (((x[j]'hjl).toNat : Int) == 13) = false := by
                        rw [beq_eq_false_iff_ne]
                        intro he
                        exact hx13 (UInt8.toNat_inj.1 (by show _ = 13; omega))
                      clear hxj hxj2 hx13 hn13
                      go_wp2
                      go_round
                      case rel => exact ⟨j + 1, by go_num, by omega, hn13'.out⟩
                      case measure => simp [RowKit.intOf]; omega
                  · have hok : okRow x.data.toList = true := by
                      have h := h13'.out
                      rw [List.take_of_length_le (by rw [← Lib.size_eq]; omega)] at h
                      exact ok_of _ (fun e => by rw [Lib.size_eq, e] at hxp; exact absurd hxp (by decide)) h
                    have hhd := headBl_get x hxp
                    have hok' := Lib.hid hok
                    clear hok h13'
                    cases hv : bl (x[0]'hxp)
                    · have hstep : run [] (rs.take (k + 1)) = some (out ++ [x.data.toList]) := by rw [hnx'.out, gstep_new _ _ hok'.out (by rw [hhd]; exact hv)]
                      have hstep' := Lib.hid hstep
                      have hv2 : ¬ ((x[0]'hxp).toNat = 32 ∨ (x[0]'hxp).toNat = 9) := of_decide_eq_false hv
                      have d32 : (((x[0]'hxp).toNat : Int) == 32) = false := beq_eq_false_iff_ne.2 (by omega)
                      have d9 : (((x[0]'hxp).toNat : Int) == 9) = false := beq_eq_false_iff_ne.2 (by omega)
                      clear hv hv2 hstep hhd
                      unfold Own at hown
                      go_wp2_with (at_builtin; refine wpList_append_own _ rfl _ _ 45 rfl wM.heap.size 9 i0 (.string ⟨#[]⟩) 1 16 Tryz.underlying45 hi0 hz0 hz1 hz2 rfl (by decide) _ _ _ rfl (hown.alloc _) ⟨wr.heap.size, 0, none⟩ 1 1 [.string x] rfl rfl ?d1 ?d2 ?d3 ?d4 ?d5 ?_)
                      case d2 => first | rfl | (intro u hu; simp at hu; subst hu; rfl)
                      case d3 => unfold maxLen; omega
                      case d4 => omega
                      case d5 => have := hbM.size; simp; omega
                      intro v' w2 hown' hgrow _
                      have hown2 : Own wM.heap.size v' (out ++ [x.data.toList]) w2 := by
                        unfold Own
                        rw [List.map_append, List.length_append]
                        simpa [sv_data] using hown'
                      have hbM2 : Below wM.heap.size wM w2 := (hbM.alloc hbM.size _).grown hgrow (by have := hbM.size; simp; omega) (fun k hk => (hown.lt k hk).1)
                      clear hown' hgrow hown
                      go_wp2
                      go_roundw
                      case rel => exact ⟨k + 1, _, _, by go_num, rfl, by rw [hn'.out]; omega, hstep'.out, fun h => by simp at h, by rw [List.length_append, List.length_singleton]; omega, hown2, hbM2⟩
                      case measure => simp [RowKit.intOf]; omega
                    · have hv2 : (x[0]'hxp).toNat = 32 ∨ (x[0]'hxp).toNat = 9 := of_decide_eq_true hv
                      have dd : (((x[0]'hxp).toNat : Int) == 32) = true ∨ (((x[0]'hxp).toNat : Int) == 32) = false ∧ (((x[0]'hxp).toNat : Int) == 9) = true := by
                        rcases hv2 with h | h
                        · exact .inl (by rw [h]; rfl)
                        · exact .inr ⟨by rw [h]; rfl, by rw [h]; rfl⟩
                      have hhd2 := Lib.hid (hhd.trans hv)
                      clear hv hv2 hhd
                      by_cases hk0 : k = 0
                      · have ho : out = [] := List.eq_nil_of_length_eq_zero (by omega)
                        have hfin' := Lib.hid (hbad'.out (by rw [ho]; exact gstep_none _ hhd2.out))
                        have dk : ((k : Int) == 0) = true := by rw [hk0]; rfl
                        clear hk0 ho
                        rcases dd with d32 | ⟨d32, d9⟩
                        all_goals
                          go_wp2
                          go_ret2
                          exact ⟨hfin'.out, hbw2⟩
                      · have hne : out ≠ [] := fun h => hk0 (ho0 h)
                        have dk : ((k : Int) == 0) = false := beq_eq_false_iff_ne.2 (by omega)
                        have hstep := hnx'.out.trans (gstep_at out _ hne hok'.out hhd2.out)
                        have hlg := last_get out hne
                        have hsl := set_last out hne (out.getLast?.getD [] ++ x.data.toList.tail)
                        have htl : out.getLast?.getD [] ∈ out := by rw [List.getLast?_eq_some_getLast hne]; exact List.getLast_mem hne
                        have hto : (out.getLast?.getD []).length ≤ 1099511627776 := by
                          have h1 := tot_get out _ htl
                          have h2 := run_tot _ _ _ hrun'.out
                          have h3 := tot_take rs k (by rw [hn'.out]; exact hkn)
                          have h4 := htot'.out
                          have h5 : tot ([] : List Row) = 0 := rfl
                          omega
                        obtain ⟨y, hy⟩ : ∃ y : ByteArray, (⟨(out.getLast?.getD []).toArray⟩ : ByteArray) = y := ⟨_, rfl⟩
                        have hyd : out.getLast?.getD [] = y.data.toList := by rw [← hy]
                        have hlen0 : 0 < out.length := List.length_pos_iff.2 hne
                        unfold sv at hlg
                        rw [hy] at hlg
                        rw [hyd] at hstep hsl hto
                        rw [← Lib.size_eq] at hto
                        have hsum : (y ++ x.extract 1 x.size).data.toList = y.data.toList ++ x.data.toList.tail := by
                          rw [ByteArray.data_append, Array.toList_append, Lib.extract_to_end, List.drop_one]
                        rw [← hsum] at hstep hsl
                        rw [sv_data] at hsl
                        have hzz : ¬ 9223372036854775807 < y.size + (x.extract 1 x.size).size := by rw [ByteArray.size_extract]; omega
                        rcases hown.reads with ⟨_, h⟩ | ⟨g8, cap8, rfl, hg8, hg8w, _⟩
                        · exact absurd h hne
                        · have hown8 := hown
                          unfold Own at hown8
                          obtain ⟨m, hm⟩ : ∃ m, out.length = m := ⟨_, rfl⟩
                          have hc8 : wr.cell? ⟨g8, out.length - 1, none⟩ = some (.string y) := by rw [hown8.cellAt (out.length - 1) (by omega)]; exact hlg
                          have hf8 := hown8.frozenAt (out.length - 1)
                          have hstored := hown8.stored (out.length - 1) (.string (y ++ x.extract 1 x.size))
                          rw [hsl] at hstored
                          rw [hm] at hc8 hf8 hstored hlen0 hol
                          have hl9 := Lib.hid (show (out.dropLast ++ [(y ++ x.extract 1 x.size).data.toList]).length = m by
                            rw [List.length_append, List.length_dropLast, List.length_singleton]; omega)
                          have hown9 := Lib.hid (show Own wM.heap.size (.slice (some ⟨g8, 0, none⟩) m cap8) (out.dropLast ++ [(y ++ x.extract 1 x.size).data.toList]) (wr.setCell ⟨g8, m - 1, none⟩ (.string (y ++ x.extract 1 x.size))).drew by
                            unfold Own; rw [hl9.out]; exact hstored.1)
                          have hstep' := Lib.hid hstep
                          clear hstored hstep hsl hlg hy hyd hsum hto htl hown hown8 hne
                          rw [hm]
                          clear hm
                          rcases dd with d32 | ⟨d32, d9⟩
                          all_goals
                            go_wp2
                            go_region
                            all_goals (go_wp2; go_roundw)
                            case rel => exact ⟨k + 1, _, _, by go_num, rfl, by rw [hn'.out]; omega, hstep'.out, fun h => by simp at h, by rw [hl9.out]; omega, hown9.out, (hbM.setCell (p := ⟨g8, m - 1, none⟩) hg8 _).drew⟩
                            case measure => simp [RowKit.intOf]; omega
            · have hfin : RefUnfP w.heap.size T (.returned (.tuple #[s8, .bool true])) wr := .inl ⟨s8, out, rfl, by rw [hR'.out, ← hrun'.out, List.take_of_length_le (by rw [hn'.out]; omega)], hown.mono hBz⟩
              have hfin' := Lib.hid hfin
              clear hfin
              go_wp2
              go_ret2
              exact ⟨hfin'.out, hbw2⟩
end Go.Proofs.YthnnpnlapjlnoaaGreatDoor.Fo
