/-
  THE LAW ValueWrites.
-/
import Derived.Test.YtjdockjkioomiaaValueReads
import Derived.Test.YtjdockjkioomiaaValueRefPut
set_option linter.unusedVariables false
namespace Go.Proofs.Ytjdockjkioomiaa.Va
open Go.Lib Go.RowKit Bu

/-- are there fields, and has each of the first k a text? -/
def fullAt (fs : List (List Row)) (k : Nat) : Bool := decide (0 < fs.length) && (fs.take k).all fun f => decide (0 < f.length)
theorem fullAt_next (fs : List (List Row)) (k : Nat) (f : List Row) (h : fs[k]? = some f) : (fullAt fs k && decide (0 < f.length)) = fullAt fs (k + 1) := by
  obtain ⟨hl, hv⟩ := List.getElem?_eq_some_iff.1 h
  unfold fullAt
  rw [List.take_succ_eq_append_getElem hl, hv, List.all_append, Bool.and_assoc]
  simp
theorem fullAt_end (fs : List (List Row)) (h : fullAt fs fs.length = true) : fs ≠ [] ∧ ∀ f ∈ fs, f ≠ [] := by
  unfold fullAt at h
  rw [List.take_length, Bool.and_eq_true, decide_eq_true_eq, List.all_eq_true] at h
  refine ⟨fun e => by rw [e] at h; exact absurd h.1 (by simp), fun f hf e => ?_⟩
  have := h.2 f hf
  rw [e] at this
  simp at this
/-- the fields, joined, up to the k-th (plain, not for simp) -/
def jf (fs : List (List Row)) (k : Nat) : Row := jn 59 ((fs.take k).map putL)
theorem jf_next (fs : List (List Row)) (k : Nat) (f : List Row) (h : fs[k]? = some f) : (if k = 0 then [] else jf fs k ++ [59]) ++ putL f = jf fs (k + 1) := (jn_take 59 putL fs k f h).symm
theorem jf_end (fs : List (List Row)) : jf fs fs.length = putF fs := by unfold jf; rw [List.take_length]; rfl
theorem jf_le (fs : List (List Row)) (k : Nat) : (jf fs k).length ≤ (putF fs).length := jn_take_le 59 putL fs k
theorem putL_le (fs : List (List Row)) (k : Nat) (f : List Row) (h : fs[k]? = some f) : (putL f).length ≤ (putF fs).length := jn_mem_le 59 putL fs k f h
theorem put_le (f : List Row) (k : Nat) (l : Row) (h : f[k]? = some l) : (put l).length ≤ (putL f).length := jn_mem_le 44 put f k l h
theorem refPut_is (s x : ByteArray) (w : World) (hs : s.size ≤ 1099511627776) (hx : x.data.toList = put s.data.toList) :
    Calls Try.prog 20 #[.string s] w fun e w' => e = .returned (.string x) ∧ w = w' :=
  (refPut_any s w hs).mono fun e w' ⟨⟨y, h1, h2⟩, h3⟩ => ⟨by rw [h2, data_eq (h1.trans hx.symm)], h3⟩

set_option maxHeartbeats 16000000 in
set_option maxRecDepth 100000 in
theorem writes_walk (v : Value) (fs : List (List Row)) (w : World) (h : ListsAt w v fs) (hlen : (putF fs).length ≤ 1073741824) :
    Calls Try.prog 4 #[v] w fun e w' => e = .returned (.bool true) ∧ Below w.heap.size w w' := by
  obtain ⟨A, b, off, c, rfl, h1, h2, h3, h4⟩ := h
  obtain ⟨n, hn⟩ : ∃ n, fs.length = n := ⟨_, rfl⟩
  have hF0 : decide (0 < n) = fullAt fs 0 := by unfold fullAt; rw [hn]; simp
  have hjl : ∀ k, (jf fs k).length ≤ 1073741824 := fun k => Nat.le_trans (jf_le fs k) hlen
  have hpl : ∀ k f, fs[k]? = some f → (putL f).length ≤ 1073741824 := fun k f hf => Nat.le_trans (putL_le fs k f hf) hlen
  have hje : jf fs n = putF fs := by rw [← hn]; exact jf_end fs
  have hfe : fullAt fs n = true → fs ≠ [] ∧ ∀ f ∈ fs, f ≠ [] := by rw [← hn]; exact fullAt_end fs
  have hW : ∀ W, Below w.heap.size w W → ListsAt W (.slice A fs.length c) fs := fun W hW => ListsAt.kept ⟨A, b, off, c, rfl, h1, h2, h3, h4⟩ hW
  rw [hn] at h1 h3 hW ⊢
  unfold maxLen at h2
  have hn' := Lib.hid hn
  have h3' := Lib.hid h3
  have h4' := Lib.hid h4
  have hF0' := Lib.hid hF0
  have hjl' := Lib.hid hjl
  have hpl' := Lib.hid hpl
  have hje' := Lib.hid hje
  have hfe' := Lib.hid hfe
  have hW' := Lib.hid hW
  have hlen' := Lib.hid hlen
  clear hn h3 h4 hF0 hjl hpl hje hfe hW hlen
  go_enter Try.func4, Try.ntmps4
  go_wp2_with fail
  go_at_call 8
  refine (first_any w).mono ?_
  rintro e w1 ⟨rfl, hb1⟩
  go_wp2
  go_loopw [3, 4, 24] (fun s3 s4 s24 wr => ∃ (k : Nat) (want : ByteArray) (F : Bool), s3 = .string want ∧ s4 = .bool F ∧ s24 = .int .i64 (k : Int) ∧ k ≤ n ∧ want.data.toList = jf fs k ∧ F = fullAt fs k ∧ Below w.heap.size w wr) (fun s3 s4 s24 wr => n - (RowKit.intOf s24).toNat)
  case atStart => exact ⟨0, _, _, rfl, rfl, rfl, Nat.zero_le _, rfl, by rw [← hF0'.out], hb1⟩
  case round =>
    obtain ⟨k, want, F, rfl, rfl, rfl, hk, hwant, hF, hbw⟩ := hrel
    have hws : want.size ≤ 1073741824 := by rw [Lib.size_eq, hwant]; exact hjl'.out k
    have hwant' := Lib.hid hwant
    have hF' := Lib.hid hF
    clear hwant hF
    by_cases hlt : k < n
    · have hl : fs[k]? = some (fs[k]'(by have := hn'.out; omega)) := List.getElem?_eq_getElem _
      obtain ⟨f, hfe⟩ : ∃ f, fs[k]'(by have := hn'.out; omega) = f := ⟨_, rfl⟩
      rw [hfe] at hl
      obtain ⟨rfl, hg⟩ := h3'.out (by omega)
      obtain ⟨u, hu, hsu⟩ := h4'.out k f hl
      rw [← hbw.cell (p := ⟨b, off + k, none⟩) hg] at hu
      have hpf := hpl'.out k f hl
      have hsW : ∀ W, Below w.heap.size w W → StrsAt W u f := fun W hW => hsu.kept hW
      obtain ⟨ua, uc, rfl⟩ := RowAt.form hsu
      obtain ⟨fl, hfl⟩ : ∃ fl, f.length = fl := ⟨_, rfl⟩
      have hFn : (F && decide (0 < fl)) = fullAt fs (k + 1) := by rw [hF'.out, ← hfl]; exact fullAt_next fs k f hl
      have hnx := jf_next fs k f hl
      rw [hfl] at hu hsW
      have cR := fun W (hW : Below w.heap.size w W) => refPutList_any f (.slice ua fl uc) W (hsW W hW) (by omega)
      have cV := fun W (hW : Below w.heap.size w W) => putList_any f (.slice ua fl uc) W (hsW W hW) (by omega)
      obtain ⟨y1, hy1⟩ : ∃ y, want ++ (⟨#[59]⟩ : ByteArray) = y := ⟨_, rfl⟩
      have hy1s := cat_size _ _ _ hy1
      have hy1d := cat_data _ _ _ hy1
      rw [show (⟨#[59]⟩ : ByteArray).size = 1 from rfl] at hy1s
      rw [hwant'.out, show (⟨#[59]⟩ : ByteArray).data.toList = [59] from rfl] at hy1d
      have m0 : ¬ 9223372036854775807 < want.size + 1 := by omega
      -- the string ahead of the list
      have hpre : (k ≤ 0 → want.data.toList ++ putL f = jf fs (k + 1)) ∧ (0 < k → y1.data.toList ++ putL f = jf fs (k + 1)) := by
        refine ⟨fun h0 => ?_, fun h0 => ?_⟩
        · rw [if_pos (by omega)] at hnx
          rw [hwant'.out, show k = 0 by omega, ← show k = 0 by omega, ← hnx, show k = 0 by omega]; rfl
        · rw [if_neg (by omega)] at hnx
          rw [hy1d, hnx]
      obtain ⟨x, hx⟩ : ∃ x : ByteArray, x.data.toList = putL f := ⟨⟨(putL f).toArray⟩, by simp⟩
      have hxs : x.size ≤ 1073741824 := by rw [Lib.size_eq, hx]; exact hpf
      obtain ⟨q1, hq1⟩ : ∃ q, want ++ x = q := ⟨_, rfl⟩
      obtain ⟨q2, hq2⟩ : ∃ q, y1 ++ x = q := ⟨_, rfl⟩
      have m1 : ¬ 9223372036854775807 < want.size + x.size := by omega
      have m2 : ¬ 9223372036854775807 < y1.size + x.size := by omega
      have hd1 : k ≤ 0 → q1.data.toList = jf fs (k + 1) := fun h0 => by rw [cat_data _ _ _ hq1, hx]; exact hpre.1 h0
      have hd2 : 0 < k → q2.data.toList = jf fs (k + 1) := fun h0 => by rw [cat_data _ _ _ hq2, hx]; exact hpre.2 h0
      have hkk : (k ≤ 0 ∧ ∃ q : ByteArray, q = q1 ∧ Hid (q.data.toList = jf fs (k + 1))) ∨ (0 < k ∧ ∃ q : ByteArray, q = q2 ∧ Hid (q.data.toList = jf fs (k + 1))) := by
        by_cases h0 : 0 < k
        · exact .inr ⟨h0, q2, rfl, Lib.hid (hd2 h0)⟩
        · exact .inl ⟨by omega, q1, rfl, Lib.hid (hd1 (by omega))⟩
      have cL : 0 < fl → ∀ W, Calls Try.prog 11 #[.string x] W fun e w' => (∃ v, e = .returned (.tuple #[v, .int .i64 0]) ∧ Own W.heap.size v f w') ∧ Below W.heap.size W w' := fun h0 W =>
        list_is x f W (by omega) (by rw [hx]; exact list_putL f (fun e => by rw [e] at hfl; simp at hfl; omega))
      have cT : ∀ (j : Nat) (l : Row) (z p : ByteArray), f[j]? = some l → z.data.toList = l → p.data.toList = put z.data.toList → p.size ≤ 1073741824 ∧ z.size ≤ 1073741824 ∧ text p.data.toList = some z.data.toList := fun j l z p hj hz hp => by
        have g1 := put_le f j l hj
        have g2 := put_ge l
        refine ⟨by rw [Lib.size_eq, hp, hz]; omega, by rw [Lib.size_eq, hz]; omega, by rw [hp]; exact text_put _⟩
      have hsW' := Lib.hid hsW
      have hFn' := Lib.hid hFn
      have cR' := Lib.hid cR
      have cV' := Lib.hid cV
      have cL' := Lib.hid cL
      have cT' := Lib.hid cT
      have hx' := Lib.hid hx
      have hfl' := Lib.hid hfl
      clear hfe hl hsu hpf hsW hfl hFn hnx cR cV hy1d hpre hd1 hd2 cL cT hx
      rcases hkk with ⟨hk0, q, rfl, hqd⟩ | ⟨hk0, q, rfl, hqd⟩
      all_goals
        cases F
        all_goals
          by_cases hf0 : 0 < fl
          all_goals
            go_wp2_with fail
            go_at_call 17
            refine (cR'.out _ hbw).mono ?_
            rintro e w2 ⟨⟨x2, hx2, rfl⟩, rfl⟩
            obtain rfl := data_eq (hx2.trans hx'.out.symm)
            clear hx2
            go_wp2_with fail
            go_at_call 18
            refine (cV'.out _ hbw).mono ?_
            rintro e w3 ⟨⟨x3, hx3, rfl⟩, hb3⟩
            obtain rfl := data_eq (hx3.trans hx'.out.symm)
            have hB3 := below_then hbw hb3
            obtain ⟨A2, b2, o2, c2, he2, g1, g2, g3, g4⟩ := hsW'.out _ hB3
            injection he2 with i1 i2 i3
            subst i1
            subst i3
            rw [hfl'.out] at g1 g3
            have g3' := Lib.hid g3
            have g4' := Lib.hid g4
            unfold maxLen at g2
            clear hx3 hb3 g3 g4 i2
            go_wp2_with fail
            go_loopw [50] (fun s50 wr => ∃ j : Nat, s50 = .int .i64 (j : Int) ∧ j ≤ fl ∧ Below w3.heap.size w3 wr) (fun s50 wr => fl - (RowKit.intOf s50).toNat)
            case atStart => exact ⟨0, rfl, Nat.zero_le _, Below.refl _ _⟩
            case round =>
              obtain ⟨j, rfl, hj, hb4⟩ := hrel
              by_cases hlt2 : j < fl
              · have hz : f[j]? = some (f[j]'(by have := hfl'.out; omega)) := List.getElem?_eq_getElem _
                obtain ⟨l, hle⟩ : ∃ l, f[j]'(by have := hfl'.out; omega) = l := ⟨_, rfl⟩
                rw [hle] at hz
                obtain ⟨rfl, hg3⟩ := g3'.out (by omega)
                obtain ⟨t, ht, rfl⟩ := g4'.out j l hz
                rw [← hb4.cell (p := ⟨b2, o2 + j, none⟩) hg3] at ht
                obtain ⟨z, ez, hzd⟩ := sv_some l
                rw [ez] at ht
                obtain ⟨p, hp⟩ := put_made z
                obtain ⟨t1, t2, t3⟩ := cT'.out j l z p hz hzd hp
                have cP := fun W => put_is z p W hp (by omega)
                have cX := fun W => text_is p z W (by omega) t3
                have cQ := fun W => refPut_is z p W (by omega) hp
                clear hle hz ez hzd hp t3
                go_wp2_with fail
                go_at_call 19
                refine (cP _).mono ?_
                rintro e w5 ⟨rfl, hb5⟩
                go_wp2_with fail
                go_at_call 10
                refine (cX _).mono ?_
                rintro e w6 ⟨rfl, hb6⟩
                go_wp2_with fail
                go_at_call 19
                refine (cP _).mono ?_
                rintro e w7 ⟨rfl, hb7⟩
                go_wp2_with fail
                go_at_call 20
                refine (cQ _).mono ?_
                rintro e w8 ⟨rfl, rfl⟩
                have hB8 := below_then (below_then (below_then hb4 hb5) hb6) hb7
                clear hb4 hb5 hb6 hb7 cP cX cQ
                go_wp2
                go_roundw
                case rel => exact ⟨j + 1, by go_num, by omega, hB8⟩
                case measure => simp [RowKit.intOf]; omega
              · have hB4 := below_then hB3 hb4
                first
                  | (have cL := cL'.out hf0
                     go_wp2_with fail
                     go_at_call 11
                     refine (cL _).mono ?_
                     rintro e w5 ⟨⟨v5, rfl, ho⟩, hb5⟩
                     have hB5 := below_then hB4 hb5
                     have cS := refSame_any v5 (.slice ua fl uc) f w5 ho.at (hsW'.out _ hB5)
                     obtain ⟨oa, oc, rfl⟩ := RowAt.form ho.at
                     rw [hfl'.out] at cS ⊢
                     clear ho hb4 hb5 cL hB4
                     go_wp2_with fail
                     go_at_call 16
                     refine cS.mono ?_
                     rintro e w6 ⟨rfl, m, rfl⟩
                     have hB6 := below_drewN m hB5
                     clear cS hB5
                     go_wp2
                     go_roundw
                     case rel => exact ⟨k + 1, _, _, rfl, rfl, by go_num, by omega, hqd.out, by simpa [hf0] using hFn'.out, hB6⟩
                     case measure => simp [RowKit.intOf]; omega)
                  | (have hf1 : fl ≤ 0 := by omega
                     clear hb4
                     go_wp2_with fail
                     go_roundw
                     case rel => exact ⟨k + 1, _, _, rfl, rfl, by go_num, by omega, hqd.out, by simpa [hf0] using hFn'.out, hB4⟩
                     case measure => simp [RowKit.intOf]; omega)
    · obtain rfl : k = n := by omega
      have hwd : want.data.toList = putF fs := by rw [hwant'.out, hje'.out]
      have cP := putFields_any fs (.slice A k c) wr (hW'.out _ hbw) (by have := hlen'.out; omega)
      have hwd' := Lib.hid hwd
      clear hwd
      go_wp2_with fail
      go_at_call 21
      refine cP.mono ?_
      rintro e w2 ⟨⟨x, hx, rfl⟩, hb2⟩
      obtain rfl := data_eq (hx.trans hwd'.out.symm)
      have hB2 := below_then hbw hb2
      clear hx hb2 cP
      cases F
      · go_wp2
        go_ret
        exact ⟨rfl, hB2⟩
      · obtain ⟨hne, hall⟩ := hfe'.out hF'.out.symm
        have cF := fun W => fields_is x fs W (by omega) (by rw [hwd'.out]; exact fields_putF fs hne hall)
        clear hne hall
        go_wp2_with fail
        go_at_call 12
        refine (cF _).mono ?_
        rintro e w3 ⟨⟨v3, rfl, ho⟩, hb3⟩
        have hB3 := below_then hB2 hb3
        have hz := hW'.out _ hB3
        obtain ⟨B, b', off', c', rfl, b1, b2, b3, b4⟩ := LOwn.at ho
        obtain ⟨A5, b5, o5, c5, he5, d1, d2, d3, d4⟩ := hz
        injection he5 with i1 i2 i3
        subst i1
        subst i3
        rw [hn'.out] at b1 b3 d1 d3 ⊢
        unfold maxLen at b2 d2
        have b3' := Lib.hid b3
        have b4' := Lib.hid b4
        have d3' := Lib.hid d3
        have d4' := Lib.hid d4
        clear ho hb3 hB2 b3 b4 d3 d4 cF i2
        go_wp2
        go_loopw [114] (fun s114 wr => ∃ i m : Nat, s114 = .int .i64 (i : Int) ∧ i ≤ k ∧ wr = w3.drewN m) (fun s114 wr => k - (RowKit.intOf s114).toNat)
        case atStart => exact ⟨0, 0, rfl, Nat.zero_le _, rfl⟩
        case round =>
          obtain ⟨i, m, rfl, hi, hwr⟩ := hrel
          have hwr' := Lib.hid hwr
          by_cases hlt2 : i < k
          · have hl : fs[i]? = some (fs[i]'(by have := hn'.out; omega)) := List.getElem?_eq_getElem _
            obtain ⟨f, hfe⟩ : ∃ f, fs[i]'(by have := hn'.out; omega) = f := ⟨_, rfl⟩
            rw [hfe] at hl
            obtain ⟨rfl, hg⟩ := b3'.out (by omega)
            obtain ⟨rfl, hg2⟩ := d3'.out (by omega)
            obtain ⟨u, hu, hsu⟩ := b4'.out i f hl
            obtain ⟨u2, hu2, hsu2⟩ := d4'.out i f hl
            have hb3r : Below w3.heap.size w3 wr := by rw [hwr]; exact below_drewN _ (Below.refl _ _)
            rw [← hb3r.cell (p := ⟨b', off' + i, none⟩) hg] at hu
            rw [← hb3r.cell (p := ⟨b5, o5 + i, none⟩) hg2] at hu2
            have cS := fun m => refSame_any u u2 f (wr.drewN m) (hsu.kept (below_drewN m hb3r)) (hsu2.kept (below_drewN m hb3r))
            obtain ⟨ua, uc, rfl⟩ := RowAt.form hsu
            obtain ⟨ub, ud, rfl⟩ := RowAt.form hsu2
            obtain ⟨fl, hfl⟩ : ∃ fl, f.length = fl := ⟨_, rfl⟩
            rw [hfl] at hu hu2 cS
            clear hfe hl hsu hsu2 hfl hwr
            go_wp2
            go_quiet ((go_at_call 16; exact quiet_add (cS _)))
            go_wp2
            go_roundw
            case rel => exact ⟨i + 1, _, by go_num, by omega, by rw [hwr'.out]; exact World.drewN_drewN _ _ _⟩
            case measure => simp [RowKit.intOf]; omega
          · clear hwr
            go_wp2
            go_ret
            exact ⟨rfl, by rw [hwr'.out]; exact below_drewN _ hB3⟩
end Go.Proofs.Ytjdockjkioomiaa.Va
