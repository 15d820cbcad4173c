import Derived.Test.YthnnpnlapjlnoaaGreatDoorMg14
import Derived.Test.YthnnpnlapjlnoaaGreatDoorMg9
import Derived.Test.YthnnpnlapjlnoaaGreatDoorMg13

/-
  WALKS OF THE REFERENCE's List AND Fields, OF A VALUE THAT IS READ.
-/
set_option linter.unusedVariables false
namespace Go.Proofs.YthnnpnlapjlnoaaGreatDoor.Va
open Go.Lib Go.RowKit Bu

theorem signs_is (s : ByteArray) (l : List Sg) (w : World) (hs : s.size ≤ 1099511627776) (h : signs s.data.toList = some l) :
    Calls Tryz.prog 56 #[.string s] w fun e w' => (∃ v, e = .returned (.tuple #[v, .bool true]) ∧ SOwn w.heap.size v l w') ∧ Below w.heap.size w w' :=
  (refSigns_any s w hs).mono fun e w' ⟨h1, h2⟩ => ⟨by
    rcases h1 with ⟨h3, _⟩ | ⟨v, m, h3, rfl, h4⟩
    · rw [h] at h3; cases h3
    · rw [h] at h3; obtain rfl := Option.some.inj h3; exact ⟨v, rfl, h4⟩, h2⟩
/-- the first k of the answers (plain, not for simp) -/
def mt {α β : Type} (f : α → β) (xs : List α) (k : Nat) : List β := (xs.take k).map f
theorem mt_len {α β : Type} (f : α → β) (xs : List α) (k : Nat) : (mt f xs k).length ≤ k := by unfold mt; rw [List.length_map, List.length_take]; omega
theorem map_take_next {α β : Type} (f : α → β) (xs : List α) (k : Nat) (x : α) (h : xs[k]? = some x) : mt f xs (k + 1) = mt f xs k ++ [f x] := by
  unfold mt
  obtain ⟨hl, hv⟩ := List.getElem?_eq_some_iff.1 h
  rw [List.take_succ_eq_append_getElem hl, hv, List.map_append, List.map_singleton]
theorem parts_size {m : UInt8} {l : List Sg} {n : Nat} (h : l.length ≤ n) : (parts m l).length ≤ n + 1 := by
  have := cnt_le m l
  rw [parts_len]; omega
theorem piece_size {m : UInt8} {l p : List Sg} {k : Nat} (h : (parts m l)[k]? = some p) : p.length ≤ l.length := by
  have : ∀ (l : List Sg) (p : List Sg), p ∈ parts m l → p.length ≤ l.length := by
    intro l
    induction l with
    | nil => intro p hp; simp [parts] at hp; simp [hp]
    | cons x l ih =>
      intro p hp
      by_cases hx : x = (m, false)
      · rw [hx, parts_mark] at hp
        rcases List.mem_cons.1 hp with rfl | hp
        · simp
        · have := ih p hp; simp only [List.length_cons]; omega
      · rw [parts_own m x l hx] at hp
        cases hl : parts m l with
        | nil => exact absurd hl (parts_ne m l)
        | cons q qs =>
          rw [hl] at hp ih
          rcases List.mem_cons.1 hp with rfl | hp
          · have := ih q (by simp); simp only [List.singleton_append, List.length_cons]; omega
          · have := ih p (by simp [hp]); simp only [List.length_cons]; omega
  exact this l p (List.mem_of_getElem? h)

def LsRel (ps : List (List Sg)) (n : Nat) (w2 : World) (s6 s19 : Value) (wr : World) : Prop :=
  ∃ (k : Nat) (u : Value), u = s6 ∧ s19 = .int .i64 (k : Int) ∧ k ≤ n ∧ Own w2.heap.size s6 (mt plain ps k) wr ∧ Below w2.heap.size w2 wr

set_option maxHeartbeats 8000000 in
set_option maxRecDepth 100000 in
theorem refList_any (s : ByteArray) (l : List Sg) (w : World) (hs : s.size ≤ 549755813888) (h : signs s.data.toList = some l) :
    Calls Tryz.prog 59 #[.string s] w fun e w' => (∃ v, e = .returned (.tuple #[v, .bool true]) ∧ Own w.heap.size v (listS l) w') ∧ Below w.heap.size w w' := by
  have cS := fun W => signs_is s l W (by omega) h
  have hll := signs_len _ _ l (Nat.le_refl _) h
  rw [← Lib.size_eq] at hll
  clear h
  go_enter Tryz.func59, Tryz.ntmps59
  go_wp2_with fail
  go_at_call 56
  refine (cS _).mono ?_
  rintro e w1 ⟨⟨v, rfl, ho⟩, hb1⟩
  have cP := refParts_any 44 v l w1 ho.at (by omega)
  rw [show (((44 : UInt8).toNat : Nat) : Int) = 44 from rfl] at cP
  clear ho cS
  go_wp2_with fail
  go_at_call 84
  refine cP.mono ?_
  rintro e w2 ⟨⟨u, rfl, hp⟩, hb2⟩
  have hB2 := below_then hb1 hb2
  have hplen := parts_size (m := 44) (Nat.le_refl l.length)
  have hpc : ∀ (k : Nat) (p : List Sg), (parts 44 l)[k]? = some p → p.length ≤ l.length := fun k p h => piece_size h
  have hfin : listS l = mt plain (parts 44 l) (parts 44 l).length := by unfold mt; rw [List.take_length]; rfl
  obtain ⟨ps, hps⟩ : ∃ ps, parts 44 l = ps := ⟨_, rfl⟩
  rw [hps] at hp hplen hpc hfin
  obtain ⟨A, b, off, c, rfl, a1, a2, a3, a4⟩ := hp.at
  obtain ⟨n, hn⟩ : ∃ n, ps.length = n := ⟨_, rfl⟩
  rw [hn] at a1 a3 hplen hfin ⊢
  have hfin' := Lib.hid hfin
  unfold maxLen at a2
  have hn' := Lib.hid hn
  have a3' := Lib.hid a3
  have a4' := Lib.hid a4
  have hpc' := Lib.hid hpc
  clear hp hb1 hb2 cP hps hn a3 a4 hpc hfin
  go_wp2
  go_loopw [6, 19] (fun s6 s19 wr => LsRel ps n w2 s6 s19 wr) (fun s6 s19 wr => n - (RowKit.intOf s19).toNat)
  case atStart => exact ⟨0, _, rfl, rfl, Nat.zero_le _, Own.nil _ _, Below.refl _ _⟩
  case round =>
    obtain ⟨k, s6, rfl, rfl, hk, hown, hbr⟩ := hrel
    have hrs := hbr.size
    by_cases hlt : k < n
    · have hx : ps[k]? = some (ps[k]'(by have := hn'.out; omega)) := List.getElem?_eq_getElem _
      obtain ⟨x, hxe⟩ : ∃ x, ps[k]'(by have := hn'.out; omega) = x := ⟨_, rfl⟩
      rw [hxe] at hx
      obtain ⟨rfl, hg⟩ := a3'.out (by omega)
      obtain ⟨u, hu, hsx⟩ := a4'.out k x hx
      rw [← hbr.cell (p := ⟨b, off + k, none⟩) hg] at hu
      have hxl := hpc'.out k x hx
      have cN := refPlain_any u x wr (hsx.kept hbr) (by omega)
      obtain ⟨A2, b2, o2, c2, rfl, _⟩ := hsx
      obtain ⟨xn, hxn⟩ : ∃ xn, x.length = xn := ⟨_, rfl⟩
      rw [hxn] at hu cN
      have hmt := map_take_next plain ps k x hx
      have hmt' := Lib.hid hmt
      clear hxe hx hxl hxn hmt
      go_wp2_with fail
      go_at_call 58
      refine cN.mono ?_
      rintro e w3 ⟨⟨y, hy, rfl⟩, hb3⟩
      have hown3 := hown.kept hb3
      have hbr3 := below_then hbr hb3
      have hr3 := hbr3.size
      have hol : (mt plain ps k).length ≤ 1099511627776 := by have := mt_len plain ps k; omega
      have hy' := Lib.hid hy
      have hol' := Lib.hid hol
      clear hown hbr hb3 cN hy hol
      go_wp2_with (at_builtin; refine append_str (w0 := w3) y rfl _ _ rfl w2.heap.size _ _ w3.heap.size rfl rfl rfl hown3 ?c1 ?c2 ?_)
      case c1 => exact hol'.out
      case c2 => omega
      intro v' w4 hown4 hleft
      have hbr4 := hleft _ _ hbr3 (Nat.le_refl _) hr3
      rw [hy'.out, ← hmt'.out] at hown4
      clear hleft hown3
      go_wp2
      go_roundw
      case rel => exact ⟨k + 1, _, rfl, by go_num, by omega, hown4, hbr4⟩
      case measure => simp [RowKit.intOf]; omega
    · obtain rfl : k = n := by omega
      have hsz := hB2.size
      rw [← hfin'.out] at hown
      have hown2 := hown.less hsz
      clear hown
      go_wp2
      go_ret2
      exact ⟨⟨_, rfl, hown2⟩, below_then hB2 hbr⟩

def FsRel (qs : List (List Sg)) (n : Nat) (w2 : World) (s6 s22 : Value) (wr : World) : Prop :=
  ∃ (k : Nat) (u : Value), u = s6 ∧ s22 = .int .i64 (k : Int) ∧ k ≤ n ∧ LOwn w2.heap.size s6 (mt listS qs k) wr ∧ Below w2.heap.size w2 wr

set_option maxHeartbeats 8000000 in
set_option maxRecDepth 100000 in
theorem refFields_any (s : ByteArray) (l : List Sg) (w : World) (hs : s.size ≤ 549755813888) (h : signs s.data.toList = some l) :
    Calls Tryz.prog 61 #[.string s] w fun e w' => (∃ v, e = .returned (.tuple #[v, .bool true]) ∧ LOwn w.heap.size v (fldS l) w') ∧ Below w.heap.size w w' := by
  have cS := fun W => signs_is s l W (by omega) h
  have hll := signs_len _ _ l (Nat.le_refl _) h
  rw [← Lib.size_eq] at hll
  clear h
  go_enter Tryz.func61, Tryz.ntmps61
  go_wp2_with fail
  go_at_call 56
  refine (cS _).mono ?_
  rintro e w1 ⟨⟨v, rfl, ho⟩, hb1⟩
  have cP := refParts_any 59 v l w1 ho.at (by omega)
  rw [show (((59 : UInt8).toNat : Nat) : Int) = 59 from rfl] at cP
  clear ho cS
  go_wp2_with fail
  go_at_call 84
  refine cP.mono ?_
  rintro e w2 ⟨⟨u, rfl, hp⟩, hb2⟩
  have hB2 := below_then hb1 hb2
  have hplen := parts_size (m := 59) (Nat.le_refl l.length)
  have hpc : ∀ (k : Nat) (p : List Sg), (parts 59 l)[k]? = some p → p.length ≤ l.length := fun k p h => piece_size h
  have hfin : fldS l = mt listS (parts 59 l) (parts 59 l).length := by unfold mt; rw [List.take_length]; rfl
  obtain ⟨qs, hqs⟩ : ∃ qs, parts 59 l = qs := ⟨_, rfl⟩
  rw [hqs] at hp hplen hpc hfin
  obtain ⟨A, b, off, c, rfl, a1, a2, a3, a4⟩ := hp.at
  obtain ⟨n, hn⟩ : ∃ n, qs.length = n := ⟨_, rfl⟩
  rw [hn] at a1 a3 hplen hfin ⊢
  have hfin' := Lib.hid hfin
  unfold maxLen at a2
  have hn' := Lib.hid hn
  have a3' := Lib.hid a3
  have a4' := Lib.hid a4
  have hpc' := Lib.hid hpc
  clear hp hb1 hb2 cP hqs hn a3 a4 hpc hfin
  go_wp2
  go_loopw [6, 22] (fun s6 s22 wr => FsRel qs n w2 s6 s22 wr) (fun s6 s22 wr => n - (RowKit.intOf s22).toNat)
  case atStart => exact ⟨0, _, rfl, rfl, Nat.zero_le _, ROwn.nil _ _ _ _, Below.refl _ _⟩
  case round =>
    obtain ⟨k, s6, rfl, rfl, hk, hown, hbr⟩ := hrel
    have hrs := hbr.size
    by_cases hlt : k < n
    · have hx : qs[k]? = some (qs[k]'(by have := hn'.out; omega)) := List.getElem?_eq_getElem _
      obtain ⟨x, hxe⟩ : ∃ x, qs[k]'(by have := hn'.out; omega) = x := ⟨_, rfl⟩
      rw [hxe] at hx
      obtain ⟨rfl, hg⟩ := a3'.out (by omega)
      obtain ⟨u, hu, hsx⟩ := a4'.out k x hx
      rw [← hbr.cell (p := ⟨b, off + k, none⟩) hg] at hu
      have hxl := hpc'.out k x hx
      have cP := refParts_any 44 u x wr (hsx.kept hbr) (by omega)
      rw [show (((44 : UInt8).toNat : Nat) : Int) = 44 from rfl] at cP
      obtain ⟨A2, b2, o2, c2, rfl, _⟩ := hsx
      obtain ⟨xn, hxn⟩ : ∃ xn, x.length = xn := ⟨_, rfl⟩
      rw [hxn] at hu cP hxl
      have hmt := map_take_next listS qs k x hx
      have hmt' := Lib.hid hmt
      have hxn' := Lib.hid hxn
      clear hxe hx hxn hmt
      go_wp2_with fail
      go_at_call 84
      refine cP.mono ?_
      rintro e w3 ⟨⟨u, rfl, hp3⟩, hb3⟩
      have hown3 := ROwn.kept innerStr hown hb3
      have hbr3 := below_then hbr hb3
      have hr3 := hbr3.size
      have hpl3 := parts_size (m := 44) (Nat.le_refl x.length)
      have hpc3 : ∀ (k : Nat) (p : List Sg), (parts 44 x)[k]? = some p → p.length ≤ x.length := fun k p h => piece_size h
      have hfin3 : listS x = mt plain (parts 44 x) (parts 44 x).length := by unfold mt; rw [List.take_length]; rfl
      obtain ⟨ps, hps⟩ : ∃ ps, parts 44 x = ps := ⟨_, rfl⟩
      rw [hps] at hp3 hpl3 hpc3 hfin3
      obtain ⟨A3, b3, off3, c3, rfl, e1, e2, e3, e4⟩ := hp3.at
      obtain ⟨n3, hn3⟩ : ∃ n, ps.length = n := ⟨_, rfl⟩
      rw [hn3] at e1 e3 hpl3 hfin3 ⊢
      rw [hxn'.out] at hpl3 hpc3
      unfold maxLen at e2
      have hn3' := Lib.hid hn3
      have e3' := Lib.hid e3
      have e4' := Lib.hid e4
      have hpc3' := Lib.hid hpc3
      have hfin3' := Lib.hid hfin3
      have hown3' := Lib.hid hown3
      clear hp3 hb3 cP hps hn3 e3 e4 hpc3 hfin3 hown hbr hown3
      go_wp2
      go_loopw [9, 29] (fun s9 s29 wr => LsRel ps n3 w3 s9 s29 wr) (fun s9 s29 wr => n3 - (RowKit.intOf s29).toNat)
      case atStart => exact ⟨0, _, rfl, rfl, Nat.zero_le _, Own.nil _ _, Below.refl _ _⟩
      case round =>
        obtain ⟨j, s9, rfl, rfl, hj, hone, hbx⟩ := hrel
        have hxs := hbx.size
        by_cases hlt2 : j < n3
        · have hz : ps[j]? = some (ps[j]'(by have := hn3'.out; omega)) := List.getElem?_eq_getElem _
          obtain ⟨z, hze⟩ : ∃ z, ps[j]'(by have := hn3'.out; omega) = z := ⟨_, rfl⟩
          rw [hze] at hz
          obtain ⟨rfl, hg3⟩ := e3'.out (by omega)
          obtain ⟨t, ht, hst⟩ := e4'.out j z hz
          rw [← hbx.cell (p := ⟨b3, off3 + j, none⟩) hg3] at ht
          have hzl := hpc3'.out j z hz
          have cN := refPlain_any t z wr (hst.kept hbx) (by omega)
          obtain ⟨A4, b4, o4, c4, rfl, _⟩ := hst
          obtain ⟨zn, hzn⟩ : ∃ zn, z.length = zn := ⟨_, rfl⟩
          rw [hzn] at ht cN
          have hmt2 := Lib.hid (map_take_next plain ps j z hz)
          clear hze hz hzl hzn
          go_wp2_with fail
          go_at_call 58
          refine cN.mono ?_
          rintro e w4 ⟨⟨y, hy, rfl⟩, hb4⟩
          have hone4 := hone.kept hb4
          have hbx4 := below_then hbx hb4
          have hr4 := hbx4.size
          have hol : (mt plain ps j).length ≤ 1099511627776 := by have := mt_len plain ps j; omega
          have hy' := Lib.hid hy
          have hol' := Lib.hid hol
          clear hone hbx hb4 cN hy hol
          go_wp2_with (at_builtin; refine append_str (w0 := w4) y rfl _ _ rfl w3.heap.size _ _ w4.heap.size rfl rfl rfl hone4 ?c1 ?c2 ?_)
          case c1 => exact hol'.out
          case c2 => omega
          intro v' w5 hone5 hleft
          have hbx5 := hleft _ _ hbx4 (Nat.le_refl _) hr4
          rw [hy'.out, ← hmt2.out] at hone5
          clear hleft hone4
          go_wp2
          go_roundw
          case rel => exact ⟨j + 1, _, rfl, by go_num, by omega, hone5, hbx5⟩
          case measure => simp [RowKit.intOf]; omega
        · obtain rfl : j = n3 := by omega
          rw [← hfin3'.out] at hone
          have hownx := ROwn.kept innerStr hown3'.out hbx
          have hbrx := below_then hbr3 hbx
          have hone2 := hone.less hr3
          have hrx := hbrx.size
          obtain ⟨ao, cc, rfl⟩ := ownsRow_form hone
          obtain ⟨nn, hnn⟩ : ∃ nn, (listS x).length = nn := ⟨_, rfl⟩
          rw [hnn] at hone2 ⊢
          have hol : (mt listS qs k).length ≤ 1099511627776 := by have := mt_len listS qs k; omega
          have hol' := Lib.hid hol
          clear hone hbx hnn hol hbr3
          go_wp2_with (at_builtin; refine append_row (w0 := wr) innerStr infoStrs Tryz.underlying92 ao nn cc (listS x) rfl _ _ rfl w2.heap.size _ _ wr.heap.size rfl rfl rfl hownx hone2 ?c1 ?c2 ?_)
          case c1 => exact hol'.out
          case c2 => omega
          intro v' w5 hown5 hleft
          have hbr5 := hleft _ _ hbrx (Nat.le_refl _) hrx
          rw [← hmt'.out] at hown5
          clear hleft hownx hone2
          go_wp2
          go_roundw
          case rel => exact ⟨k + 1, _, rfl, by go_num, by omega, hown5, hbr5⟩
          case measure => simp [RowKit.intOf]; omega
    · obtain rfl : k = n := by omega
      have hsz := hB2.size
      rw [← hfin'.out] at hown
      have hown2 := ROwn.less innerStr hown hsz
      clear hown
      go_wp2
      go_ret2
      exact ⟨⟨_, rfl, hown2⟩, below_then hB2 hbr⟩
end Go.Proofs.YthnnpnlapjlnoaaGreatDoor.Va

/-
  WALKS OF THE REFERENCE's Put AND PutList.
-/
set_option linter.unusedVariables false
namespace Go.Proofs.YthnnpnlapjlnoaaGreatDoor.Va
open Go.Lib Go.RowKit Bu

theorem one_data (s : ByteArray) (k : Nat) (h : k < s.size) : (s.extract k (k + 1)).data.toList = [s[k]'h] := by
  rw [Lib.extract_data, show k + 1 - k = 1 by omega, drop_head s k h]; rfl

set_option maxHeartbeats 4000000 in
set_option maxRecDepth 100000 in
theorem refPut_any (s : ByteArray) (w : World) (hs : s.size ≤ 1099511627776) :
    Calls Tryz.prog 57 #[.string s] w fun e w' => (∃ x : ByteArray, x.data.toList = put s.data.toList ∧ e = .returned (.string x)) ∧ w = w' := by
  go_enter Tryz.func57, Tryz.ntmps57
  go_wp2
  go_loop [3, 4] (fun s3 s4 => ∃ (k : Nat) (acc : ByteArray), s3 = .string acc ∧ s4 = .int .i64 (k : Int) ∧ k ≤ s.size ∧ acc.data.toList = put (s.data.toList.take k)) (fun s3 s4 => s.size - (RowKit.intOf s4).toNat)
  case atStart => exact ⟨0, _, rfl, rfl, Nat.zero_le _, rfl⟩
  case round =>
    obtain ⟨k, acc, rfl, rfl, hk, hacc⟩ := hrel
    have hal : acc.size ≤ 2 * k := by
      have h1 := put_len (s.data.toList.take k)
      rw [← hacc, ← Lib.size_eq, List.length_take] at h1
      omega
    by_cases hlt : k < s.size
    · obtain ⟨A, hA⟩ : ∃ A, k + 1 = A := ⟨_, rfl⟩
      have hod := one_data s k hlt
      have hpt := put_take s k hlt
      rw [hA] at hod hpt
      obtain ⟨b1, hb1⟩ : ∃ b1, s.extract k A = b1 := ⟨_, rfl⟩
      rw [hb1] at hod
      have hb1s : b1.size = 1 := by rw [Lib.size_eq, hod]; rfl
      obtain ⟨q1, hq1⟩ : ∃ q, acc ++ (⟨#[92, 92]⟩ : ByteArray) = q := ⟨_, rfl⟩
      obtain ⟨q2, hq2⟩ : ∃ q, acc ++ (⟨#[92, 44]⟩ : ByteArray) = q := ⟨_, rfl⟩
      obtain ⟨q3, hq3⟩ : ∃ q, acc ++ (⟨#[92, 59]⟩ : ByteArray) = q := ⟨_, rfl⟩
      obtain ⟨q4, hq4⟩ : ∃ q, acc ++ (⟨#[92, 110]⟩ : ByteArray) = q := ⟨_, rfl⟩
      obtain ⟨q5, hq5⟩ : ∃ q, acc ++ b1 = q := ⟨_, rfl⟩
      have m1 : ¬ 9223372036854775807 < acc.size + 2 := by omega
      have m4 : ¬ 9223372036854775807 < acc.size + b1.size := by omega
      have hAI : (k : Int) + 1 = (A : Int) := by omega
      have j1 : (k : Int) ≤ (A : Int) := by omega
      have j2 : (A : Int) ≤ (s.size : Int) := by omega
      have j3 : (0 : Int) ≤ (k : Int) := by omega
      have j4 : ¬ (A : Int) < (k : Int) := by omega
      have j5 : ¬ (s.size : Int) < (A : Int) := by omega
      have j6 : A ≤ s.size := by omega
      have j7 : k < A := by omega
      have hnext : ∀ (q : ByteArray) (x : Row), put1 (s[k]'hlt) = x → q.data.toList = acc.data.toList ++ x → q.data.toList = put (s.data.toList.take A) := fun q x h1 h2 => by rw [hpt, h1, h2, hacc]
      have hnext' := Lib.hid hnext
      have hod' := Lib.hid hod
      have hA' := Lib.hid hA
      clear hA hod hpt hnext hacc hb1s
      by_cases c1 : s[k]'hlt = 92
      · have f1 : ((((s[k]'hlt).toNat : Nat) : Int) == 92) = true := ty (m := 92) rfl c1
        have hn := Lib.hid (hnext'.out q1 [92, 92] (by rw [c1]; rfl) (cat_data _ _ _ hq1))
        clear c1
        go_wp2
        go_round
        case rel => exact ⟨A, q1, rfl, rfl, j6, hn.out⟩
        case measure => simp [RowKit.intOf]; omega
      · have f1 : ((((s[k]'hlt).toNat : Nat) : Int) == 92) = false := tn (m := 92) rfl c1
        by_cases c2 : s[k]'hlt = 44
        · have f2 : ((((s[k]'hlt).toNat : Nat) : Int) == 44) = true := ty (m := 44) rfl c2
          have hn := Lib.hid (hnext'.out q2 [92, 44] (by rw [c2]; rfl) (cat_data _ _ _ hq2))
          clear c1 c2
          go_wp2
          go_round
          case rel => exact ⟨A, q2, rfl, rfl, j6, hn.out⟩
          case measure => simp [RowKit.intOf]; omega
        · have f2 : ((((s[k]'hlt).toNat : Nat) : Int) == 44) = false := tn (m := 44) rfl c2
          by_cases c3 : s[k]'hlt = 59
          · have f3 : ((((s[k]'hlt).toNat : Nat) : Int) == 59) = true := ty (m := 59) rfl c3
            have hn := Lib.hid (hnext'.out q3 [92, 59] (by rw [c3]; rfl) (cat_data _ _ _ hq3))
            clear c1 c2 c3
            go_wp2
            go_round
            case rel => exact ⟨A, q3, rfl, rfl, j6, hn.out⟩
            case measure => simp [RowKit.intOf]; omega
          · have f3 : ((((s[k]'hlt).toNat : Nat) : Int) == 59) = false := tn (m := 59) rfl c3
            by_cases c4 : s[k]'hlt = 10
            · have f4 : ((((s[k]'hlt).toNat : Nat) : Int) == 10) = true := ty (m := 10) rfl c4
              have hn := Lib.hid (hnext'.out q4 [92, 110] (by rw [c4]; rfl) (cat_data _ _ _ hq4))
              clear c1 c2 c3 c4
              go_wp2
              go_round
              case rel => exact ⟨A, q4, rfl, rfl, j6, hn.out⟩
              case measure => simp [RowKit.intOf]; omega
            · have f4 : ((((s[k]'hlt).toNat : Nat) : Int) == 10) = false := tn (m := 10) rfl c4
              have hp1 : put1 (s[k]'hlt) = [s[k]'hlt] := by
                unfold put1
                rw [if_neg (fun h => by rcases h with e | e | e; exact c1 e; exact c2 e; exact c3 e), if_neg c4]
              have hn := Lib.hid (hnext'.out q5 _ hp1 (by rw [cat_data _ _ _ hq5, hod'.out]))
              clear c1 c2 c3 c4 hp1
              go_wp2
              go_round
              case rel => exact ⟨A, q5, rfl, rfl, j6, hn.out⟩
              case measure => simp [RowKit.intOf]; omega
    · have hf : acc.data.toList = put s.data.toList := by rw [hacc, List.take_of_length_le (by rw [← Lib.size_eq]; omega)]
      clear hacc
      go_wp2
      go_ret
      exact ⟨⟨acc, hf, rfl⟩, rfl⟩

set_option maxHeartbeats 4000000 in
set_option maxRecDepth 100000 in
theorem refPutList_any (ls : List Row) (v : Value) (w : World) (h : StrsAt w v ls) (hlen : (putL ls).length ≤ 1099511627776) :
    Calls Tryz.prog 60 #[v] w fun e w' => (∃ x : ByteArray, x.data.toList = putL ls ∧ e = .returned (.string x)) ∧ w = w' := by
  obtain ⟨A, b, off, c, rfl, h1, h2, h3, h4⟩ := h
  obtain ⟨n, hn⟩ : ∃ n, ls.length = n := ⟨_, rfl⟩
  have hput : ∀ (k : Nat) (l : Row), ls[k]? = some l → (put l).length ≤ 1099511627776 := fun k l hl => Nat.le_trans (jn_mem_le 44 put ls k l hl) hlen
  have hnext : ∀ (k : Nat) (l : Row), ls[k]? = some l → (if k = 0 then [] else jn 44 ((ls.take k).map put) ++ [44]) ++ put l = jn 44 ((ls.take (k + 1)).map put) := fun k l hl => (jn_take 44 put ls k l hl).symm
  have hle : ∀ k, (jn 44 ((ls.take k).map put)).length ≤ 1099511627776 := fun k => Nat.le_trans (jn_take_le 44 put ls k) hlen
  have hall : jn 44 ((ls.take n).map put) = putL ls := by rw [List.take_of_length_le (by omega)]; rfl
  rw [hn] at h1 h3 ⊢
  unfold maxLen at h2
  have hn' := Lib.hid hn
  have h3' := Lib.hid h3
  have h4' := Lib.hid h4
  have hput' := Lib.hid hput
  have hnext' := Lib.hid hnext
  have hall' := Lib.hid hall
  have hle' := Lib.hid hle
  clear hn h3 h4 hput hnext hall hlen hle
  go_enter Tryz.func60, Tryz.ntmps60
  go_wp2
  go_loopw [3, 8] (fun s3 s8 wr => ∃ (k : Nat) (acc : ByteArray), s3 = .string acc ∧ s8 = .int .i64 (k : Int) ∧ k ≤ n ∧ acc.data.toList = jn 44 ((ls.take k).map put) ∧ w = wr) (fun s3 s8 wr => n - (RowKit.intOf s8).toNat)
  case atStart => exact ⟨0, _, rfl, rfl, Nat.zero_le _, rfl, rfl⟩
  case round =>
    obtain ⟨k, acc, rfl, rfl, hk, hacc, rfl⟩ := hrel
    have hal : acc.size ≤ 1099511627776 := by rw [Lib.size_eq, hacc]; exact hle'.out k
    by_cases hlt : k < n
    · have hl : ls[k]? = some (ls[k]'(by have := hn'.out; omega)) := List.getElem?_eq_getElem _
      obtain ⟨l, hle⟩ : ∃ l, ls[k]'(by have := hn'.out; omega) = l := ⟨_, rfl⟩
      rw [hle] at hl
      obtain ⟨rfl, hg⟩ := h3'.out (by omega)
      obtain ⟨u, hu, rfl⟩ := h4'.out k l hl
      obtain ⟨x, ex, hx⟩ := sv_some l
      rw [ex] at hu
      have e1 := hnext'.out k l hl
      have hpl := hput'.out k l hl
      have hxs : x.size ≤ 1099511627776 := by have := put_ge l; rw [Lib.size_eq, hx]; omega
      have cP := refPut_any x w hxs
      rw [hx] at cP
      have hyl : ∀ y : ByteArray, y.data.toList = put l → y.size ≤ 1099511627776 := fun y hy => by rw [Lib.size_eq, hy]; exact hpl
      have hyl' := Lib.hid hyl
      clear hle hl ex hpl hxs hx hyl
      by_cases hk0 : k = 0
      · rw [if_pos hk0] at e1
        have ha0 : acc.data.toList = [] := by rw [hacc, hk0]; rfl
        have hk1 : k ≤ 0 := by omega
        have e1' := Lib.hid e1
        have ha0' := Lib.hid ha0
        clear e1 hk0 ha0 hacc
        go_wp2_with fail
        go_at_call 57
        refine cP.mono ?_
        rintro e w2 ⟨⟨y, hy, rfl⟩, rfl⟩
        obtain ⟨q, hq⟩ : ∃ q, acc ++ y = q := ⟨_, rfl⟩
        have hys := hyl'.out y hy
        have m1 : ¬ 9223372036854775807 < acc.size + y.size := by omega
        have hqd : q.data.toList = jn 44 ((ls.take (k + 1)).map put) := by rw [cat_data _ _ _ hq, ha0'.out, hy, e1'.out]
        have hqd' := Lib.hid hqd
        clear hy hqd cP
        go_wp2
        go_roundw
        case rel => exact ⟨k + 1, q, rfl, by go_num, by omega, hqd'.out, by trivial⟩
        case measure => simp [RowKit.intOf]; omega
      · rw [if_neg hk0] at e1
        have hk1 : 0 < k := by omega
        obtain ⟨r, hr⟩ : ∃ q, acc ++ (⟨#[44]⟩ : ByteArray) = q := ⟨_, rfl⟩
        have hrs := cat_size _ _ _ hr
        rw [show (⟨#[44]⟩ : ByteArray).size = 1 from rfl] at hrs
        have hrl : r.size ≤ 1099511627777 := by omega
        have m0 : ¬ 9223372036854775807 < acc.size + 1 := by omega
        have hrd : r.data.toList = jn 44 ((ls.take k).map put) ++ [44] := by rw [cat_data _ _ _ hr, hacc]
        have hrd' := Lib.hid hrd
        have e1' := Lib.hid e1
        clear e1 hk0 hacc hrd hrs
        go_wp2_with fail
        go_at_call 57
        refine cP.mono ?_
        rintro e w2 ⟨⟨y, hy, rfl⟩, rfl⟩
        obtain ⟨q, hq⟩ : ∃ q, r ++ y = q := ⟨_, rfl⟩
        have hys := hyl'.out y hy
        have m1 : ¬ 9223372036854775807 < r.size + y.size := by omega
        have hqd : q.data.toList = jn 44 ((ls.take (k + 1)).map put) := by rw [cat_data _ _ _ hq, hrd'.out, hy, e1'.out]
        have hqd' := Lib.hid hqd
        clear hy hqd cP
        go_wp2
        go_roundw
        case rel => exact ⟨k + 1, q, rfl, by go_num, by omega, hqd'.out, by trivial⟩
        case measure => simp [RowKit.intOf]; omega
    · obtain rfl : k = n := by omega
      rw [hall'.out] at hacc
      go_wp2
      go_ret
      exact ⟨⟨acc, hacc, rfl⟩, rfl⟩
end Go.Proofs.YthnnpnlapjlnoaaGreatDoor.Va

/-
  HOW LONG WHAT IS READ IS WHEN IT IS PUT ANEW.
-/
set_option linter.unusedVariables false
namespace Go.Proofs.YthnnpnlapjlnoaaGreatDoor.Va

theorem pre_sum (x : Sg) : ∀ (ps : List (List Sg)), ps ≠ [] → ((pre [x] ps).map List.length).sum = 1 + (ps.map List.length).sum
  | [], h => absurd rfl h
  | p :: ps, _ => by simp [pre]; omega
theorem parts_total (m : UInt8) : ∀ (l : List Sg), ((parts m l).map List.length).sum + cnt m l = l.length
  | [] => by simp [parts, cnt]
  | x :: l => by
    have ih := parts_total m l
    by_cases h : x = (m, false)
    · subst h
      rw [parts_mark]
      have : cnt m ((m, false) :: l) = cnt m l + 1 := by simp [cnt]
      rw [this]
      simp only [List.map_cons, List.sum_cons, List.length_nil, List.length_cons]
      omega
    · rw [parts_own m x l h, pre_sum x _ (parts_ne m l)]
      have : cnt m (x :: l) = cnt m l := by simp [cnt, h]
      rw [this, List.length_cons]
      omega
theorem tl_sum (m : UInt8) : ∀ (xs : List Row), (tl m xs).length = (xs.map List.length).sum + xs.length
  | [] => rfl
  | x :: xs => by have := tl_sum m xs; simp only [tl, List.length_append, List.length_cons, List.map_cons, List.sum_cons]; omega
theorem jn_sum (m : UInt8) (xs : List Row) (h : xs ≠ []) : (jn m xs).length + 1 = (xs.map List.length).sum + xs.length := by
  cases xs with
  | nil => exact absurd rfl h
  | cons x xs => simp only [jn, List.length_append, tl_sum, List.map_cons, List.sum_cons, List.length_cons]; omega
theorem sum_le {α : Type} (f g : α → Nat) : ∀ (xs : List α), (∀ x ∈ xs, f x ≤ g x) → (xs.map f).sum ≤ (xs.map g).sum
  | [], _ => Nat.le_refl _
  | x :: xs, h => by
    have h0 := h x (by simp)
    have ih := sum_le f g xs (fun y hy => h y (by simp [hy]))
    simp only [List.map_cons, List.sum_cons]; omega
theorem sum_two {α : Type} (g : α → Nat) : ∀ (xs : List α), (xs.map fun x => 2 * g x).sum = 2 * (xs.map g).sum
  | [] => rfl
  | x :: xs => by have := sum_two g xs; simp only [List.map_cons, List.sum_cons]; omega
theorem putL_listS (l : List Sg) : (putL (listS l)).length ≤ 2 * l.length := by
  have hne : (listS l).map put ≠ [] := by
    intro e
    have := congrArg List.length e
    rw [List.length_map, listS_len] at this
    simp at this
  have h1 := jn_sum 44 _ hne
  have h2 := parts_total 44 l
  have e1 : ((listS l).map put).map List.length = (parts 44 l).map fun p => (put (plain p)).length := by
    unfold listS; rw [List.map_map, List.map_map]; rfl
  have h3 : (((listS l).map put).map List.length).sum ≤ 2 * ((parts 44 l).map List.length).sum := by
    rw [e1, ← sum_two]
    exact sum_le _ _ _ (fun p _ => by have := put_len (plain p); rw [plain_len] at this; exact this)
  rw [List.length_map, listS_len] at h1
  unfold putL
  omega
theorem putF_fldS (l : List Sg) : (putF (fldS l)).length ≤ 2 * l.length := by
  have hne : (fldS l).map putL ≠ [] := by
    intro e
    have := congrArg List.length e
    rw [List.length_map, fldS_len] at this
    simp at this
  have h1 := jn_sum 59 _ hne
  have h2 := parts_total 59 l
  have e1 : ((fldS l).map putL).map List.length = (parts 59 l).map fun p => (putL (listS p)).length := by
    unfold fldS; rw [List.map_map, List.map_map]; rfl
  have h3 : (((fldS l).map putL).map List.length).sum ≤ 2 * ((parts 59 l).map List.length).sum := by
    rw [e1, ← sum_two]
    exact sum_le _ _ _ (fun p _ => putL_listS p)
  rw [List.length_map, fldS_len] at h1
  unfold putF
  omega
end Go.Proofs.YthnnpnlapjlnoaaGreatDoor.Va

/-
  THE WALK OF THE REFERENCE's Anew.
-/
set_option linter.unusedVariables false
namespace Go.Proofs.YthnnpnlapjlnoaaGreatDoor.Ca
open Go.Lib Go.RowKit Bu Va

/-! ### faults -/
theorem signs_bad (s : ByteArray) (w : World) (hs : s.size ≤ 1099511627776) (h : signs s.data.toList = none) :
    Calls Tryz.prog 56 #[.string s] w fun e w' => e = .returned (.tuple #[.slice none 0 0, .bool false]) ∧ Below w.heap.size w w' :=
  (refSigns_any s w hs).mono fun e w' ⟨h1, h2⟩ => ⟨by
    rcases h1 with ⟨_, h3⟩ | ⟨v, m, h3, rfl, h4⟩
    · exact h3
    · rw [h] at h3; exact absurd h3 (by simp), h2⟩
set_option maxRecDepth 100000 in
theorem list_bad (s : ByteArray) (w : World) (hs : s.size ≤ 1099511627776) (h : signs s.data.toList = none) :
    Calls Tryz.prog 59 #[.string s] w fun e w' => e = .returned (.tuple #[.slice none 0 0, .bool false]) ∧ Below w.heap.size w w' := by
  have c := fun W => signs_bad s W hs h
  clear h
  go_enter Tryz.func59, Tryz.ntmps59
  go_wp2_with fail
  go_at_call 56
  refine (c _).mono ?_
  rintro e w1 ⟨rfl, hb⟩
  go_wp2
  go_ret2
  exact ⟨rfl, hb⟩
set_option maxRecDepth 100000 in
theorem fields_bad (s : ByteArray) (w : World) (hs : s.size ≤ 1099511627776) (h : signs s.data.toList = none) :
    Calls Tryz.prog 61 #[.string s] w fun e w' => e = .returned (.tuple #[.slice none 0 0, .bool false]) ∧ Below w.heap.size w w' := by
  have c := fun W => signs_bad s W hs h
  clear h
  go_enter Tryz.func61, Tryz.ntmps61
  go_wp2_with fail
  go_at_call 56
  refine (c _).mono ?_
  rintro e w1 ⟨rfl, hb⟩
  go_wp2
  go_ret2
  exact ⟨rfl, hb⟩
theorem sgs_nil (w : World) : SgsAt w (.slice none 0 0) [] := ⟨none, 0, 0, 0, rfl, by simp, by unfold maxLen; omega, fun h => absurd h (by simp), fun j x hj => by simp at hj⟩

/-- what Anew answers -/
def AnewP (name v : Row) (e : Ending) : Prop := ∃ x : ByteArray, x.data.toList = (anew name v).1 ∧ e = .returned (.tuple #[.string x, .bool (anew name v).2])
theorem anewP_of {name v : Row} {x : ByteArray} {k : Bool} (h1 : x.data.toList = (anew name v).1) (h2 : (anew name v).2 = k) : AnewP name v (.returned (.tuple #[.string x, .bool k])) := ⟨x, h1, by rw [h2]⟩

set_option maxHeartbeats 8000000 in
set_option maxRecDepth 100000 in
theorem anew_any (name v : ByteArray) (w : World) (hs : v.size ≤ 268435456) :
    Calls Tryz.prog 35 #[.string name, .string v] w fun e w' => AnewP name.data.toList v.data.toList e ∧ Below w.heap.size w w' := by
  have c1 := fun W => one_any name ⟨#[70, 78, 32, 78, 79, 84, 69, 32, 85, 73, 68]⟩ W (by decide)
  have c2 := fun W => one_any name ⟨#[67, 65, 84, 69, 71, 79, 82, 73, 69, 83, 32, 78, 73, 67, 75, 78, 65, 77, 69]⟩ W (by decide)
  have c3 := fun W => one_any name ⟨#[78, 32, 79, 82, 71, 32, 65, 68, 82]⟩ W (by decide)
  rw [show (⟨#[70, 78, 32, 78, 79, 84, 69, 32, 85, 73, 68]⟩ : ByteArray).data.toList = sFN from rfl] at c1
  rw [show (⟨#[67, 65, 84, 69, 71, 79, 82, 73, 69, 83, 32, 78, 73, 67, 75, 78, 65, 77, 69]⟩ : ByteArray).data.toList = sCAT from rfl] at c2
  rw [show (⟨#[78, 32, 79, 82, 71, 32, 65, 68, 82]⟩ : ByteArray).data.toList = sN from rfl] at c3
  obtain ⟨A1, hA1⟩ : ∃ A, among name.data.toList sFN = A := ⟨_, rfl⟩
  obtain ⟨A2, hA2⟩ : ∃ A, among name.data.toList sCAT = A := ⟨_, rfl⟩
  obtain ⟨A3, hA3⟩ : ∃ A, among name.data.toList sN = A := ⟨_, rfl⟩
  rw [hA1] at c1
  rw [hA2] at c2
  rw [hA3] at c3
  have hA : anew name.data.toList v.data.toList = if A1 = true then (put ((text v.data.toList).getD []), (text v.data.toList).isSome)
      else if A2 = true then (putL ((list v.data.toList).getD []), (list v.data.toList).isSome)
      else if A3 = true then (putF ((Va.fields v.data.toList).getD []), (Va.fields v.data.toList).isSome && (!decide (name.data.toList = [78]) || decide (((Va.fields v.data.toList).getD []).length = 5)))
      else (v.data.toList, true) := by rw [← hA1, ← hA2, ← hA3]; rfl
  clear hA1 hA2 hA3
  cases A1
  · cases A2
    · cases A3
      · -- as it is
        have hf : AnewP name.data.toList v.data.toList (.returned (.tuple #[.string v, .bool true])) := anewP_of (by rw [hA]; rfl) (by rw [hA]; rfl)
        have hf' := Lib.hid hf
        clear hf hA
        go_enter Tryz.func35, Tryz.ntmps35
        go_wp2_with fail
        go_at_call 36
        refine (c1 _).mono ?_
        rintro e w1 ⟨rfl, rfl⟩
        go_wp2_with fail
        go_at_call 36
        refine (c2 _).mono ?_
        rintro e w1 ⟨rfl, rfl⟩
        go_wp2_with fail
        go_at_call 36
        refine (c3 _).mono ?_
        rintro e w1 ⟨rfl, rfl⟩
        go_wp2
        go_ret2
        exact ⟨hf'.out, Below.refl _ _⟩
      · -- fields
        simp only [Bool.false_eq_true, if_false, if_true] at hA
        cases hsg : signs v.data.toList with
        | none =>
          have cF := fun W => fields_bad v W (by omega) hsg
          have hfd : Va.fields v.data.toList = none := fields_iff.2 hsg
          rw [hfd] at hA
          have hf : AnewP name.data.toList v.data.toList (.returned (.tuple #[.string ⟨#[]⟩, .bool false])) := anewP_of (by rw [hA]; rfl) (by rw [hA]; rfl)
          have hf' := Lib.hid hf
          clear hf hA hsg hfd
          go_enter Tryz.func35, Tryz.ntmps35
          go_wp2_with fail
          go_at_call 36
          refine (c1 _).mono ?_
          rintro e w1 ⟨rfl, rfl⟩
          go_wp2_with fail
          go_at_call 36
          refine (c2 _).mono ?_
          rintro e w1 ⟨rfl, rfl⟩
          go_wp2_with fail
          go_at_call 36
          refine (c3 _).mono ?_
          rintro e w1 ⟨rfl, rfl⟩
          go_wp2_with fail
          go_at_call 61
          refine (cF _).mono ?_
          rintro e w2 ⟨rfl, hb2⟩
          go_wp2
          refine wp_loop_rounds 1 ?_
          rw [rounds_succ]
          go_wp2
          go_ret2
          exact ⟨hf'.out, hb2⟩
        | some l =>
          have cF := fun W => refFields_any v l W (by omega) hsg
          have hfd : Va.fields v.data.toList = some (fldS l) := by unfold Va.fields; rw [hsg]; rfl
          rw [hfd] at hA
          have hll := signs_len _ _ l (Nat.le_refl _) hsg
          rw [← Lib.size_eq] at hll
          have hpf := putF_fldS l
          simp only [Option.getD_some, Option.isSome_some, Bool.true_and] at hA
          obtain ⟨fs, hfs⟩ : ∃ fs, fldS l = fs := ⟨_, rfl⟩
          rw [hfs] at hA hpf cF
          have hjl : ∀ k, (mt putL fs k).length ≤ k := fun k => mt_len _ _ _
          have hpl : ∀ k f, fs[k]? = some f → (putL f).length ≤ (putF fs).length := fun k f hf => jn_mem_le 59 putL fs k f hf
          have hle : ∀ k, (jn 59 (mt putL fs k)).length ≤ (putF fs).length := fun k => jn_take_le 59 putL fs k
          have hnx : ∀ k f, fs[k]? = some f → (if k = 0 then [] else jn 59 (mt putL fs k) ++ [59]) ++ putL f = jn 59 (mt putL fs (k + 1)) := fun k f hf => (jn_take 59 putL fs k f hf).symm
          have hend : jn 59 (mt putL fs fs.length) = putF fs := by unfold Va.mt; rw [List.take_length]; rfl
          have hfin : ∀ x : ByteArray, x.data.toList = putF fs → ∀ k : Bool, k = (!decide (name.data.toList = [78]) || decide (fs.length = 5)) → AnewP name.data.toList v.data.toList (.returned (.tuple #[.string x, .bool k])) := fun x hx k hk => anewP_of (by rw [hA]; exact hx) (by rw [hA, hk])
          have hfin' := Lib.hid hfin
          have hpl' := Lib.hid hpl
          have hle' := Lib.hid hle
          have hnx' := Lib.hid hnx
          clear hA hsg hfd hfs hfin hpl hle hnx hjl
          go_enter Tryz.func35, Tryz.ntmps35
          go_wp2_with fail
          go_at_call 36
          refine (c1 _).mono ?_
          rintro e w1 ⟨rfl, rfl⟩
          go_wp2_with fail
          go_at_call 36
          refine (c2 _).mono ?_
          rintro e w1 ⟨rfl, rfl⟩
          go_wp2_with fail
          go_at_call 36
          refine (c3 _).mono ?_
          rintro e w1 ⟨rfl, rfl⟩
          go_wp2_with fail
          go_at_call 61
          refine (cF _).mono ?_
          rintro e w2 ⟨⟨v2, rfl, ho⟩, hb2⟩
          obtain ⟨A, b, off, c, rfl, a1, a2, a3, a4⟩ := LOwn.at ho
          obtain ⟨n, hn⟩ : ∃ n, fs.length = n := ⟨_, rfl⟩
          rw [hn] at a1 a3 hend ⊢
          unfold maxLen at a2
          have hn' := Lib.hid hn
          have a3' := Lib.hid a3
          have a4' := Lib.hid a4
          have hend' := Lib.hid hend
          clear ho cF hn a3 a4 hend c1 c2 c3
          go_wp2
          go_loopw [12, 47] (fun s12 s47 wr => ∃ (k : Nat) (out : ByteArray), s12 = .string out ∧ s47 = .int .i64 (k : Int) ∧ k ≤ n ∧ out.data.toList = jn 59 (mt putL fs k) ∧ w2 = wr) (fun s12 s47 wr => n - (RowKit.intOf s47).toNat)
          case atStart => exact ⟨0, _, rfl, rfl, Nat.zero_le _, rfl, rfl⟩
          case round =>
            obtain ⟨k, out, rfl, rfl, hk, hout, rfl⟩ := hrel
            have hos : out.size ≤ 1073741824 := by rw [Lib.size_eq, hout]; have := hle'.out k; omega
            by_cases hlt : k < n
            · have hl : fs[k]? = some (fs[k]'(by have := hn'.out; omega)) := List.getElem?_eq_getElem _
              obtain ⟨f, hfe⟩ : ∃ f, fs[k]'(by have := hn'.out; omega) = f := ⟨_, rfl⟩
              rw [hfe] at hl
              obtain ⟨rfl, hg⟩ := a3'.out (by omega)
              obtain ⟨u, hu, hsu⟩ := a4'.out k f hl
              have hpf2 := hpl'.out k f hl
              have cR := refPutList_any f u w2 hsu (by omega)
              obtain ⟨ua, uc, rfl⟩ : ∃ ua uc, u = .slice ua f.length uc := by obtain ⟨A, _, _, c, h, _⟩ := hsu; exact ⟨A, c, h⟩
              obtain ⟨fl, hfl⟩ : ∃ fl, f.length = fl := ⟨_, rfl⟩
              rw [hfl] at hu cR
              have hnx := hnx'.out k f hl
              obtain ⟨x, hx⟩ : ∃ x : ByteArray, x.data.toList = putL f := ⟨⟨(putL f).toArray⟩, by simp⟩
              have hxs : x.size ≤ 1073741824 := by rw [Lib.size_eq, hx]; omega
              have hx' := Lib.hid hx
              clear hfe hl hsu hpf2 hfl
              by_cases h0 : k = 0
              · rw [if_pos h0] at hnx
                have hk0 : k ≤ 0 := by omega
                have ho0 : out.data.toList = [] := by rw [hout, h0]; rfl
                obtain ⟨q, hq⟩ : ∃ q, out ++ x = q := ⟨_, rfl⟩
                have m1 : ¬ 9223372036854775807 < out.size + x.size := by omega
                have hqd : q.data.toList = jn 59 (mt putL fs (k + 1)) := by rw [cat_data _ _ _ hq, ho0, hx, hnx]
                have hqd' := Lib.hid hqd
                clear h0 hnx ho0 hqd hout hx
                go_wp2_with fail
                go_at_call 60
                refine cR.mono ?_
                rintro e w3 ⟨⟨y, hy, rfl⟩, rfl⟩
                obtain rfl := data_eq (hy.trans hx'.out.symm)
                clear hy cR
                go_wp2
                go_roundw
                case rel => exact ⟨k + 1, q, rfl, by go_num, by omega, hqd'.out, by trivial⟩
                case measure => simp [RowKit.intOf]; omega
              · rw [if_neg h0] at hnx
                have hk0 : 0 < k := by omega
                obtain ⟨y1, hy1⟩ : ∃ y, out ++ (⟨#[59]⟩ : ByteArray) = y := ⟨_, rfl⟩
                have hy1s := cat_size _ _ _ hy1
                rw [show (⟨#[59]⟩ : ByteArray).size = 1 from rfl] at hy1s
                have m0 : ¬ 9223372036854775807 < out.size + 1 := by omega
                obtain ⟨q, hq⟩ : ∃ q, y1 ++ x = q := ⟨_, rfl⟩
                have m1 : ¬ 9223372036854775807 < y1.size + x.size := by omega
                have hqd : q.data.toList = jn 59 (mt putL fs (k + 1)) := by rw [cat_data _ _ _ hq, cat_data _ _ _ hy1, hout, hx, ← hnx]
                have hqd' := Lib.hid hqd
                clear h0 hnx hqd hout hx hy1s
                go_wp2_with fail
                go_at_call 60
                refine cR.mono ?_
                rintro e w3 ⟨⟨y, hy, rfl⟩, rfl⟩
                obtain rfl := data_eq (hy.trans hx'.out.symm)
                clear hy cR
                go_wp2
                go_roundw
                case rel => exact ⟨k + 1, q, rfl, by go_num, by omega, hqd'.out, by trivial⟩
                case measure => simp [RowKit.intOf]; omega
            · obtain rfl : k = n := by omega
              rw [hend'.out] at hout
              by_cases hN : name = ⟨#[78]⟩
              · subst hN
                by_cases h5 : k = 5
                · have hf := Lib.hid (hfin'.out out hout true (by rw [hn'.out, h5]; rfl))
                  have d5 : ((k : Int) == 5) = true := beq_iff_eq.2 (by omega)
                  clear hout h5
                  go_wp2
                  go_ret2
                  exact ⟨hf.out, hb2⟩
                · have hf := Lib.hid (hfin'.out out hout false (by rw [hn'.out, decide_eq_false h5]; rfl))
                  have d5 : ((k : Int) == 5) = false := beq_eq_false_iff_ne.2 (by omega)
                  clear hout h5
                  go_wp2
                  go_ret2
                  exact ⟨hf.out, hb2⟩
              · have hN2 : name.data.toList ≠ [78] := fun e => hN (by rw [← Lib.mk_data name, e])
                have hf := Lib.hid (hfin'.out out hout true (by rw [decide_eq_false hN2]; rfl))
                have d6 : ¬ name.toList = [78] := by rw [Lib.toList_data]; exact hN2
                clear hout hN hN2
                go_wp2
                go_ret2
                exact ⟨hf.out, hb2⟩
    · -- a list
      simp only [Bool.false_eq_true, if_false, if_true] at hA
      cases hsg : signs v.data.toList with
      | none =>
        have cF := fun W => list_bad v W (by omega) hsg
        have hfd : list v.data.toList = none := list_iff.2 hsg
        rw [hfd] at hA
        have hf : ∀ x : ByteArray, x.data.toList = putL [] → AnewP name.data.toList v.data.toList (.returned (.tuple #[.string x, .bool false])) := fun x hx => anewP_of (by rw [hA]; exact hx) (by rw [hA]; rfl)
        have hf' := Lib.hid hf
        clear hf hA hsg hfd
        have cR := fun W => refPutList_any [] (.slice none 0 0) W (rowAt_nil _ _) (by simp [putL, jn])
        go_enter Tryz.func35, Tryz.ntmps35
        go_wp2_with fail
        go_at_call 36
        refine (c1 _).mono ?_
        rintro e w1 ⟨rfl, rfl⟩
        go_wp2_with fail
        go_at_call 36
        refine (c2 _).mono ?_
        rintro e w1 ⟨rfl, rfl⟩
        go_wp2_with fail
        go_at_call 59
        refine (cF _).mono ?_
        rintro e w2 ⟨rfl, hb2⟩
        go_wp2_with fail
        go_at_call 60
        refine (cR _).mono ?_
        rintro e w3 ⟨⟨x, hx, rfl⟩, rfl⟩
        have hf := Lib.hid (hf'.out x hx)
        clear hx
        go_wp2
        go_ret2
        exact ⟨hf.out, hb2⟩
      | some l =>
        have cF := fun W => refList_any v l W (by omega) hsg
        have hfd : list v.data.toList = some (listS l) := by unfold list; rw [hsg]; rfl
        rw [hfd] at hA
        have hll := signs_len _ _ l (Nat.le_refl _) hsg
        rw [← Lib.size_eq] at hll
        have hpf := putL_listS l
        have hf : ∀ x : ByteArray, x.data.toList = putL (listS l) → AnewP name.data.toList v.data.toList (.returned (.tuple #[.string x, .bool true])) := fun x hx => anewP_of (by rw [hA]; exact hx) (by rw [hA]; rfl)
        have hf' := Lib.hid hf
        clear hf hA hsg hfd
        go_enter Tryz.func35, Tryz.ntmps35
        go_wp2_with fail
        go_at_call 36
        refine (c1 _).mono ?_
        rintro e w1 ⟨rfl, rfl⟩
        go_wp2_with fail
        go_at_call 36
        refine (c2 _).mono ?_
        rintro e w1 ⟨rfl, rfl⟩
        go_wp2_with fail
        go_at_call 59
        refine (cF _).mono ?_
        rintro e w2 ⟨⟨v2, rfl, ho⟩, hb2⟩
        have cR := refPutList_any (listS l) v2 w2 ho.at (by omega)
        obtain ⟨ao, c, rfl⟩ := ownsRow_form ho
        obtain ⟨ln, hln⟩ : ∃ ln, (listS l).length = ln := ⟨_, rfl⟩
        rw [hln] at cR ⊢
        clear ho hln cF
        go_wp2_with fail
        go_at_call 60
        refine cR.mono ?_
        rintro e w3 ⟨⟨x, hx, rfl⟩, rfl⟩
        have hf := Lib.hid (hf'.out x hx)
        clear hx cR
        go_wp2
        go_ret2
        exact ⟨hf.out, hb2⟩
  · -- a text
    simp only [if_true] at hA
    cases hsg : signs v.data.toList with
    | none =>
      have cF := fun W => signs_bad v W (by omega) hsg
      have hfd : text v.data.toList = none := text_iff.2 hsg
      rw [hfd] at hA
      have hf : ∀ x : ByteArray, x.data.toList = put [] → AnewP name.data.toList v.data.toList (.returned (.tuple #[.string x, .bool false])) := fun x hx => anewP_of (by rw [hA]; exact hx) (by rw [hA]; rfl)
      have hf' := Lib.hid hf
      clear hf hA hsg hfd
      have cP := fun W => refPlain_any (.slice none 0 0) [] W (sgs_nil W) (by simp)
      go_enter Tryz.func35, Tryz.ntmps35
      go_wp2_with fail
      go_at_call 36
      refine (c1 _).mono ?_
      rintro e w1 ⟨rfl, rfl⟩
      go_wp2_with fail
      go_at_call 56
      refine (cF _).mono ?_
      rintro e w2 ⟨rfl, hb2⟩
      go_wp2_with fail
      go_at_call 58
      refine (cP _).mono ?_
      rintro e w3 ⟨⟨x, hx, rfl⟩, hb3⟩
      have cQ := refPut_any x w3 (by rw [Lib.size_eq, hx]; simp [plain])
      rw [hx] at cQ
      have hB3 := below_then hb2 hb3
      clear hx hb2 hb3 cP cF
      go_wp2_with fail
      go_at_call 57
      refine cQ.mono ?_
      rintro e w4 ⟨⟨y, hy, rfl⟩, rfl⟩
      have hf := Lib.hid (hf'.out y hy)
      clear hy cQ
      go_wp2
      go_ret2
      exact ⟨hf.out, hB3⟩
    | some l =>
      have cF := fun W => signs_is v l W (by omega) hsg
      have hfd : text v.data.toList = some (plain l) := by unfold text; rw [hsg]; rfl
      rw [hfd] at hA
      have hll := signs_len _ _ l (Nat.le_refl _) hsg
      rw [← Lib.size_eq] at hll
      have hf : ∀ x : ByteArray, x.data.toList = put (plain l) → AnewP name.data.toList v.data.toList (.returned (.tuple #[.string x, .bool true])) := fun x hx => anewP_of (by rw [hA]; exact hx) (by rw [hA]; rfl)
      have hf' := Lib.hid hf
      clear hf hA hsg hfd
      go_enter Tryz.func35, Tryz.ntmps35
      go_wp2_with fail
      go_at_call 36
      refine (c1 _).mono ?_
      rintro e w1 ⟨rfl, rfl⟩
      go_wp2_with fail
      go_at_call 56
      refine (cF _).mono ?_
      rintro e w2 ⟨⟨v2, rfl, ho⟩, hb2⟩
      have cP := refPlain_any v2 l w2 ho.at (by omega)
      obtain ⟨ao, c, rfl⟩ := ownsRow_form ho
      obtain ⟨ln, hln⟩ : ∃ ln, l.length = ln := ⟨_, rfl⟩
      rw [hln] at cP hll ⊢
      have hln' := Lib.hid hln
      clear ho hln cF
      go_wp2_with fail
      go_at_call 58
      refine cP.mono ?_
      rintro e w3 ⟨⟨x, hx, rfl⟩, hb3⟩
      have cQ := refPut_any x w3 (by rw [Lib.size_eq, hx, plain_len, hln'.out]; omega)
      rw [hx] at cQ
      have hB3 := below_then hb2 hb3
      clear hx hb2 hb3 cP
      go_wp2_with fail
      go_at_call 57
      refine cQ.mono ?_
      rintro e w4 ⟨⟨y, hy, rfl⟩, rfl⟩
      have hf := Lib.hid (hf'.out y hy)
      clear hy cQ
      go_wp2
      go_ret2
      exact ⟨hf.out, hB3⟩
end Go.Proofs.YthnnpnlapjlnoaaGreatDoor.Ca

/-
  THE WALK OF card.anew.
-/
set_option linter.unusedVariables false
namespace Go.Proofs.YthnnpnlapjlnoaaGreatDoor.Ca
open Go.Lib Go.RowKit Bu Va

/-- what card.anew answers -/
def AnewQ (n v : Row) (e : Ending) : Prop := (anewV n v = none ∧ ∃ x : ByteArray, e = .returned (.tuple #[.string x, .int .i64 31])) ∨ ∃ x : ByteArray, anewV n v = some x.data.toList ∧ e = .returned (.tuple #[.string x, .int .i64 0])
theorem notName {name : ByteArray} {c : List UInt8} (h : ¬ name = ⟨c.toArray⟩) : ¬ name.toList = c := fun e => h (by rw [← Lib.mk_data name, ← Lib.toList_data, e])
theorem notName' {name : ByteArray} {c : List UInt8} (h : ¬ name = ⟨c.toArray⟩) : (name.toList == c) = false := beq_eq_false_iff_ne.2 (notName h)
theorem notRow {name : ByteArray} {c : List UInt8} (h : ¬ name = ⟨c.toArray⟩) : name.data.toList ≠ c := fun e => h (by rw [← Lib.mk_data name, e])
theorem strsNil (w : World) : StrsAt w (.slice none 0 0) [] := rowAt_nil _ _
theorem listsNil (w : World) : ListsAt w (.slice none 0 0) [] := rowAt_nil _ _

set_option maxHeartbeats 8000000 in
set_option maxRecDepth 100000 in
theorem cAnew_any (name v : ByteArray) (w : World) (hs : v.size ≤ 268435456) :
    Calls Tryz.prog 78 #[.string name, .string v] w fun e w' => AnewQ name.data.toList v.data.toList e ∧ Below w.heap.size w w' := by
  by_cases f1 : name = ⟨#[70, 78]⟩
  · subst f1
    cases htx : text v.data.toList with
    | none =>
      have c1 := fun W => text_no v W (by omega) htx
      have c2 := fun W => putText_any ⟨#[]⟩ W (by decide)
      have HF := Lib.hid (fun x : ByteArray => (Or.inl ⟨by rw [anewV_text (by decide), htx]; rfl, x, rfl⟩ : AnewQ (⟨#[70, 78]⟩ : ByteArray).data.toList v.data.toList (.returned (.tuple #[.string x, .int .i64 31]))))
      clear htx
      go_enter Tryz.func78, Tryz.ntmps78
      go_wp2_with fail
      go_at_call 80
      refine (c1 _).mono ?_
      rintro e w1 ⟨rfl, hb1⟩
      go_wp2_with fail
      go_at_call 108
      refine (c2 _).mono ?_
      rintro e w2 ⟨⟨x, _, rfl⟩, hb2⟩
      go_wp2
      go_ret2
      exact ⟨HF.out x, below_then hb1 hb2⟩
    | some t =>
      obtain ⟨y, rfl⟩ : ∃ y : ByteArray, t = y.data.toList := ⟨⟨t.toArray⟩, by simp⟩
      have hyl := text_len htx
      rw [← Lib.size_eq, ← Lib.size_eq] at hyl
      have c1 := fun W => text_is v y W (by omega) htx
      have c2 := fun W => putText_any y W (by have := put_len y.data.toList; rw [← Lib.size_eq] at this; omega)
      have HF := Lib.hid (fun (x : ByteArray) (hx : x.data.toList = put y.data.toList) => (Or.inr ⟨x, by rw [anewV_text (by decide), htx, hx]; rfl, rfl⟩ : AnewQ (⟨#[70, 78]⟩ : ByteArray).data.toList v.data.toList (.returned (.tuple #[.string x, .int .i64 0]))))
      clear htx hyl
      go_enter Tryz.func78, Tryz.ntmps78
      go_wp2_with fail
      go_at_call 80
      refine (c1 _).mono ?_
      rintro e w1 ⟨rfl, hb1⟩
      go_wp2_with fail
      go_at_call 108
      refine (c2 _).mono ?_
      rintro e w2 ⟨⟨x, hx, rfl⟩, hb2⟩
      have HF2 := Lib.hid (HF.out x hx)
      clear hx
      go_wp2
      go_ret2
      exact ⟨HF2.out, below_then hb1 hb2⟩
  have g1 := notName (c := [70, 78]) f1
  have e1 := notName' (c := [70, 78]) f1
  have r1 := notRow (c := [70, 78]) f1
  by_cases f2 : name = ⟨#[78, 79, 84, 69]⟩
  · subst f2
    cases htx : text v.data.toList with
    | none =>
      have c1 := fun W => text_no v W (by omega) htx
      have c2 := fun W => putText_any ⟨#[]⟩ W (by decide)
      have HF := Lib.hid (fun x : ByteArray => (Or.inl ⟨by rw [anewV_text (by decide), htx]; rfl, x, rfl⟩ : AnewQ (⟨#[78, 79, 84, 69]⟩ : ByteArray).data.toList v.data.toList (.returned (.tuple #[.string x, .int .i64 31]))))
      clear htx
      go_enter Tryz.func78, Tryz.ntmps78
      go_wp2_with fail
      go_at_call 80
      refine (c1 _).mono ?_
      rintro e w1 ⟨rfl, hb1⟩
      go_wp2_with fail
      go_at_call 108
      refine (c2 _).mono ?_
      rintro e w2 ⟨⟨x, _, rfl⟩, hb2⟩
      go_wp2
      go_ret2
      exact ⟨HF.out x, below_then hb1 hb2⟩
    | some t =>
      obtain ⟨y, rfl⟩ : ∃ y : ByteArray, t = y.data.toList := ⟨⟨t.toArray⟩, by simp⟩
      have hyl := text_len htx
      rw [← Lib.size_eq, ← Lib.size_eq] at hyl
      have c1 := fun W => text_is v y W (by omega) htx
      have c2 := fun W => putText_any y W (by have := put_len y.data.toList; rw [← Lib.size_eq] at this; omega)
      have HF := Lib.hid (fun (x : ByteArray) (hx : x.data.toList = put y.data.toList) => (Or.inr ⟨x, by rw [anewV_text (by decide), htx, hx]; rfl, rfl⟩ : AnewQ (⟨#[78, 79, 84, 69]⟩ : ByteArray).data.toList v.data.toList (.returned (.tuple #[.string x, .int .i64 0]))))
      clear htx hyl
      go_enter Tryz.func78, Tryz.ntmps78
      go_wp2_with fail
      go_at_call 80
      refine (c1 _).mono ?_
      rintro e w1 ⟨rfl, hb1⟩
      go_wp2_with fail
      go_at_call 108
      refine (c2 _).mono ?_
      rintro e w2 ⟨⟨x, hx, rfl⟩, hb2⟩
      have HF2 := Lib.hid (HF.out x hx)
      clear hx
      go_wp2
      go_ret2
      exact ⟨HF2.out, below_then hb1 hb2⟩
  have g2 := notName (c := [78, 79, 84, 69]) f2
  have e2 := notName' (c := [78, 79, 84, 69]) f2
  have r2 := notRow (c := [78, 79, 84, 69]) f2
  by_cases f3 : name = ⟨#[85, 73, 68]⟩
  · subst f3
    cases htx : text v.data.toList with
    | none =>
      have c1 := fun W => text_no v W (by omega) htx
      have c2 := fun W => putText_any ⟨#[]⟩ W (by decide)
      have HF := Lib.hid (fun x : ByteArray => (Or.inl ⟨by rw [anewV_text (by decide), htx]; rfl, x, rfl⟩ : AnewQ (⟨#[85, 73, 68]⟩ : ByteArray).data.toList v.data.toList (.returned (.tuple #[.string x, .int .i64 31]))))
      clear htx
      go_enter Tryz.func78, Tryz.ntmps78
      go_wp2_with fail
      go_at_call 80
      refine (c1 _).mono ?_
      rintro e w1 ⟨rfl, hb1⟩
      go_wp2_with fail
      go_at_call 108
      refine (c2 _).mono ?_
      rintro e w2 ⟨⟨x, _, rfl⟩, hb2⟩
      go_wp2
      go_ret2
      exact ⟨HF.out x, below_then hb1 hb2⟩
    | some t =>
      obtain ⟨y, rfl⟩ : ∃ y : ByteArray, t = y.data.toList := ⟨⟨t.toArray⟩, by simp⟩
      have hyl := text_len htx
      rw [← Lib.size_eq, ← Lib.size_eq] at hyl
      have c1 := fun W => text_is v y W (by omega) htx
      have c2 := fun W => putText_any y W (by have := put_len y.data.toList; rw [← Lib.size_eq] at this; omega)
      have HF := Lib.hid (fun (x : ByteArray) (hx : x.data.toList = put y.data.toList) => (Or.inr ⟨x, by rw [anewV_text (by decide), htx, hx]; rfl, rfl⟩ : AnewQ (⟨#[85, 73, 68]⟩ : ByteArray).data.toList v.data.toList (.returned (.tuple #[.string x, .int .i64 0]))))
      clear htx hyl
      go_enter Tryz.func78, Tryz.ntmps78
      go_wp2_with fail
      go_at_call 80
      refine (c1 _).mono ?_
      rintro e w1 ⟨rfl, hb1⟩
      go_wp2_with fail
      go_at_call 108
      refine (c2 _).mono ?_
      rintro e w2 ⟨⟨x, hx, rfl⟩, hb2⟩
      have HF2 := Lib.hid (HF.out x hx)
      clear hx
      go_wp2
      go_ret2
      exact ⟨HF2.out, below_then hb1 hb2⟩
  have g3 := notName (c := [85, 73, 68]) f3
  have e3 := notName' (c := [85, 73, 68]) f3
  have r3 := notRow (c := [85, 73, 68]) f3
  by_cases f4 : name = ⟨#[67, 65, 84, 69, 71, 79, 82, 73, 69, 83]⟩
  · subst f4
    cases hsg : signs v.data.toList with
    | none =>
      have htx : list v.data.toList = none := list_iff.2 hsg
      have c1 := fun W => list_no v W (by omega) htx
      have c2 := fun W => putList_any [] (.slice none 0 0) W (strsNil W) (by decide)
      have HF := Lib.hid (fun x : ByteArray => (Or.inl ⟨by rw [anewV_list (by decide), htx]; rfl, x, rfl⟩ : AnewQ (⟨#[67, 65, 84, 69, 71, 79, 82, 73, 69, 83]⟩ : ByteArray).data.toList v.data.toList (.returned (.tuple #[.string x, .int .i64 31]))))
      clear htx hsg
      go_enter Tryz.func78, Tryz.ntmps78
      go_wp2_with fail
      go_at_call 109
      refine (c1 _).mono ?_
      rintro e w1 ⟨rfl, hb1⟩
      go_wp2_with fail
      go_at_call 110
      refine (c2 _).mono ?_
      rintro e w2 ⟨⟨x, _, rfl⟩, hb2⟩
      go_wp2
      go_ret2
      exact ⟨HF.out x, below_then hb1 hb2⟩
    | some l =>
      have htx : list v.data.toList = some (listS l) := by unfold list; rw [hsg]; rfl
      have hyl := signs_len _ _ l (Nat.le_refl _) hsg
      rw [← Lib.size_eq] at hyl
      have hz := (putL_listS l)
      generalize listS l = fs at htx hz
      have c1 := fun W => list_is v fs W (by omega) htx
      have c2 := fun W u (h : StrsAt W u fs) => putList_any fs u W h (by omega)
      have HF := Lib.hid (fun (x : ByteArray) (hx : x.data.toList = putL fs) => (Or.inr ⟨x, by rw [anewV_list (by decide), htx, hx]; rfl, rfl⟩ : AnewQ (⟨#[67, 65, 84, 69, 71, 79, 82, 73, 69, 83]⟩ : ByteArray).data.toList v.data.toList (.returned (.tuple #[.string x, .int .i64 0]))))
      clear htx hyl hsg
      go_enter Tryz.func78, Tryz.ntmps78
      go_wp2_with fail
      go_at_call 109
      refine (c1 _).mono ?_
      rintro e w1 ⟨⟨u, rfl, hu⟩, hb1⟩
      have c3 := Lib.hid (c2 w1 u ((Own.at hu)))
      clear c2 hu c1
      go_wp2_with fail
      go_at_call 110
      refine c3.out.mono ?_
      rintro e w2 ⟨⟨x, hx, rfl⟩, hb2⟩
      have HF2 := Lib.hid (HF.out x hx)
      clear hx
      go_wp2
      go_ret2
      exact ⟨HF2.out, below_then hb1 hb2⟩
  have g4 := notName (c := [67, 65, 84, 69, 71, 79, 82, 73, 69, 83]) f4
  have e4 := notName' (c := [67, 65, 84, 69, 71, 79, 82, 73, 69, 83]) f4
  have r4 := notRow (c := [67, 65, 84, 69, 71, 79, 82, 73, 69, 83]) f4
  by_cases f5 : name = ⟨#[78, 73, 67, 75, 78, 65, 77, 69]⟩
  · subst f5
    cases hsg : signs v.data.toList with
    | none =>
      have htx : list v.data.toList = none := list_iff.2 hsg
      have c1 := fun W => list_no v W (by omega) htx
      have c2 := fun W => putList_any [] (.slice none 0 0) W (strsNil W) (by decide)
      have HF := Lib.hid (fun x : ByteArray => (Or.inl ⟨by rw [anewV_list (by decide), htx]; rfl, x, rfl⟩ : AnewQ (⟨#[78, 73, 67, 75, 78, 65, 77, 69]⟩ : ByteArray).data.toList v.data.toList (.returned (.tuple #[.string x, .int .i64 31]))))
      clear htx hsg
      go_enter Tryz.func78, Tryz.ntmps78
      go_wp2_with fail
      go_at_call 109
      refine (c1 _).mono ?_
      rintro e w1 ⟨rfl, hb1⟩
      go_wp2_with fail
      go_at_call 110
      refine (c2 _).mono ?_
      rintro e w2 ⟨⟨x, _, rfl⟩, hb2⟩
      go_wp2
      go_ret2
      exact ⟨HF.out x, below_then hb1 hb2⟩
    | some l =>
      have htx : list v.data.toList = some (listS l) := by unfold list; rw [hsg]; rfl
      have hyl := signs_len _ _ l (Nat.le_refl _) hsg
      rw [← Lib.size_eq] at hyl
      have hz := (putL_listS l)
      generalize listS l = fs at htx hz
      have c1 := fun W => list_is v fs W (by omega) htx
      have c2 := fun W u (h : StrsAt W u fs) => putList_any fs u W h (by omega)
      have HF := Lib.hid (fun (x : ByteArray) (hx : x.data.toList = putL fs) => (Or.inr ⟨x, by rw [anewV_list (by decide), htx, hx]; rfl, rfl⟩ : AnewQ (⟨#[78, 73, 67, 75, 78, 65, 77, 69]⟩ : ByteArray).data.toList v.data.toList (.returned (.tuple #[.string x, .int .i64 0]))))
      clear htx hyl hsg
      go_enter Tryz.func78, Tryz.ntmps78
      go_wp2_with fail
      go_at_call 109
      refine (c1 _).mono ?_
      rintro e w1 ⟨⟨u, rfl, hu⟩, hb1⟩
      have c3 := Lib.hid (c2 w1 u ((Own.at hu)))
      clear c2 hu c1
      go_wp2_with fail
      go_at_call 110
      refine c3.out.mono ?_
      rintro e w2 ⟨⟨x, hx, rfl⟩, hb2⟩
      have HF2 := Lib.hid (HF.out x hx)
      clear hx
      go_wp2
      go_ret2
      exact ⟨HF2.out, below_then hb1 hb2⟩
  have g5 := notName (c := [78, 73, 67, 75, 78, 65, 77, 69]) f5
  have e5 := notName' (c := [78, 73, 67, 75, 78, 65, 77, 69]) f5
  have r5 := notRow (c := [78, 73, 67, 75, 78, 65, 77, 69]) f5
  by_cases f6 : name = ⟨#[78]⟩
  · subst f6
    cases hsg : signs v.data.toList with
    | none =>
      have htx : Va.fields v.data.toList = none := fields_iff.2 hsg
      have c1 := fun W => fields_no v W (by omega) htx
      have c2 := fun W => putFields_any [] (.slice none 0 0) W (listsNil W) (by decide)
      have HF := Lib.hid (fun x : ByteArray => (Or.inl ⟨by rw [anewV_fields (by decide), htx]; rfl, x, rfl⟩ : AnewQ (⟨#[78]⟩ : ByteArray).data.toList v.data.toList (.returned (.tuple #[.string x, .int .i64 31]))))
      clear htx hsg
      go_enter Tryz.func78, Tryz.ntmps78
      go_wp2_with fail
      go_at_call 79
      refine (c1 _).mono ?_
      rintro e w1 ⟨rfl, hb1⟩
      go_wp2_with fail
      go_at_call 111
      refine (c2 _).mono ?_
      rintro e w2 ⟨⟨x, _, rfl⟩, hb2⟩
      go_wp2
      go_ret2
      exact ⟨HF.out x, below_then hb1 hb2⟩
    | some l =>
      have htx : Va.fields v.data.toList = some (fldS l) := by unfold Va.fields; rw [hsg]; rfl
      have hyl := signs_len _ _ l (Nat.le_refl _) hsg
      rw [← Lib.size_eq] at hyl
      have hz := (putF_fldS l)
      generalize fldS l = fs at htx hz
      have c1 := fun W => fields_is v fs W (by omega) htx
      have c2 := fun W u (h : ListsAt W u fs) => putFields_any fs u W h (by omega)
      have HF := Lib.hid (fun (x : ByteArray) (hx : x.data.toList = putF fs) => (Or.inr ⟨x, by rw [anewV_fields (by decide), htx, hx]; rfl, rfl⟩ : AnewQ (⟨#[78]⟩ : ByteArray).data.toList v.data.toList (.returned (.tuple #[.string x, .int .i64 0]))))
      clear htx hyl hsg
      go_enter Tryz.func78, Tryz.ntmps78
      go_wp2_with fail
      go_at_call 79
      refine (c1 _).mono ?_
      rintro e w1 ⟨⟨u, rfl, hu⟩, hb1⟩
      have c3 := Lib.hid (c2 w1 u ((LOwn.at hu)))
      clear c2 hu c1
      go_wp2_with fail
      go_at_call 111
      refine c3.out.mono ?_
      rintro e w2 ⟨⟨x, hx, rfl⟩, hb2⟩
      have HF2 := Lib.hid (HF.out x hx)
      clear hx
      go_wp2
      go_ret2
      exact ⟨HF2.out, below_then hb1 hb2⟩
  have g6 := notName (c := [78]) f6
  have e6 := notName' (c := [78]) f6
  have r6 := notRow (c := [78]) f6
  by_cases f7 : name = ⟨#[79, 82, 71]⟩
  · subst f7
    cases hsg : signs v.data.toList with
    | none =>
      have htx : Va.fields v.data.toList = none := fields_iff.2 hsg
      have c1 := fun W => fields_no v W (by omega) htx
      have c2 := fun W => putFields_any [] (.slice none 0 0) W (listsNil W) (by decide)
      have HF := Lib.hid (fun x : ByteArray => (Or.inl ⟨by rw [anewV_fields (by decide), htx]; rfl, x, rfl⟩ : AnewQ (⟨#[79, 82, 71]⟩ : ByteArray).data.toList v.data.toList (.returned (.tuple #[.string x, .int .i64 31]))))
      clear htx hsg
      go_enter Tryz.func78, Tryz.ntmps78
      go_wp2_with fail
      go_at_call 79
      refine (c1 _).mono ?_
      rintro e w1 ⟨rfl, hb1⟩
      go_wp2_with fail
      go_at_call 111
      refine (c2 _).mono ?_
      rintro e w2 ⟨⟨x, _, rfl⟩, hb2⟩
      go_wp2
      go_ret2
      exact ⟨HF.out x, below_then hb1 hb2⟩
    | some l =>
      have htx : Va.fields v.data.toList = some (fldS l) := by unfold Va.fields; rw [hsg]; rfl
      have hyl := signs_len _ _ l (Nat.le_refl _) hsg
      rw [← Lib.size_eq] at hyl
      have hz := (putF_fldS l)
      generalize fldS l = fs at htx hz
      have c1 := fun W => fields_is v fs W (by omega) htx
      have c2 := fun W u (h : ListsAt W u fs) => putFields_any fs u W h (by omega)
      have HF := Lib.hid (fun (x : ByteArray) (hx : x.data.toList = putF fs) => (Or.inr ⟨x, by rw [anewV_fields (by decide), htx, hx]; rfl, rfl⟩ : AnewQ (⟨#[79, 82, 71]⟩ : ByteArray).data.toList v.data.toList (.returned (.tuple #[.string x, .int .i64 0]))))
      clear htx hyl hsg
      go_enter Tryz.func78, Tryz.ntmps78
      go_wp2_with fail
      go_at_call 79
      refine (c1 _).mono ?_
      rintro e w1 ⟨⟨u, rfl, hu⟩, hb1⟩
      have c3 := Lib.hid (c2 w1 u ((LOwn.at hu)))
      clear c2 hu c1
      go_wp2_with fail
      go_at_call 111
      refine c3.out.mono ?_
      rintro e w2 ⟨⟨x, hx, rfl⟩, hb2⟩
      have HF2 := Lib.hid (HF.out x hx)
      clear hx
      go_wp2
      go_ret2
      exact ⟨HF2.out, below_then hb1 hb2⟩
  have g7 := notName (c := [79, 82, 71]) f7
  have e7 := notName' (c := [79, 82, 71]) f7
  have r7 := notRow (c := [79, 82, 71]) f7
  by_cases f8 : name = ⟨#[65, 68, 82]⟩
  · subst f8
    cases hsg : signs v.data.toList with
    | none =>
      have htx : Va.fields v.data.toList = none := fields_iff.2 hsg
      have c1 := fun W => fields_no v W (by omega) htx
      have c2 := fun W => putFields_any [] (.slice none 0 0) W (listsNil W) (by decide)
      have HF := Lib.hid (fun x : ByteArray => (Or.inl ⟨by rw [anewV_fields (by decide), htx]; rfl, x, rfl⟩ : AnewQ (⟨#[65, 68, 82]⟩ : ByteArray).data.toList v.data.toList (.returned (.tuple #[.string x, .int .i64 31]))))
      clear htx hsg
      go_enter Tryz.func78, Tryz.ntmps78
      go_wp2_with fail
      go_at_call 79
      refine (c1 _).mono ?_
      rintro e w1 ⟨rfl, hb1⟩
      go_wp2_with fail
      go_at_call 111
      refine (c2 _).mono ?_
      rintro e w2 ⟨⟨x, _, rfl⟩, hb2⟩
      go_wp2
      go_ret2
      exact ⟨HF.out x, below_then hb1 hb2⟩
    | some l =>
      have htx : Va.fields v.data.toList = some (fldS l) := by unfold Va.fields; rw [hsg]; rfl
      have hyl := signs_len _ _ l (Nat.le_refl _) hsg
      rw [← Lib.size_eq] at hyl
      have hz := (putF_fldS l)
      generalize fldS l = fs at htx hz
      have c1 := fun W => fields_is v fs W (by omega) htx
      have c2 := fun W u (h : ListsAt W u fs) => putFields_any fs u W h (by omega)
      have HF := Lib.hid (fun (x : ByteArray) (hx : x.data.toList = putF fs) => (Or.inr ⟨x, by rw [anewV_fields (by decide), htx, hx]; rfl, rfl⟩ : AnewQ (⟨#[65, 68, 82]⟩ : ByteArray).data.toList v.data.toList (.returned (.tuple #[.string x, .int .i64 0]))))
      clear htx hyl hsg
      go_enter Tryz.func78, Tryz.ntmps78
      go_wp2_with fail
      go_at_call 79
      refine (c1 _).mono ?_
      rintro e w1 ⟨⟨u, rfl, hu⟩, hb1⟩
      have c3 := Lib.hid (c2 w1 u ((LOwn.at hu)))
      clear c2 hu c1
      go_wp2_with fail
      go_at_call 111
      refine c3.out.mono ?_
      rintro e w2 ⟨⟨x, hx, rfl⟩, hb2⟩
      have HF2 := Lib.hid (HF.out x hx)
      clear hx
      go_wp2
      go_ret2
      exact ⟨HF2.out, below_then hb1 hb2⟩
  have g8 := notName (c := [65, 68, 82]) f8
  have e8 := notName' (c := [65, 68, 82]) f8
  have r8 := notRow (c := [65, 68, 82]) f8
  have HF := Lib.hid ((Or.inr ⟨v, anewV_own (by rintro (h | h | h); exact r1 h; exact r2 h; exact r3 h) (by rintro (h | h); exact r4 h; exact r5 h) (by rintro (h | h | h); exact r6 h; exact r7 h; exact r8 h) _, rfl⟩) : AnewQ name.data.toList v.data.toList (.returned (.tuple #[.string v, .int .i64 0])))
  clear r1 r2 r3 r4 r5 r6 r7 r8 f1 f2 f3 f4 f5 f6 f7 f8
  go_enter Tryz.func78, Tryz.ntmps78
  go_wp2
  go_ret2
  exact ⟨HF.out, Below.refl _ _⟩
end Go.Proofs.YthnnpnlapjlnoaaGreatDoor.Ca
