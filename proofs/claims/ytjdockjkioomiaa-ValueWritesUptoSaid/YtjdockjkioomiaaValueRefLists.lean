/-
  WALKS OF THE REFERENCE's List AND Fields, OF A VALUE THAT IS READ.
-/
import Derived.Test.YtjdockjkioomiaaValueRefParts
set_option linter.unusedVariables false
namespace Go.Proofs.Ytjdockjkioomiaa.Va
open Go.Lib Go.RowKit Bu

theorem signs_is (s : ByteArray) (l : List Sg) (w : World) (hs : s.size ≤ 1099511627776) (h : signs s.data.toList = some l) :
    Calls Try.prog 9 #[.string s] w fun e w' => (∃ v, e = .returned (.tuple #[v, .bool true]) ∧ SOwn w.heap.size v l w') ∧ Below w.heap.size w w' :=
  (refSigns_any s w hs).mono fun e w' ⟨h1, h2⟩ => ⟨by
    rcases h1 with ⟨h3, _⟩ | ⟨v, m, h3, rfl, h4⟩
    · rw [h] at h3; cases h3
    · rw [h] at h3; obtain rfl := Option.some.inj h3; exact ⟨v, rfl, h4⟩, h2⟩
/-- the first k of the answers (plain, not for simp) -/
def mt {α β : Type} (f : α → β) (xs : List α) (k : Nat) : List β := (xs.take k).map f
theorem mt_len {α β : Type} (f : α → β) (xs : List α) (k : Nat) : (mt f xs k).length ≤ k := by unfold mt; rw [List.length_map, List.length_take]; omega
theorem map_take_next {α β : Type} (f : α → β) (xs : List α) (k : Nat) (x : α) (h : xs[k]? = some x) : mt f xs (k + 1) = mt f xs k ++ [f x] := by
  unfold mt
  obtain ⟨hl, hv⟩ := List.getElem?_eq_some_iff.1 h
  rw [List.take_succ_eq_append_getElem hl, hv, List.map_append, List.map_singleton]
theorem parts_size {m : UInt8} {l : List Sg} {n : Nat} (h : l.length ≤ n) : (parts m l).length ≤ n + 1 := by
  have := cnt_le m l
  rw [parts_len]; omega
theorem piece_size {m : UInt8} {l p : List Sg} {k : Nat} (h : (parts m l)[k]? = some p) : p.length ≤ l.length := by
  have : ∀ (l : List Sg) (p : List Sg), p ∈ parts m l → p.length ≤ l.length := by
    intro l
    induction l with
    | nil => intro p hp; simp [parts] at hp; simp [hp]
    | cons x l ih =>
      intro p hp
      by_cases hx : x = (m, false)
      · rw [hx, parts_mark] at hp
        rcases List.mem_cons.1 hp with rfl | hp
        · simp
        · have := ih p hp; simp only [List.length_cons]; omega
      · rw [parts_own m x l hx] at hp
        cases hl : parts m l with
        | nil => exact absurd hl (parts_ne m l)
        | cons q qs =>
          rw [hl] at hp ih
          rcases List.mem_cons.1 hp with rfl | hp
          · have := ih q (by simp); simp only [List.singleton_append, List.length_cons]; omega
          · have := ih p (by simp [hp]); simp only [List.length_cons]; omega
  exact this l p (List.mem_of_getElem? h)

def LsRel (ps : List (List Sg)) (n : Nat) (w2 : World) (s6 s19 : Value) (wr : World) : Prop :=
  ∃ (k : Nat) (u : Value), u = s6 ∧ s19 = .int .i64 (k : Int) ∧ k ≤ n ∧ Own w2.heap.size s6 (mt plain ps k) wr ∧ Below w2.heap.size w2 wr

set_option maxHeartbeats 8000000 in
set_option maxRecDepth 100000 in
theorem refList_any (s : ByteArray) (l : List Sg) (w : World) (hs : s.size ≤ 549755813888) (h : signs s.data.toList = some l) :
    Calls Try.prog 13 #[.string s] w fun e w' => (∃ v, e = .returned (.tuple #[v, .bool true]) ∧ Own w.heap.size v (listS l) w') ∧ Below w.heap.size w w' := by
  have cS := fun W => signs_is s l W (by omega) h
  have hll := signs_len _ _ l (Nat.le_refl _) h
  rw [← Lib.size_eq] at hll
  clear h
  go_enter Try.func13, Try.ntmps13
  go_wp2_with fail
  go_at_call 9
  refine (cS _).mono ?_
  rintro e w1 ⟨⟨v, rfl, ho⟩, hb1⟩
  have cP := refParts_any 44 v l w1 ho.at (by omega)
  rw [show (((44 : UInt8).toNat : Nat) : Int) = 44 from rfl] at cP
  clear ho cS
  go_wp2_with fail
  go_at_call 29
  refine cP.mono ?_
  rintro e w2 ⟨⟨u, rfl, hp⟩, hb2⟩
  have hB2 := below_then hb1 hb2
  have hplen := parts_size (m := 44) (Nat.le_refl l.length)
  have hpc : ∀ (k : Nat) (p : List Sg), (parts 44 l)[k]? = some p → p.length ≤ l.length := fun k p h => piece_size h
  have hfin : listS l = mt plain (parts 44 l) (parts 44 l).length := by unfold mt; rw [List.take_length]; rfl
  obtain ⟨ps, hps⟩ : ∃ ps, parts 44 l = ps := ⟨_, rfl⟩
  rw [hps] at hp hplen hpc hfin
  obtain ⟨A, b, off, c, rfl, a1, a2, a3, a4⟩ := hp.at
  obtain ⟨n, hn⟩ : ∃ n, ps.length = n := ⟨_, rfl⟩
  rw [hn] at a1 a3 hplen hfin ⊢
  have hfin' := Lib.hid hfin
  unfold maxLen at a2
  have hn' := Lib.hid hn
  have a3' := Lib.hid a3
  have a4' := Lib.hid a4
  have hpc' := Lib.hid hpc
  clear hp hb1 hb2 cP hps hn a3 a4 hpc hfin
  go_wp2
  go_loopw [6, 19] (fun s6 s19 wr => LsRel ps n w2 s6 s19 wr) (fun s6 s19 wr => n - (RowKit.intOf s19).toNat)
  case atStart => exact ⟨0, _, rfl, rfl, Nat.zero_le _, Own.nil _ _, Below.refl _ _⟩
  case round =>
    obtain ⟨k, s6, rfl, rfl, hk, hown, hbr⟩ := hrel
    have hrs := hbr.size
    by_cases hlt : k < n
    · have hx : ps[k]? = some (ps[k]'(by have := hn'.out; omega)) := List.getElem?_eq_getElem _
      obtain ⟨x, hxe⟩ : ∃ x, ps[k]'(by have := hn'.out; omega) = x := ⟨_, rfl⟩
      rw [hxe] at hx
      obtain ⟨rfl, hg⟩ := a3'.out (by omega)
      obtain ⟨u, hu, hsx⟩ := a4'.out k x hx
      rw [← hbr.cell (p := ⟨b, off + k, none⟩) hg] at hu
      have hxl := hpc'.out k x hx
      have cN := refPlain_any u x wr (hsx.kept hbr) (by omega)
      obtain ⟨A2, b2, o2, c2, rfl, _⟩ := hsx
      obtain ⟨xn, hxn⟩ : ∃ xn, x.length = xn := ⟨_, rfl⟩
      rw [hxn] at hu cN
      have hmt := map_take_next plain ps k x hx
      have hmt' := Lib.hid hmt
      clear hxe hx hxl hxn hmt
      go_wp2_with fail
      go_at_call 15
      refine cN.mono ?_
      rintro e w3 ⟨⟨y, hy, rfl⟩, hb3⟩
      have hown3 := hown.kept hb3
      have hbr3 := below_then hbr hb3
      have hr3 := hbr3.size
      have hol : (mt plain ps k).length ≤ 1099511627776 := by have := mt_len plain ps k; omega
      have hy' := Lib.hid hy
      have hol' := Lib.hid hol
      clear hown hbr hb3 cN hy hol
      go_wp2_with (at_builtin; refine append_str (w0 := w3) y rfl _ _ rfl w2.heap.size _ _ w3.heap.size rfl rfl rfl hown3 ?c1 ?c2 ?_)
      case c1 => exact hol'.out
      case c2 => omega
      intro v' w4 hown4 hleft
      have hbr4 := hleft _ _ hbr3 (Nat.le_refl _) hr3
      rw [hy'.out, ← hmt'.out] at hown4
      clear hleft hown3
      go_wp2
      go_roundw
      case rel => exact ⟨k + 1, _, rfl, by go_num, by omega, hown4, hbr4⟩
      case measure => simp [RowKit.intOf]; omega
    · obtain rfl : k = n := by omega
      have hsz := hB2.size
      rw [← hfin'.out] at hown
      have hown2 := hown.less hsz
      clear hown
      go_wp2
      go_ret2
      exact ⟨⟨_, rfl, hown2⟩, below_then hB2 hbr⟩

def FsRel (qs : List (List Sg)) (n : Nat) (w2 : World) (s6 s22 : Value) (wr : World) : Prop :=
  ∃ (k : Nat) (u : Value), u = s6 ∧ s22 = .int .i64 (k : Int) ∧ k ≤ n ∧ LOwn w2.heap.size s6 (mt listS qs k) wr ∧ Below w2.heap.size w2 wr

set_option maxHeartbeats 8000000 in
set_option maxRecDepth 100000 in
theorem refFields_any (s : ByteArray) (l : List Sg) (w : World) (hs : s.size ≤ 549755813888) (h : signs s.data.toList = some l) :
    Calls Try.prog 14 #[.string s] w fun e w' => (∃ v, e = .returned (.tuple #[v, .bool true]) ∧ LOwn w.heap.size v (fldS l) w') ∧ Below w.heap.size w w' := by
  have cS := fun W => signs_is s l W (by omega) h
  have hll := signs_len _ _ l (Nat.le_refl _) h
  rw [← Lib.size_eq] at hll
  clear h
  go_enter Try.func14, Try.ntmps14
  go_wp2_with fail
  go_at_call 9
  refine (cS _).mono ?_
  rintro e w1 ⟨⟨v, rfl, ho⟩, hb1⟩
  have cP := refParts_any 59 v l w1 ho.at (by omega)
  rw [show (((59 : UInt8).toNat : Nat) : Int) = 59 from rfl] at cP
  clear ho cS
  go_wp2_with fail
  go_at_call 29
  refine cP.mono ?_
  rintro e w2 ⟨⟨u, rfl, hp⟩, hb2⟩
  have hB2 := below_then hb1 hb2
  have hplen := parts_size (m := 59) (Nat.le_refl l.length)
  have hpc : ∀ (k : Nat) (p : List Sg), (parts 59 l)[k]? = some p → p.length ≤ l.length := fun k p h => piece_size h
  have hfin : fldS l = mt listS (parts 59 l) (parts 59 l).length := by unfold mt; rw [List.take_length]; rfl
  obtain ⟨qs, hqs⟩ : ∃ qs, parts 59 l = qs := ⟨_, rfl⟩
  rw [hqs] at hp hplen hpc hfin
  obtain ⟨A, b, off, c, rfl, a1, a2, a3, a4⟩ := hp.at
  obtain ⟨n, hn⟩ : ∃ n, qs.length = n := ⟨_, rfl⟩
  rw [hn] at a1 a3 hplen hfin ⊢
  have hfin' := Lib.hid hfin
  unfold maxLen at a2
  have hn' := Lib.hid hn
  have a3' := Lib.hid a3
  have a4' := Lib.hid a4
  have hpc' := Lib.hid hpc
  clear hp hb1 hb2 cP hqs hn a3 a4 hpc hfin
  go_wp2
  go_loopw [6, 22] (fun s6 s22 wr => FsRel qs n w2 s6 s22 wr) (fun s6 s22 wr => n - (RowKit.intOf s22).toNat)
  case atStart => exact ⟨0, _, rfl, rfl, Nat.zero_le _, ROwn.nil _ _ _ _, Below.refl _ _⟩
  case round =>
    obtain ⟨k, s6, rfl, rfl, hk, hown, hbr⟩ := hrel
    have hrs := hbr.size
    by_cases hlt : k < n
    · have hx : qs[k]? = some (qs[k]'(by have := hn'.out; omega)) := List.getElem?_eq_getElem _
      obtain ⟨x, hxe⟩ : ∃ x, qs[k]'(by have := hn'.out; omega) = x := ⟨_, rfl⟩
      rw [hxe] at hx
      obtain ⟨rfl, hg⟩ := a3'.out (by omega)
      obtain ⟨u, hu, hsx⟩ := a4'.out k x hx
      rw [← hbr.cell (p := ⟨b, off + k, none⟩) hg] at hu
      have hxl := hpc'.out k x hx
      have cP := refParts_any 44 u x wr (hsx.kept hbr) (by omega)
      rw [show (((44 : UInt8).toNat : Nat) : Int) = 44 from rfl] at cP
      obtain ⟨A2, b2, o2, c2, rfl, _⟩ := hsx
      obtain ⟨xn, hxn⟩ : ∃ xn, x.length = xn := ⟨_, rfl⟩
      rw [hxn] at hu cP hxl
      have hmt := map_take_next listS qs k x hx
      have hmt' := Lib.hid hmt
      have hxn' := Lib.hid hxn
      clear hxe hx hxn hmt
      go_wp2_with fail
      go_at_call 29
      refine cP.mono ?_
      rintro e w3 ⟨⟨u, rfl, hp3⟩, hb3⟩
      have hown3 := ROwn.kept innerStr hown hb3
      have hbr3 := below_then hbr hb3
      have hr3 := hbr3.size
      have hpl3 := parts_size (m := 44) (Nat.le_refl x.length)
      have hpc3 : ∀ (k : Nat) (p : List Sg), (parts 44 x)[k]? = some p → p.length ≤ x.length := fun k p h => piece_size h
      have hfin3 : listS x = mt plain (parts 44 x) (parts 44 x).length := by unfold mt; rw [List.take_length]; rfl
      obtain ⟨ps, hps⟩ : ∃ ps, parts 44 x = ps := ⟨_, rfl⟩
      rw [hps] at hp3 hpl3 hpc3 hfin3
      obtain ⟨A3, b3, off3, c3, rfl, e1, e2, e3, e4⟩ := hp3.at
      obtain ⟨n3, hn3⟩ : ∃ n, ps.length = n := ⟨_, rfl⟩
      rw [hn3] at e1 e3 hpl3 hfin3 ⊢
      rw [hxn'.out] at hpl3 hpc3
      unfold maxLen at e2
      have hn3' := Lib.hid hn3
      have e3' := Lib.hid e3
      have e4' := Lib.hid e4
      have hpc3' := Lib.hid hpc3
      have hfin3' := Lib.hid hfin3
      have hown3' := Lib.hid hown3
      clear hp3 hb3 cP hps hn3 e3 e4 hpc3 hfin3 hown hbr hown3
      go_wp2
      go_loopw [9, 29] (fun s9 s29 wr => LsRel ps n3 w3 s9 s29 wr) (fun s9 s29 wr => n3 - (RowKit.intOf s29).toNat)
      case atStart => exact ⟨0, _, rfl, rfl, Nat.zero_le _, Own.nil _ _, Below.refl _ _⟩
      case round =>
        obtain ⟨j, s9, rfl, rfl, hj, hone, hbx⟩ := hrel
        have hxs := hbx.size
        by_cases hlt2 : j < n3
        · have hz : ps[j]? = some (ps[j]'(by have := hn3'.out; omega)) := List.getElem?_eq_getElem _
          obtain ⟨z, hze⟩ : ∃ z, ps[j]'(by have := hn3'.out; omega) = z := ⟨_, rfl⟩
          rw [hze] at hz
          obtain ⟨rfl, hg3⟩ := e3'.out (by omega)
          obtain ⟨t, ht, hst⟩ := e4'.out j z hz
          rw [← hbx.cell (p := ⟨b3, off3 + j, none⟩) hg3] at ht
          have hzl := hpc3'.out j z hz
          have cN := refPlain_any t z wr (hst.kept hbx) (by omega)
          obtain ⟨A4, b4, o4, c4, rfl, _⟩ := hst
          obtain ⟨zn, hzn⟩ : ∃ zn, z.length = zn := ⟨_, rfl⟩
          rw [hzn] at ht cN
          have hmt2 := Lib.hid (map_take_next plain ps j z hz)
          clear hze hz hzl hzn
          go_wp2_with fail
          go_at_call 15
          refine cN.mono ?_
          rintro e w4 ⟨⟨y, hy, rfl⟩, hb4⟩
          have hone4 := hone.kept hb4
          have hbx4 := below_then hbx hb4
          have hr4 := hbx4.size
          have hol : (mt plain ps j).length ≤ 1099511627776 := by have := mt_len plain ps j; omega
          have hy' := Lib.hid hy
          have hol' := Lib.hid hol
          clear hone hbx hb4 cN hy hol
          go_wp2_with (at_builtin; refine append_str (w0 := w4) y rfl _ _ rfl w3.heap.size _ _ w4.heap.size rfl rfl rfl hone4 ?c1 ?c2 ?_)
          case c1 => exact hol'.out
          case c2 => omega
          intro v' w5 hone5 hleft
          have hbx5 := hleft _ _ hbx4 (Nat.le_refl _) hr4
          rw [hy'.out, ← hmt2.out] at hone5
          clear hleft hone4
          go_wp2
          go_roundw
          case rel => exact ⟨j + 1, _, rfl, by go_num, by omega, hone5, hbx5⟩
          case measure => simp [RowKit.intOf]; omega
        · obtain rfl : j = n3 := by omega
          rw [← hfin3'.out] at hone
          have hownx := ROwn.kept innerStr hown3'.out hbx
          have hbrx := below_then hbr3 hbx
          have hone2 := hone.less hr3
          have hrx := hbrx.size
          obtain ⟨ao, cc, rfl⟩ := ownsRow_form hone
          obtain ⟨nn, hnn⟩ : ∃ nn, (listS x).length = nn := ⟨_, rfl⟩
          rw [hnn] at hone2 ⊢
          have hol : (mt listS qs k).length ≤ 1099511627776 := by have := mt_len listS qs k; omega
          have hol' := Lib.hid hol
          clear hone hbx hnn hol hbr3
          go_wp2_with (at_builtin; refine append_row (w0 := wr) innerStr infoStrs Try.underlying32 ao nn cc (listS x) rfl _ _ rfl w2.heap.size _ _ wr.heap.size rfl rfl rfl hownx hone2 ?c1 ?c2 ?_)
          case c1 => exact hol'.out
          case c2 => omega
          intro v' w5 hown5 hleft
          have hbr5 := hleft _ _ hbrx (Nat.le_refl _) hrx
          rw [← hmt'.out] at hown5
          clear hleft hownx hone2
          go_wp2
          go_roundw
          case rel => exact ⟨k + 1, _, rfl, by go_num, by omega, hown5, hbr5⟩
          case measure => simp [RowKit.intOf]; omega
    · obtain rfl : k = n := by omega
      have hsz := hB2.size
      rw [← hfin'.out] at hown
      have hown2 := ROwn.less innerStr hown hsz
      clear hown
      go_wp2
      go_ret2
      exact ⟨⟨_, rfl, hown2⟩, below_then hB2 hbr⟩
end Go.Proofs.Ytjdockjkioomiaa.Va
