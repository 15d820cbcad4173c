/-
  THE WALK OF THE REFERENCE OF LAYER http: Head.
-/
import Derived.Test.YtiaollhiggeolaaGreatDoorHttpRefCut
import Derived.Test.YtiaollhiggeolaaGreatDoorHttpCodeG
set_option linter.unusedVariables false
namespace Go.Proofs.YtiaollhiggeolaaGreatDoor.Ht
open Go.Lib Go.RowKit Go.Shelf

/-! ### plain -/
theorem occ_drop (T s : Row) (a j : Nat) : Lib.occAt (T.drop a) s j = Lib.occAt T s (a + j) := by
  unfold Lib.occAt
  rw [List.drop_drop]
theorem cutR_hit {T : Row} {a k : Nat} (hak : a ≤ k) (hno : ∀ j, a ≤ j → j < k → Lib.occAt T rS j = false) (hk : Lib.occAt T rS k = true) : cutR (T.drop a) = some ((T.drop a).take (k - a), T.drop (k + 2)) := by
  have hroom : k + 2 ≤ T.length := by
    rcases Lib.occAt_room hk with h | h
    · simpa [rS] using h
    · cases h
  have hi : Lib.index (T.drop a) rS = ((k - a : Nat) : Int) := by
    refine Lib.index_first (by rw [List.length_drop]; omega) ?_ (fun j hj => ?_)
    · rw [occ_drop, show a + (k - a) = k by omega]; exact hk
    · rw [occ_drop]; exact hno _ (by omega) (by omega)
  rcases cutR_index (T.drop a) with ⟨_, h2⟩ | ⟨i, h1, h2⟩
  · omega
  · obtain rfl : i = k - a := by omega
    rw [h2, List.drop_drop, show a + (k - a + 2) = k + 2 by omega]
theorem cutR_miss {T : Row} {a k : Nat} (hno : ∀ j, a ≤ j → j < k → Lib.occAt T rS j = false) (hk : T.length ≤ k + 1) : cutR (T.drop a) = none := by
  rcases cutR_index (T.drop a) with ⟨h1, _⟩ | ⟨i, h1, h2⟩
  · exact h1
  · exfalso
    rcases Lib.index_spec (T.drop a) rS with ⟨h3, _⟩ | ⟨i', h3, _, h5, _⟩
    · omega
    · rw [occ_drop] at h5
      have hroom : a + i' + 2 ≤ T.length := by
        rcases Lib.occAt_room h5 with h | h
        · simpa [rS] using h
        · cases h
      rw [hno _ (by omega) (by omega)] at h5
      cases h5
theorem hdA_of {f : Bool} {t a r : Row} (h : cutR t = some (a, r)) : hdA f t = if f = false ∧ a = [] then some ([], 2) else (hdA false r).map fun q => (a :: q.1, a.length + 2 + q.2) := by
  have hl := cutR_len h
  unfold hdA
  conv => lhs; unfold hd
  rw [h, Option.bind_some]
  simp only
  rw [hd_fuel _ (r.length + 1) false r (by omega) (by omega)]
theorem occ_at {T : Row} {k : Nat} {x y : UInt8} (hx : T[k]? = some x) (hy : T[k + 1]? = some y) : Lib.occAt T rS k = (decide (x.toNat = 13) && decide (y.toNat = 10)) := by
  obtain ⟨h1, h2⟩ := List.getElem?_eq_some_iff.1 hx
  obtain ⟨h3, h4⟩ := List.getElem?_eq_some_iff.1 hy
  have e : T.drop k = x :: y :: T.drop (k + 2) := by rw [List.drop_eq_getElem_cons h1, List.drop_eq_getElem_cons h3, h2, h4]
  unfold Lib.occAt
  rw [e]
  simp only [rS, List.isPrefixOf, Bool.and_true]
  have b1 := byte_is x x.toNat rfl 13 (by decide)
  have b2 := byte_is y y.toNat rfl 10 (by decide)
  rw [Bool.eq_iff_iff]
  simp only [Bool.and_eq_true, beq_iff_eq, decide_eq_true_iff]
  constructor
  · rintro ⟨h5, h6⟩; exact ⟨b1.1 h5.symm, b2.1 h6.symm⟩
  · rintro ⟨h5, h6⟩; exact ⟨(b1.2 h5).symm, (b2.2 h6).symm⟩
/-- where the reader of a head stands: the rows so far, what is left from a on -/
structure HeadI (T : Row) (k a : Nat) (acc : List Row) : Prop where
  le : a ≤ k + 1
  len : a ≤ T.length
  eq : hdA true T = (hdA acc.isEmpty (T.drop a)).map fun q => (acc ++ q.1, a + q.2)
  no : ∀ j, a ≤ j → j < k → Lib.occAt T rS j = false
  rows : ∀ r ∈ acc, r.length ≤ T.length
theorem headI_start (T : Row) : HeadI T 0 0 [] := ⟨by omega, Nat.zero_le _, by rw [List.drop_zero]; cases h : hdA true T <;> simp [h], fun j _ h => by omega, fun r h => by simp at h⟩
theorem headI_skip {T : Row} {k a : Nat} {acc : List Row} (h : HeadI T k a acc) (hs : k < a ∨ Lib.occAt T rS k = false) : HeadI T (k + 1) a acc := by
  refine ⟨by have := h.le; omega, h.len, h.eq, fun j h1 h2 => ?_, h.rows⟩
  by_cases hj : j < k
  · exact h.no j h1 hj
  · obtain rfl : j = k := by omega
    rcases hs with hs | hs
    · omega
    · exact hs
theorem headI_hit {T : Row} {k a : Nat} {acc : List Row} (h : HeadI T k a acc) (hak : a ≤ k) (hk : Lib.occAt T rS k = true) : (acc ≠ [] ∧ (T.drop a).take (k - a) = [] ∧ hdA true T = some (acc, k + 2)) ∨
    (¬ (acc ≠ [] ∧ (T.drop a).take (k - a) = []) ∧ HeadI T (k + 1) (k + 2) (acc ++ [(T.drop a).take (k - a)])) := by
  have hc := cutR_hit hak h.no hk
  have hroom : k + 2 ≤ T.length := by
    rcases Lib.occAt_room hk with h | h
    · simpa [rS] using h
    · cases h
  have hl : ((T.drop a).take (k - a)).length = k - a := by rw [List.length_take, List.length_drop]; omega
  have he := h.eq
  rw [hdA_of hc] at he
  by_cases hz : acc ≠ [] ∧ (T.drop a).take (k - a) = []
  · left
    refine ⟨hz.1, hz.2, ?_⟩
    rw [if_pos ⟨by simpa using hz.1, hz.2⟩] at he
    rw [he]
    have : k = a := by rw [hz.2] at hl; simp at hl; omega
    simp
    omega
  · right
    refine ⟨hz, by omega, hroom, ?_, fun j h1 h2 => by omega, fun r hr => ?_⟩
    · rw [if_neg (fun h2 => hz ⟨by simpa using h2.1, h2.2⟩)] at he
      rw [he, hl, Option.map_map]
      rw [show (acc ++ [(T.drop a).take (k - a)]).isEmpty = false by simp]
      congr 1
      funext q
      simp
      omega
    · rcases List.mem_append.1 hr with hr | hr
      · exact h.rows r hr
      · rw [List.mem_singleton.1 hr, hl]; omega
theorem headI_end {T : Row} {k a : Nat} {acc : List Row} (h : HeadI T k a acc) (hk : T.length ≤ k + 1) : hdA true T = none := by
  rw [h.eq, hdA_none (cutR_miss h.no hk)]; rfl

/-! ### strings of the call's own -/
def SsOwn (B : Nat) (v : Value) (ls : List Row) (w : World) : Prop := w.ownsRow B 9 1 v ls.length (ls.map sv)
theorem SsOwn.nil (B : Nat) (w : World) : SsOwn B (.slice none 0 0) [] w := World.ownsRow_nil w B _ 1
theorem SsOwn.kept {w w' : World} {B : Nat} {v : Value} {ls : List Row} (h : SsOwn B v ls w) (hb : Below w.heap.size w w') : SsOwn B v ls w' := ownsRow_kept h hb
theorem SsOwn.form {B : Nat} {v : Value} {ls : List Row} {w : World} (h : SsOwn B v ls w) : ∃ ao c, v = .slice ao ls.length c := ownsRow_form h
theorem infoSt : (Tryz.prog.info? 9).map (fun i => (i.zero, i.size, i.bytes)) = some (some (.string ⟨#[]⟩), 1, 16) := by kernel_rfl
/-- one string more -/
theorem append_sstr {w0 : World} {ops : Array Oper} {rest : List Oper} {o : Oper} {a : Act} {Q : Exit → Act → World → Prop} (x : ByteArray)
    (hgd : o.guard = none) (s xo : Operand) (ho : o.op = .call { callee := .builtin .append, args := #[s, xo], argTypes := #[47, 47] }) (base : Nat) (v : Value) (ls : List Row) (g : Nat) (hgz : g = w0.heap.size) (hs : a.eval s = v) (hx : a.eval xo = .slice (some ⟨g, 0, none⟩) 1 1)
    (hown : SsOwn base v ls w0) (hl : ls.length ≤ 1099511627776) (hbase : base ≤ w0.heap.size)
    (h : ∀ g' cap w', SsOwn base (.slice (some ⟨g', 0, none⟩) (ls.length + 1) cap) (ls ++ [x.data.toList]) w' → Below base w0 w' → wpList Tryz.prog ops Q rest (a.put o.dst (.slice (some ⟨g', 0, none⟩) (ls.length + 1) cap)) w') :
    wpList Tryz.prog ops Q (o :: rest) a (w0.alloc (.cells #[.string x] 9)) := by
  obtain ⟨i0, hi, hz0, hz1, hz2⟩ := info_parts infoSt
  subst hgz
  have hrow : w0.ownsRow base 9 1 v ls.length (ls.map sv) := hown
  refine wpList_append_own _ hgd s xo 47 ho base 9 i0 (.string ⟨#[]⟩) 1 16 Tryz.underlying47 hi hz0 hz1 hz2 rfl (by decide) v ls.length (ls.map sv) hs (World.ownsRow.alloc hrow _) ⟨w0.heap.size, 0, none⟩ 1 1 [.string x] hx rfl (fun j u hj => ?_) (fun u hu => ?_) (by unfold maxLen; omega) (by omega) (by simp; omega)
    (fun v' w' h5 h6 _ => ?_)
  · match j, hj with
    | 0, hj => simp at hj; subst hj; simp [Addr.add]
  · simp at hu
    subst hu
    rfl
  · have h7 : SsOwn base v' (ls ++ [x.data.toList]) w' := by
      unfold SsOwn
      rw [List.map_append, List.length_append, List.map_singleton, sv_data]
      exact h5
    have h8 : Below base w0 w' := ((Below.refl _ _).alloc hbase (.cells #[.string x] 9)).grown h6 (by rw [show (w0.alloc (.cells #[.string x] 9)).heap.size = w0.heap.size + 1 from Array.size_push _]; omega) (fun k hk => by
      rcases hrow.2 with ⟨e1, _⟩ | ⟨g, cap, cur, e1, e2, _⟩
      · rw [e1] at hk; cases hk
      · rw [e1] at hk
        have : g = k := by simpa [Value.ownBlock] using hk
        omega)
    have hf : ∃ g' cap, v' = .slice (some ⟨g', 0, none⟩) (ls.length + 1) cap := by
      rcases h7.2 with ⟨_, e2⟩ | ⟨g, cap, cur, e1, _⟩
      · simp at e2
      · exact ⟨g, cap, by rw [e1]; simp⟩
    obtain ⟨g', cap, rfl⟩ := hf
    exact h g' cap w' h7 h8
/-- all but the last of them, wherever they read -/
theorem SsOwn.front {B : Nat} {g cap : Nat} {ls : List Row} {r : Row} {w : World} (h : SsOwn B (.slice (some ⟨g, 0, none⟩) (ls.length + 1) cap) (ls ++ [r]) w) : SsAt w (.slice (some ⟨g, 0, none⟩) ls.length cap) ls ∧ w.cell? ⟨g, ls.length, none⟩ = some (sv r) := by
  obtain ⟨h1, h2 | ⟨g', cap', cur, e1, e2, e3, e4, e5, e6, e7⟩⟩ := h
  · cases h2.1
  · injection e1 with e1 _ e8
    injection e1 with e1
    injection e1 with e1 _ _
    subst e1
    subst e8
    have key : ∀ (j : Nat) (l : Row), (ls ++ [r])[j]? = some l → w.cell? ⟨g, j, none⟩ = some (sv l) := fun j l hj => by
      have hlt := (List.getElem?_eq_some_iff.1 hj).1
      rw [Lib.cell_of_heap e3]
      have : (cur.toList.take ((ls ++ [r]).length * 1))[j]? = ((ls ++ [r]).map sv)[j]? := by rw [e7]
      rw [List.getElem?_take, if_pos (by omega), List.getElem?_map, hj] at this
      rw [← Array.getElem?_toList, this]; rfl
    refine ⟨⟨_, g, 0, cap, rfl, ?_, e5, fun _ => ⟨rfl, (Array.getElem?_eq_some_iff.1 e3).1⟩, fun j l hj => ?_⟩, key _ _ (by simp)⟩
    · rw [List.length_append] at e4; simp at e4; omega
    · rw [Nat.zero_add]
      exact key j l (by rw [List.getElem?_append_left (List.getElem?_eq_some_iff.1 hj).1]; exact hj)
/-- what Head answers -/
def HeadRP (s : Row) (e : Ending) (w' : World) : Prop :=
  (∃ (rows : List Row) (k : Nat) (v : Value), hdA true (s.take 8192) = some (rows, k) ∧ rows ≠ [] ∧ k ≤ s.length ∧ k ≤ 8193 ∧ e = .returned (.tuple #[v, .int .i64 (k : Int), .int .i64 0]) ∧ SsAt w' v rows ∧ (∀ r ∈ rows, r.length ≤ 8192) ∧ rows.length ≤ 8192) ∨
  (hdA true (s.take 8192) = none ∧ s.length < 8192 ∧ e = .returned (.tuple #[.slice none 0 0, .int .i64 0, .int .i64 91])) ∨
  (hdA true (s.take 8192) = none ∧ ¬ s.length < 8192 ∧ e = .returned (.tuple #[.slice none 0 0, .int .i64 0, .int .i64 80]))
set_option maxHeartbeats 8000000 in
set_option maxRecDepth 100000 in
theorem refHead_any (s : ByteArray) (w : World) (hs : s.size ≤ 140737488355328) : Calls Tryz.prog 14 #[.string s] w fun e w' => HeadRP s.data.toList e w' ∧ Below w.heap.size w w' := by
  obtain ⟨T, hT⟩ : ∃ T, s.data.toList.take 8192 = T := ⟨_, rfl⟩
  have hsz : s.size = s.data.toList.length := Lib.size_eq s
  have hTl : T.length = min s.size 8192 := by rw [← hT, List.length_take, hsz, Nat.min_comm]
  have hat : Hid (∀ (k : Nat) (h : k < s.size), k < 8192 → T[k]? = some (s[k]'h)) := Lib.hid fun k h hk => by
    rw [← hT, List.getElem?_take, if_pos hk, List.getElem?_eq_getElem (by rw [← hsz]; exact h)]
    rfl
  have hex : Hid (∀ (a k : Nat), a ≤ k → k ≤ T.length → (s.extract a k).data.toList = (T.drop a).take (k - a)) := Lib.hid fun a k h1 h2 => by
    rw [Lib.extract_data, ← hT, List.drop_take, List.take_take]
    congr 1
    rw [hTl] at h2
    omega
  have hno : Hid (hdA true T = none → ∀ W, (s.size < 8192 → HeadRP s.data.toList (.returned (.tuple #[.slice none 0 0, .int .i64 0, .int .i64 91])) W) ∧ (¬ s.size < 8192 → HeadRP s.data.toList (.returned (.tuple #[.slice none 0 0, .int .i64 0, .int .i64 80])) W)) := Lib.hid fun h W =>
    ⟨fun h2 => .inr (.inl ⟨by rw [hT]; exact h, by omega, rfl⟩), fun h2 => .inr (.inr ⟨by rw [hT]; exact h, by omega, rfl⟩)⟩
  have hyes : Hid (∀ (rows : List Row) (k : Nat) (v : Value) (W : World), hdA true T = some (rows, k) → rows ≠ [] → k ≤ T.length → SsAt W v rows → (∀ r ∈ rows, r.length ≤ T.length) → rows.length ≤ 8192 → HeadRP s.data.toList (.returned (.tuple #[v, .int .i64 (k : Int), .int .i64 0])) W) := Lib.hid fun rows k v W h1 h2 h3 h4 h5 h6 =>
    .inl ⟨rows, k, v, by rw [hT]; exact h1, h2, by omega, by omega, rfl, h4, fun r hr => by have := h5 r hr; omega, h6⟩
  have hst := headI_start T
  have hTl' := Lib.hid hTl
  clear hT hsz hTl
  go_enter Tryz.func14, Tryz.ntmps14
  go_wp2
  go_loopw [5, 6, 7] (fun s5 s6 s7 wr => ∃ (k a : Nat) (acc : List Row), s7 = .int .i64 (k : Int) ∧ k ≤ 8192 ∧ k ≤ s.size ∧ s6 = .int .i64 (a : Int) ∧ SsOwn w.heap.size s5 acc wr ∧ acc.length ≤ k ∧ HeadI T k a acc ∧ Below w.heap.size w wr) (fun s5 s6 s7 wr => s.size - (RowKit.intOf s7).toNat)
  case atStart => exact ⟨0, 0, [], rfl, by omega, Nat.zero_le _, rfl, SsOwn.nil _ _, Nat.zero_le _, hst, Below.refl _ _⟩
  case round =>
    clear hst
    obtain ⟨k, a, acc, rfl, hk, hks, rfl, hown, hal, hI, hbr⟩ := hrel
    have hle := hI.le
    have hln := hI.len
    have hI' := Lib.hid hI
    have hbr' := Lib.hid hbr
    obtain ⟨ao, cap, rfl⟩ := hown.form
    obtain ⟨na, hna⟩ : ∃ na, acc.length = na := ⟨_, rfl⟩
    rw [hna] at hown ⊢
    have hna' := Lib.hid hna
    have hown' := Lib.hid hown
    have hT0 := hTl'.out
    clear hI hna hown
    by_cases hlt : k + 1 < s.size ∧ k + 1 < 8192
    rotate_left
    · have hnn := Lib.hid (hno.out (headI_end hI'.out (by omega)) wr)
      have hcc : ¬ k + 1 < s.size ∨ (k + 1 < s.size ∧ ¬ k + 1 < 8192) := by omega
      rcases hcc with q1 | ⟨q1, q2⟩
      all_goals
        by_cases hz : s.size < 8192
        · first
            | (exfalso; omega)
            | (have hf := Lib.hid (hnn.out.1 hz)
               go_wp2
               go_ret3
               exact ⟨hf.out, hbr'.out⟩)
        · have hf := Lib.hid (hnn.out.2 hz)
          go_wp2
          go_ret3
          exact ⟨hf.out, hbr'.out⟩
    · obtain ⟨q1, q2⟩ := hlt
      have hx := hat.out k (by omega) (by omega)
      have hy := hat.out (k + 1) (by omega) (by omega)
      have hoc := occ_at hx hy
      obtain ⟨v, hv⟩ : ∃ v, (s[k]'(by omega)).toNat = v := ⟨_, rfl⟩
      obtain ⟨u, hu⟩ : ∃ u, (s[k + 1]'(by omega)).toNat = u := ⟨_, rfl⟩
      rw [hv, hu] at hoc
      clear hx hy
      have hkb : k + 1 ≤ 8192 := by omega
      have w1 : IntKind.i64.wrap ((k : Int) + 1) = (k : Int) + 1 := IntWalk.i64_in _ (by omega)
      by_cases e1 : v = 13
      rotate_left
      · have hIs := Lib.hid (headI_skip hI'.out (.inr (by rw [hoc, decide_eq_false e1]; rfl)))
        have c1 : ((v : Int) == 13) = false := beq_false_of_ne (by omega)
        have c2 : ((v : Int) != 13) = true := bne_iff_ne.2 (by omega)
        clear hoc hu
        go_wp2
        go_roundw
        case rel => exact ⟨k + 1, a, acc, by go_num, by omega, by omega, rfl, hown'.out, by have := hna'.out; omega, hIs.out, hbr'.out⟩
        case measure => simp [RowKit.intOf]; omega
      by_cases e2 : u = 10
      rotate_left
      · have hIs := Lib.hid (headI_skip hI'.out (.inr (by rw [hoc, decide_eq_false e2, Bool.and_false])))
        have c1 : ((u : Int) == 10) = false := beq_false_of_ne (by omega)
        have c2 : ((u : Int) != 10) = true := bne_iff_ne.2 (by omega)
        clear hoc
        go_wp2
        go_roundw
        case rel => exact ⟨k + 1, a, acc, by go_num, by omega, by omega, rfl, hown'.out, by have := hna'.out; omega, hIs.out, hbr'.out⟩
        case measure => simp [RowKit.intOf]; omega
      by_cases e3 : k < a
      · have hIs := Lib.hid (headI_skip hI'.out (.inl e3))
        clear hoc
        go_wp2
        go_roundw
        case rel => exact ⟨k + 1, a, acc, by go_num, by omega, by omega, rfl, hown'.out, by have := hna'.out; omega, hIs.out, hbr'.out⟩
        case measure => simp [RowKit.intOf]; omega
      rw [decide_eq_true e1, decide_eq_true e2] at hoc
      have hh := headI_hit hI'.out (by omega) hoc
      have hrow := hex.out a k (by omega) (by omega)
      obtain ⟨x, hx⟩ : ∃ x, s.extract a k = x := ⟨_, rfl⟩
      rw [hx] at hrow
      rw [← hrow] at hh
      have hh' := Lib.hid hh
      have q3 : a ≤ k := by omega
      have q4 : k ≤ s.size := by omega
      have hbz := hbr.size
      have hlen : acc.length ≤ 1099511627776 := by have := hna'.out; omega
      clear hh hoc hrow hle hln hT0
      go_wp2_with (at_builtin; refine append_sstr x rfl _ _ rfl w.heap.size _ acc _ rfl rfl rfl hown'.out hlen hbz ?_)
      intro g9 cap9 w9 hown9 hb9
      rw [hna'.out] at hown9 ⊢
      have hB9 := Lib.hid (hbr'.out.trans hb9)
      have hown9' := Lib.hid hown9
      have hfr := SsOwn.front (ls := acc) (r := x.data.toList) (by rw [hna'.out]; exact hown9)
      rw [hna'.out, sv_data] at hfr
      obtain ⟨hfa, c9⟩ := hfr
      have hnc : na ≤ cap9 := by
        obtain ⟨_, _, _, _, h1, h2, _⟩ := hfa
        injection h1 with _ h1 h3
        omega
      have hnk : na ≤ k := by have := hna'.out; omega
      have hfa' := Lib.hid hfa
      have e5 : IntKind.i64.wrap (((na + 1 : Nat) : Int) - 1) = (na : Int) := by rw [show ((na + 1 : Nat) : Int) - 1 = (na : Int) by omega]; exact IntWalk.i64_in _ (by omega)
      have e6 : IntKind.i64.wrap ((na : Int) + 1 - 1) = (na : Int) := by rw [show (na : Int) + 1 - 1 = (na : Int) by omega]; exact IntWalk.i64_in _ (by omega)
      have e7 : IntKind.i64.wrap ((k : Int) + 2) = (k : Int) + 2 := IntWalk.i64_in _ (by omega)
      have e8 : IntKind.i64.wrap (na : Int) = (na : Int) := IntWalk.i64_in _ (by omega)
      clear hown9 hb9 hfa
      by_cases hn0 : na = 0
      · have g1 : ¬ (1 : Int) < (na : Int) + 1 := by omega
        have g2 : ¬ 1 < na + 1 := by omega
        have hI9 : Hid (HeadI T (k + 1) (k + 2) (acc ++ [x.data.toList])) := Lib.hid (by
          rcases hh'.out with ⟨h1, h2, _⟩ | ⟨_, h2⟩
          · exfalso
            exact h1 (List.eq_nil_of_length_eq_zero (by rw [hna'.out]; exact hn0))
          · exact h2)
        clear hh'
        go_wp2
        go_roundw
        case rel => exact ⟨k + 1, k + 2, acc ++ [x.data.toList], by go_num, by omega, by omega, by go_num, hown9'.out, by rw [List.length_append]; have := hna'.out; simp; omega, hI9.out, hB9.out⟩
        case measure => simp [RowKit.intOf]; omega
      · have g1 : (1 : Int) < (na : Int) + 1 := by omega
        have g2 : 1 < na + 1 := by omega
        have g3 : 0 < na := by omega
        have g5 : ¬ cap9 = 0 := by omega
        have g6 : (na : Int) ≤ (cap9 : Int) := by omega
        by_cases hx0 : x.size = 0
        · have hfin : Hid (HeadRP s.data.toList (.returned (.tuple #[.slice (some ⟨g9, 0, none⟩) na cap9, .int .i64 ((k + 2 : Nat) : Int), .int .i64 0])) w9) := Lib.hid (by
            rcases hh'.out with ⟨h1, h2, h3⟩ | ⟨h2, _⟩
            · refine hyes.out acc (k + 2) _ w9 h3 h1 ?_ hfa'.out hI'.out.rows (by omega)
              have := hTl'.out
              omega
            · exfalso
              exact h2 ⟨fun e => hn0 (by rw [← hna'.out, e]; rfl), List.eq_nil_of_length_eq_zero (by rw [← Lib.size_eq]; exact hx0)⟩)
          clear hh'
          go_wp2
          go_ret3
          exact ⟨hfin.out, hB9.out⟩
        · have g4 : ((x.size : Int) == 0) = false := beq_false_of_ne (by omega)
          have hI9 : Hid (HeadI T (k + 1) (k + 2) (acc ++ [x.data.toList])) := Lib.hid (by
            rcases hh'.out with ⟨h1, h2, _⟩ | ⟨_, h2⟩
            · exfalso
              exact hx0 (by rw [Lib.size_eq, h2]; rfl)
            · exact h2)
          clear hh'
          go_wp2
          go_roundw
          case rel => exact ⟨k + 1, k + 2, acc ++ [x.data.toList], by go_num, by omega, by omega, by go_num, hown9'.out, by rw [List.length_append]; have := hna'.out; simp; omega, hI9.out, hB9.out⟩
          case measure => simp [RowKit.intOf]; omega
end Go.Proofs.YtiaollhiggeolaaGreatDoor.Ht
