/-
  THE WALK OF THE PROGRAM's LAYER http: readFields.
-/
import Derived.Test.YtiaollhiggeolaaDoorHttpCodeE
set_option linter.unusedVariables false
namespace Go.Proofs.YtiaollhiggeolaaDoor.Ht
open Go.Lib Go.RowKit Go.Shelf

/-! ### strings, wherever they read -/
def SsAt (w : World) (v : Value) (ls : List Row) : Prop :=
  ∃ (A : Option Addr) (b off c : Nat), v = .slice A ls.length c ∧ ls.length ≤ c ∧ c ≤ maxLen ∧ (0 < ls.length → A = some ⟨b, off, none⟩ ∧ b < w.heap.size) ∧ ∀ (j : Nat) (l : Row), ls[j]? = some l → w.cell? ⟨b, off + j, none⟩ = some (sv l)
theorem SsAt.kept {w w' : World} {v : Value} {ls : List Row} (h : SsAt w v ls) (hb : Below w.heap.size w w') : SsAt w' v ls := by
  obtain ⟨A, b, off, c, h1, h2, h3, h4, h5⟩ := h
  refine ⟨A, b, off, c, h1, h2, h3, fun hl => ⟨(h4 hl).1, Nat.lt_of_lt_of_le (h4 hl).2 hb.size⟩, fun j l hj => ?_⟩
  have hlt := (h4 (by have := (List.getElem?_eq_some_iff.1 hj).1; omega)).2
  rw [hb.cell (p := ⟨b, off + j, none⟩) hlt]
  exact h5 j l hj
theorem own_block {w : World} {B : Nat} {v : Value} {ps : List Fd} (h : FsOwn B v ps w) : ∀ k, v.ownBlock = some k → B ≤ k := fun k hk => by
  rcases h.2 with ⟨h1, _⟩ | ⟨g, cap, cur, h1, h2, _⟩
  · rw [h1] at hk; cases hk
  · rw [h1] at hk
    have : g = k := by simpa [Value.ownBlock] using hk
    omega
theorem left_fs {w0 w1 w' : World} {B : Nat} {v : Value} {ps : List Fd} {o : Obj} (hb : Below B w0 w1) (hown : FsOwn B v ps w1) (hg : (w1.alloc o).grownBy w' v.ownBlock) (hB : B ≤ w1.heap.size) : Below B w0 w' :=
  (hb.alloc hB o).grown hg (by rw [show (w1.alloc o).heap.size = w1.heap.size + 1 from Array.size_push _]; omega) (own_block hown)

/-! ### what a row makes of what was read -/
theorem flds_bad {l : Option Nat} {r : Row} {rs : List Row} (h : ∀ p, cutB 58 r = some p → ¬ (nmB p.1 = true ∧ rng 32 126 true (trim p.2) = true)) : flds l (r :: rs) = none := by
  rw [flds]
  cases hc : cutB 58 r with
  | none => rfl
  | some p =>
    rw [Option.bind_some, if_neg]
    exact fun h2 => h p hc ⟨h2.1, h2.2.1⟩
structure Good1 (r n v : Row) : Prop where
  cut : ∃ q, cutB 58 r = some (n, q) ∧ v = trim q
  nm : nmB n = true
  vl : rng 32 126 true v = true
theorem flds_te {l : Option Nat} {r n v : Row} {rs : List Row} (h : Good1 r n v) (ht : Ch.low n = teS) : flds l (r :: rs) = none := by
  obtain ⟨⟨q, h1, rfl⟩, h2, h3⟩ := h
  rw [flds, h1, Option.bind_some]
  simp only
  rw [if_neg (fun h => h.2.2 ht)]
theorem flds_cl2 {l : Option Nat} {r n v : Row} {rs : List Row} (h : Good1 r n v) (ht : Ch.low n ≠ teS) (hc : Ch.low n = clS) (hl : l ≠ none ∨ (Ch.numS v 65536).2 = false) : flds l (r :: rs) = none := by
  obtain ⟨⟨q, h1, rfl⟩, h2, h3⟩ := h
  rw [flds, h1, Option.bind_some]
  simp only
  rw [if_pos ⟨h2, h3, ht⟩, if_pos hc, if_neg]
  intro h
  rcases hl with hl | hl
  · exact hl h.1
  · rw [h.2] at hl; cases hl
theorem flds_cl1 {r n v : Row} {rs : List Row} (h : Good1 r n v) (ht : Ch.low n ≠ teS) (hc : Ch.low n = clS) (hl : (Ch.numS v 65536).2 = true) : flds none (r :: rs) = flds (some (Ch.numS v 65536).1) rs := by
  obtain ⟨⟨q, h1, rfl⟩, h2, h3⟩ := h
  rw [flds, h1, Option.bind_some]
  simp only
  rw [if_pos ⟨h2, h3, ht⟩, if_pos hc, if_pos ⟨trivial, hl⟩]
theorem flds_fd {l : Option Nat} {r n v : Row} {rs : List Row} (h : Good1 r n v) (ht : Ch.low n ≠ teS) (hc : Ch.low n ≠ clS) : flds l (r :: rs) = (flds l rs).map fun q => ((n, v) :: q.1, q.2) := by
  obtain ⟨⟨q, h1, rfl⟩, h2, h3⟩ := h
  rw [flds, h1, Option.bind_some]
  simp only
  rw [if_pos ⟨h2, h3, ht⟩, if_neg hc]
/-- what is left to read, with what was read: the fields, how many rows, the length -/
def More (rows : List Row) (k : Nat) (l : Option Nat) (acc : List Fd) : Prop := flds none rows = (flds l (rows.drop k)).map fun q => (acc ++ q.1, q.2)
theorem more_start (rows : List Row) : More rows 0 none [] := by
  unfold More
  rw [List.drop_zero]
  cases flds none rows <;> rfl
theorem drop_at {rows : List Row} {k : Nat} {r : Row} (h : rows[k]? = some r) : rows.drop k = r :: rows.drop (k + 1) := by
  obtain ⟨hl, he⟩ := List.getElem?_eq_some_iff.1 h
  rw [List.drop_eq_getElem_cons hl, he]
theorem more_bad {rows : List Row} {k : Nat} {l : Option Nat} {acc : List Fd} {r : Row} (h : More rows k l acc) (hr : rows[k]? = some r) (hn : flds l (r :: rows.drop (k + 1)) = none) : flds none rows = none := by
  unfold More at h
  rw [h, drop_at hr, hn]; rfl
theorem more_len {rows : List Row} {k : Nat} {acc : List Fd} {r n v : Row} (h : More rows k none acc) (hr : rows[k]? = some r) (hg : Good1 r n v) (ht : Ch.low n ≠ teS) (hc : Ch.low n = clS) (hl : (Ch.numS v 65536).2 = true) : More rows (k + 1) (some (Ch.numS v 65536).1) acc := by
  unfold More at h ⊢
  rw [h, drop_at hr, flds_cl1 hg ht hc hl]
theorem more_fd {rows : List Row} {k : Nat} {l : Option Nat} {acc : List Fd} {r n v : Row} (h : More rows k l acc) (hr : rows[k]? = some r) (hg : Good1 r n v) (ht : Ch.low n ≠ teS) (hc : Ch.low n ≠ clS) : More rows (k + 1) l (acc ++ [(n, v)]) := by
  unfold More at h ⊢
  rw [h, drop_at hr, flds_fd hg ht hc]
  cases flds l (rows.drop (k + 1)) with
  | none => rfl
  | some q => simp
theorem more_end {rows : List Row} {k : Nat} {l : Option Nat} {acc : List Fd} (h : More rows k l acc) (hk : rows.length ≤ k) : flds none rows = some (acc, l) := by
  unfold More at h
  rw [h, List.drop_of_length_le hk]
  simp [flds]
/-- what readFields answers -/
def FldsP (B : Nat) (rows : List Row) (e : Ending) (w' : World) : Prop :=
  (fields rows = none ∧ e = .returned (.tuple #[.slice none 0 0, .int .i64 0, .bool false])) ∨
  ∃ (fs : List Fd) (n : Nat) (v : Value), fields rows = some (fs, n) ∧ n ≤ 65536 ∧ e = .returned (.tuple #[v, .int .i64 (n : Int), .bool true]) ∧ FsOwn B v fs w'
theorem FsOwn.form {B : Nat} {v : Value} {ps : List Fd} {w : World} (h : FsOwn B v ps w) : ∃ ao c, v = .slice ao ps.length c := ownsRow_form h

def lenV (l : Option Nat) : Nat := l.getD 0
set_option maxHeartbeats 8000000 in
set_option maxRecDepth 100000 in
theorem readFields_any (v0 : Value) (rows : List Row) (w : World) (h0 : SsAt w v0 rows) (hsz : ∀ r ∈ rows, r.length ≤ 65536) : Calls Tryd.prog 44 #[v0] w fun e w' => FldsP w.heap.size rows e w' ∧ Below w.heap.size w w' := by
  obtain ⟨A, b, off, c, rfl, hc1, hc2, hA, hcell⟩ := h0
  obtain ⟨N, hN⟩ : ∃ N, rows.length = N := ⟨_, rfl⟩
  rw [hN] at hc1 hA ⊢
  unfold maxLen at hc2
  by_cases hbig : 32 < N
  · have hfin : FldsP w.heap.size rows (.returned (.tuple #[.slice none 0 0, .int .i64 0, .bool false])) w := .inl ⟨by unfold fields; rw [if_pos (by omega)], rfl⟩
    have hfin' := Lib.hid hfin
    clear hfin hcell hA hN hsz
    go_enter Tryd.func44, Tryd.ntmps44
    go_wp2
    go_ret3
    exact ⟨hfin'.out, Below.refl _ _⟩
  have hno : Hid (flds none rows = none → ∀ W, FldsP w.heap.size rows (.returned (.tuple #[.slice none 0 0, .int .i64 0, .bool false])) W) := Lib.hid fun h W => .inl ⟨by unfold fields; rw [if_neg (by omega), h]; rfl, rfl⟩
  have hyes : Hid (∀ (l : Option Nat) (acc : List Fd) (v : Value) (W : World), flds none rows = some (acc, l) → (∀ x, l = some x → x ≤ 65536) → FsOwn w.heap.size v acc W → FldsP w.heap.size rows (.returned (.tuple #[v, .int .i64 (lenV l : Int), .bool true])) W) := Lib.hid fun l acc v W h hl ho =>
    .inr ⟨acc, lenV l, v, by unfold fields; rw [if_neg (by omega), h]; rfl, by
      unfold lenV
      cases l with
      | none => exact Nat.zero_le _
      | some x => exact hl x rfl, rfl, ho⟩
  have hN' := Lib.hid hN
  have hA' := Lib.hid hA
  have hcell' := Lib.hid hcell
  have hsz' := Lib.hid hsz
  clear hN hA hcell hsz
  go_enter Tryd.func44, Tryd.ntmps44
  go_wp2
  go_loopw [2, 3, 5, 17] (fun s2 s3 s5 s17 wr => ∃ (k : Nat) (l : Option Nat) (acc : List Fd), s17 = .int .i64 (k : Int) ∧ k ≤ N ∧ s3 = .int .i64 (lenV l : Int) ∧ s5 = .bool l.isSome ∧ FsOwn w.heap.size s2 acc wr ∧ acc.length ≤ k ∧ Below w.heap.size w wr ∧ (∀ x, l = some x → x ≤ 65536) ∧ More rows k l acc) (fun s2 s3 s5 s17 wr => N - (RowKit.intOf s17).toNat)
  case atStart => exact ⟨0, none, [], rfl, Nat.zero_le _, rfl, rfl, FsOwn.nil _ _, Nat.zero_le _, Below.refl _ _, (fun x h => by cases h), more_start rows⟩
  case round =>
    obtain ⟨k, l, acc, rfl, hk, rfl, rfl, hown, hal, hbr, hl6, hmore⟩ := hrel
    have hmore' := Lib.hid hmore
    have hl6' := Lib.hid hl6
    have hbr' := Lib.hid hbr
    obtain ⟨ao, cap, rfl⟩ := hown.form
    obtain ⟨na, hna⟩ : ∃ na, acc.length = na := ⟨_, rfl⟩
    rw [hna] at hown ⊢
    have hna' := Lib.hid hna
    have hown' := Lib.hid hown
    clear hmore hl6 hna
    by_cases hlt : k < N
    · have hr : rows[k]? = some (rows[k]'(by have := hN'.out; omega)) := List.getElem?_eq_getElem _
      obtain ⟨R, hR⟩ : ∃ R, rows[k]'(by have := hN'.out; omega) = R := ⟨_, rfl⟩
      rw [hR] at hr
      have hRz := hsz'.out R (by rw [← hR]; exact List.getElem_mem _)
      obtain ⟨rfl, hg⟩ := hA'.out (by omega)
      have hc := hcell'.out k R hr
      rw [← hbr.cell (p := ⟨b, off + k, none⟩) hg] at hc
      obtain ⟨x, e1, d1⟩ := sv_some R
      rw [e1] at hc
      have hxz : x.size ≤ 65536 := by rw [Lib.size_eq, d1]; exact hRz
      have cF := readField_any x wr (by omega)
      rw [d1] at cF
      have hr' := Lib.hid hr
      clear hr hR e1
      obtain ⟨T, hT⟩ : ∃ T, l.isSome = T := ⟨_, rfl⟩
      obtain ⟨L, hL⟩ : ∃ L, lenV l = L := ⟨_, rfl⟩
      rw [hT, hL]
      have hT' := Lib.hid hT
      have hL' := Lib.hid hL
      clear hT hL
      go_wp2_with fail
      go_at_call 57
      with_reducible refine cF.mono ?_
      rintro e w1 ⟨⟨n, v, ok, rfl, hns, hvs, hor⟩, hb1⟩
      rw [← d1, ← Lib.size_eq] at hns hvs
      have hO1 := Lib.hid (hown'.out.kept hb1)
      have hB1 := Lib.hid (below_then hbr'.out hb1)
      have hX2 : (w1.alloc (.cells #[.string n, .string v] 47)).heap[w1.heap.size]? = some (.cells #[.string n, .string v] 47 (0, 0)) := heap_alloc_new w1 _
      have hB2 : Below w.heap.size w (w1.alloc (.cells #[.string n, .string v] 47)) := hB1.out.alloc hB1.out.size _
      have hO2 : FsOwn w.heap.size (.slice ao na cap) acc (w1.alloc (.cells #[.string n, .string v] 47)) := hO1.out.kept ((Below.refl _ _).alloc (Nat.le_refl _) _)
      have hB2' := Lib.hid hB2
      have hO2' := Lib.hid hO2
      clear cF hb1 hown hbr hB2 hO2
      rcases hor with ⟨rfl, p, hp1, hp2, hp3, hp4, hp5⟩ | ⟨rfl, hbad⟩
      rotate_left
      · have hX := Lib.hid (hno.out (more_bad hmore'.out hr'.out (flds_bad hbad)))
        clear hbad hX2
        go_wp2
        go_ret3
        exact ⟨hX.out _, hB2'.out⟩
      have hgood : Hid (Good1 R n.data.toList v.data.toList) := Lib.hid ⟨⟨p.2, by rw [hp1, hp2], hp3⟩, by rw [hp2]; exact hp4, by rw [hp3]; exact hp5⟩
      clear hp1 hp2 hp3 hp4 hp5
      obtain ⟨x0, x1, _, _⟩ := res2 hX2
      have cC := Lib.hid (fun W => isCoding_any n v W (by omega))
      have cL := Lib.hid (fun W => isLength_any n v W (by omega))
      obtain ⟨C, hC⟩ : ∃ C, (Ch.low n.data.toList == teS) = C := ⟨_, rfl⟩
      obtain ⟨D, hD⟩ : ∃ D, (Ch.low n.data.toList == clS) = D := ⟨_, rfl⟩
      rw [hC] at cC
      rw [hD] at cL
      have hX2' := Lib.hid hX2
      clear hX2
      go_wp2_with fail
      go_at_call 53
      generalize w1.alloc (.cells #[.string n, .string v] 47) = w2 at x0 x1 hX2' hB2' hO2' ⊢
      with_reducible refine (cC.out _).mono ?_
      rintro e w3 ⟨rfl, hb3⟩
      have hB3 := Lib.hid (below_then hB2'.out hb3)
      have hO3 := Lib.hid (hO2'.out.kept hb3)
      have hX3 := Lib.hid ((hb3.block _ (Array.getElem?_eq_some_iff.1 hX2'.out).1).trans hX2'.out)
      clear x0 x1 hb3 hX2' hB2' hO2' cC
      obtain ⟨x0, x1, _, _⟩ := res2 hX3.out
      cases C with
      | true =>
        have hX := Lib.hid (hno.out (more_bad hmore'.out hr'.out (flds_te hgood.out (by simpa using hC))))
        clear hC hD x0 x1
        go_wp2
        go_ret3
        exact ⟨hX.out _, hB3.out⟩
      | false =>
      have hnt : Hid (Ch.low n.data.toList ≠ teS) := Lib.hid (by simpa using hC)
      clear hC
      cases T with
      | true =>
        have hsome : Hid (l ≠ none) := Lib.hid (fun e => by have := hT'.out; rw [e] at this; cases this)
        go_wp2_with fail
        go_at_call 52
        with_reducible refine (cL.out _).mono ?_
        rintro e w4 ⟨rfl, hb4⟩
        have hB4 := Lib.hid (below_then hB3.out hb4)
        have hO4 := Lib.hid (hO3.out.kept hb4)
        have hX4 := Lib.hid ((hb4.block _ (Array.getElem?_eq_some_iff.1 hX3.out).1).trans hX3.out)
        clear x0 x1 hb4 hX3 hB3 hO3
        obtain ⟨x0, x1, _, _⟩ := res2 hX4.out
        cases D with
        | true =>
          have hX := Lib.hid (hno.out (more_bad hmore'.out hr'.out (flds_cl2 hgood.out hnt.out (by simpa using hD) (.inl hsome.out))))
          clear hD x0 x1
          go_wp2
          go_ret3
          exact ⟨hX.out _, hB4.out⟩
        | false =>
          have hnc : Hid (Ch.low n.data.toList ≠ clS) := Lib.hid (by simpa using hD)
          clear hD
          go_wp2_with fail
          go_at_call 52
          with_reducible refine (cL.out _).mono ?_
          rintro e w5 ⟨rfl, hb5⟩
          have hB5 := Lib.hid (below_then hB4.out hb5)
          have hO5 := Lib.hid (hO4.out.kept hb5)
          have hX5 := Lib.hid ((hb5.block _ (Array.getElem?_eq_some_iff.1 hX4.out).1).trans hX4.out)
          clear x0 x1 hb5 hX4 hB4 hO4
          obtain ⟨x0, x1, _, _⟩ := res2 hX5.out
          have hlen : acc.length ≤ 1099511627776 := by omega
          have hBz := hB5.out.size
          go_wp2_with (at_builtin; refine append_field (n.data.toList, v.data.toList) n v (sv_data n) (sv_data v) rfl _ _ rfl w.heap.size _ acc _ rfl rfl rfl hO5.out hlen hBz ?_)
          intro v9 w9 hown9 hg9
          have hB9 := Lib.hid (left_fs hB5.out hO5.out hg9 hBz)
          have hown9' := Lib.hid hown9
          clear hown9 hg9 x0 x1
          go_wp2
          go_roundw
          case rel => exact ⟨k + 1, l, acc ++ [(n.data.toList, v.data.toList)], by go_num, by omega, by rw [hL'.out], by rw [hT'.out], hown9'.out, by rw [List.length_append]; simp; omega, hB9.out, hl6'.out, more_fd hmore'.out hr'.out hgood.out hnt.out hnc.out⟩
          case measure => simp [RowKit.intOf]; omega
      | false =>
        have hnone : Hid (l = none) := Lib.hid (by
          have := hT'.out
          cases l with
          | none => rfl
          | some y => cases this)
        go_wp2_with fail
        go_at_call 52
        with_reducible refine (cL.out _).mono ?_
        rintro e w5 ⟨rfl, hb5⟩
        have hB5 := Lib.hid (below_then hB3.out hb5)
        have hO5 := Lib.hid (hO3.out.kept hb5)
        have hX5 := Lib.hid ((hb5.block _ (Array.getElem?_eq_some_iff.1 hX3.out).1).trans hX3.out)
        clear x0 x1 hb5 hX3 hB3 hO3
        obtain ⟨x0, x1, _, _⟩ := res2 hX5.out
        cases D with
        | true =>
          have hD' : Hid (Ch.low n.data.toList = clS) := Lib.hid (by simpa using hD)
          have cN := Ch.number_any v 65536 w5 (by omega) (by decide)
          unfold Ch.numE at cN
          rw [show ((65536 : Nat) : Int) = 65536 from rfl] at cN
          have hle := Ch.numS_le v.data.toList 65536
          obtain ⟨⟨z, g⟩, hz⟩ : ∃ z, Ch.numS v.data.toList 65536 = z := ⟨_, rfl⟩
          rw [hz] at cN hle
          simp only at cN hle
          clear hD
          have hz' := Lib.hid hz
          clear hz
          go_wp2_with fail
          go_at_call 48
          with_reducible refine cN.mono ?_
          rintro e w6 ⟨rfl, rfl⟩
          cases g with
          | false =>
            have hX := Lib.hid (hno.out (more_bad hmore'.out hr'.out (flds_cl2 hgood.out hnt.out hD'.out (.inr (by rw [hz'.out])))))
            clear x0 x1
            go_wp2
            go_ret3
            exact ⟨hX.out _, hB5.out⟩
          | true =>
            have hm9 : Hid (More rows (k + 1) (some z) acc) := Lib.hid (by
              have h1 := hmore'.out
              rw [hnone.out] at h1
              have h2 := more_len h1 hr'.out hgood.out hnt.out hD'.out (by rw [hz'.out])
              rw [hz'.out] at h2
              exact h2)
            have hcv : IntKind.i64.wrap (z : Int) = (z : Int) := IntWalk.i64_in _ (by omega)
            clear x0 x1 cN
            go_wp2
            go_roundw
            case rel => exact ⟨k + 1, some z, acc, by go_num, by omega, rfl, rfl, hO5.out, by omega, hB5.out, (fun y hy => by injection hy with hy; omega), hm9.out⟩
            case measure => simp [RowKit.intOf]; omega
        | false =>
          have hnc : Hid (Ch.low n.data.toList ≠ clS) := Lib.hid (by simpa using hD)
          clear hD
          have hlen : acc.length ≤ 1099511627776 := by omega
          have hBz := hB5.out.size
          go_wp2_with (at_builtin; refine append_field (n.data.toList, v.data.toList) n v (sv_data n) (sv_data v) rfl _ _ rfl w.heap.size _ acc _ rfl rfl rfl hO5.out hlen hBz ?_)
          intro v9 w9 hown9 hg9
          have hB9 := Lib.hid (left_fs hB5.out hO5.out hg9 hBz)
          have hown9' := Lib.hid hown9
          clear hown9 hg9 x0 x1
          go_wp2
          go_roundw
          case rel => exact ⟨k + 1, l, acc ++ [(n.data.toList, v.data.toList)], by go_num, by omega, by rw [hL'.out], by rw [hT'.out], hown9'.out, by rw [List.length_append]; simp; omega, hB9.out, hl6'.out, more_fd hmore'.out hr'.out hgood.out hnt.out hnc.out⟩
          case measure => simp [RowKit.intOf]; omega
    · have hall := hyes.out l acc (.slice ao na cap) wr (more_end hmore'.out (by have := hN'.out; omega)) hl6'.out hown'.out
      have hall' := Lib.hid hall
      clear hall
      obtain ⟨L, hL⟩ : ∃ L, lenV l = L := ⟨_, rfl⟩
      rw [hL] at hall' ⊢
      clear hL
      go_wp2
      go_ret3
      exact ⟨hall'.out, hbr'.out⟩
end Go.Proofs.YtiaollhiggeolaaDoor.Ht
