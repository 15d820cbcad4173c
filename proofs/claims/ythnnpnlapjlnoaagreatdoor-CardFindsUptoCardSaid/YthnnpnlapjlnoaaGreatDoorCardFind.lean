/-
  THE WALK OF card.Find: the lines of a name, in new memory.
-/
import Derived.Test.YthnnpnlapjlnoaaGreatDoorCardCopyLine
import Derived.Test.YthnnpnlapjlnoaaGreatDoorMg23
set_option linter.unusedVariables false
namespace Go.Proofs.YthnnpnlapjlnoaaGreatDoor.Ca
open Go.Lib Go.RowKit
open Li (LD PD sv POwn LOwn LineAt PrmsAt pr)

/-- the lines of a name, whatever the size of its letters -/
def named (nm : Row) (Ls : List LD) : List LD := Ls.filter fun L => decide (Ch.low L.name = Ch.low nm)
theorem named_snoc (nm : Row) (Ls : List LD) (k : Nat) (L : LD) (h : Ls[k]? = some L) : named nm (Ls.take (k + 1)) = if Ch.low L.name = Ch.low nm then named nm (Ls.take k) ++ [L] else named nm (Ls.take k) := by
  have hk := (List.getElem?_eq_some_iff.1 h).1
  have e : Ls.take (k + 1) = Ls.take k ++ [L] := by rw [List.take_succ_eq_append_getElem hk, (List.getElem?_eq_some_iff.1 h).2]
  unfold named
  rw [e, List.filter_append]
  by_cases c : Ch.low L.name = Ch.low nm
  · rw [if_pos c]; simp [c]
  · rw [if_neg c]; simp [c]
theorem named_len (nm : Row) (Ls : List LD) : (named nm Ls).length ≤ Ls.length := List.length_filter_le _ _

set_option maxHeartbeats 4000000 in
set_option maxRecDepth 100000 in
theorem find_any (v : Value) (Ls : List LD) (nm : ByteArray) (w : World) (h : LinesAt w v Ls) (hN : Ls.length ≤ 1099511627776) (hsz : ∀ L ∈ Ls, Li.SzL 4194304 L) (hnm : nm.size ≤ 1048576) :
    Calls Tryz.prog 21 #[.agg #[v], .string nm] w fun e w' => (∃ u, e = .returned u ∧ LsOwn w.heap.size u (named nm.data.toList Ls) w') ∧ Below w.heap.size w w' := by
  obtain ⟨A, b, off, c, rfl, h1, h2, h3, h4⟩ := h
  obtain ⟨n, hn⟩ : ∃ n, Ls.length = n := ⟨_, rfl⟩
  rw [hn] at h1 h3 hN ⊢
  unfold maxLen at h2
  have hn' := Lib.hid hn
  have h3' := Lib.hid h3
  have h4' := Lib.hid h4
  have hsz' := Lib.hid hsz
  obtain ⟨w1, hw1⟩ : ∃ w1, w.alloc (.cells #[.slice A n c] 25) = w1 := ⟨_, rfl⟩
  have B1 : Below w.heap.size w w1 := by rw [← hw1]; exact (Below.refl _ _).alloc (Nat.le_refl _) _
  have hz1 : w.heap.size < w1.heap.size := by rw [← hw1]; simp
  have hbox : w1.cell? ⟨w.heap.size, 0, none⟩ = some (.slice A n c) := by rw [← hw1]; simp
  clear hn h3 h4 hsz
  go_enter Tryz.func21, Tryz.ntmps21
  go_wp2
  go_loopw [5, 11] (fun s5 s11 wr => ∃ k : Nat, s11 = .int .i64 (k : Int) ∧ k ≤ n ∧ Hid (LsOwn w.heap.size s5 (named nm.data.toList (Ls.take k)) wr) ∧ Below w.heap.size w wr) (fun s5 s11 wr => n - (RowKit.intOf s11).toNat)
  case atStart => exact ⟨0, rfl, Nat.zero_le _, Lib.hid (LsOwn.nil _ _), B1⟩
  case round =>
    obtain ⟨k, rfl, hk, hown, hbw⟩ := hrel
    by_cases hlt : k < n
    · have hl : Ls[k]? = some (Ls[k]'(by have := hn'.out; omega)) := List.getElem?_eq_getElem _
      obtain ⟨L, hle⟩ : ∃ L, Ls[k]'(by have := hn'.out; omega) = L := ⟨_, rfl⟩
      have hmem : L ∈ Ls := by rw [← hle]; exact List.getElem_mem _
      rw [hle] at hl
      obtain ⟨rfl, hg⟩ := h3'.out (by omega)
      obtain ⟨a1, a2, a4, pA, pn, pc, e1, e2, e4, hpn, hpp, g0, g1, g2, g3⟩ := LinesAt.line h4'.out hg hbw hl
      have hz := hsz'.out L hmem
      have d2 : a2.data.toList = L.name := sv_size e2
      obtain ⟨w6, hw6⟩ : ∃ w6, wr.alloc (.cells #[.string a1, .string a2, .slice pA pn pc, .string a4] 41) = w6 := ⟨_, rfl⟩
      have hb6 : Below wr.heap.size wr w6 := by rw [← hw6]; exact (Below.refl _ _).alloc (Nat.le_refl _) _
      have hk6 : w6.heap[wr.heap.size]? = some (.cells #[.string a1, .string a2, .slice pA pn pc, .string a4] 41 (0, 0)) := by rw [← hw6]; exact heap_alloc_new wr _
      obtain ⟨q0, q1, q2, q3, _, _, _, _⟩ := Li.res4 hk6
      have cM := Ch.same_any a2 nm w6 (by rw [Lib.size_eq, d2]; have := hz.n; omega) (by omega)
      rw [d2] at cM
      have hpp6 := hpp.kept hb6
      have hsn := named_snoc nm.data.toList Ls k L hl
      have hlen : (named nm.data.toList (Ls.take k)).length ≤ n := by
        have h1 := named_len nm.data.toList (Ls.take k)
        rw [List.length_take] at h1; omega
      have hd := Lib.hid (And.intro hsn (And.intro e1 (And.intro e2 e4)))
      have hpp' := Lib.hid hpp6
      have hk6' := Lib.hid hk6
      have hb6' := Lib.hid hb6
      have hzz := Lib.hid hz
      have hlen' := Lib.hid hlen
      have hbw' := Lib.hid hbw
      clear hle hl hmem e1 e2 e4 hpp hpp6 hsn hk6 hb6 hz d2 hlen hbw hpn
      go_wp2_with fail
      go_at_call 41
      with_reducible refine cM.mono ?_
      rintro e w7 ⟨rfl, hb7⟩
      have hbr7 := belowThen hb6'.out hb7
      have hk7 := Li.blk_below hb7 hk6'.out
      obtain ⟨p0, p1, p2, p3, _, _, _, _⟩ := Li.res4 hk7
      have hown7 := Lib.hid (hown.out.kept hbr7)
      have hbw7 := Lib.hid (belowThen hbw'.out hbr7)
      have hpp7 := Lib.hid (hpp'.out.kept hb7)
      have hbr7' := Lib.hid hbr7
      clear hbr7 hk7 q0 q1 q2 q3 g0 g1 g2 g3 cM hb7 hown hb6' hk6' hpp' hbw'
      by_cases hs : Ch.low L.name = Ch.low nm.data.toList
      · have hs2 : (Ch.low L.name == Ch.low nm.data.toList) = true := by rw [hs]; simp
        have hlat : LineAt w7 (.agg #[.string a1, .string a2, .slice pA pn pc, .string a4]) L := ⟨.slice pA pn pc, by rw [hd.out.2.1, hd.out.2.2.1, hd.out.2.2.2], hpp7.out⟩
        have cC := copyLine_any _ L w7 hlat (by have := hzz.out.k; omega) (fun p hp => by have := hzz.out.pk p hp; omega)
        clear hlat
        rw [hs2]
        go_wp2_with fail
        go_at_call 42
        with_reducible refine cC.mono ?_
        rintro e w8 ⟨⟨u, rfl, qv, hu, hqo⟩, hb8⟩
        rw [hd.out.2.1, hd.out.2.2.1, hd.out.2.2.2] at hu
        subst hu
        obtain ⟨qA, qn, qc, rfl⟩ : ∃ A n c, qv = .slice A n c := by obtain ⟨A, _, _, c, h, _⟩ := hqo.at; exact ⟨A, _, c, h⟩
        have hown8 := Lib.hid (hown7.out.kept hb8)
        have hbw8 := belowThen hbw7.out hb8
        have sz8 : w.heap.size ≤ w8.heap.size := hbw8.size
        have hqo8 := Lib.hid (hqo.less hbw7.out.size)
        have hbw8' := Lib.hid hbw8
        clear hb8 hbw8 hqo cC hown7 hbw7 hpp7 hbr7' p0 p1 p2 p3
        go_wp2_with (at_builtin; refine append_line L a1 a2 a4 (.slice qA qn qc) hd.out.2.1 hd.out.2.2.1 hd.out.2.2.2 ⟨_, _, _, rfl⟩ rfl _ _ rfl w.heap.size _ _ w8.heap.size rfl rfl rfl hown8.out hqo8.out (by have := hlen'.out; omega) sz8 ?_)
        intro v9 w9 hown9 hleft
        have hbw9 := hleft _ _ hbw8'.out (Nat.le_refl _) sz8
        have hR := Lib.hid hown9
        clear hown9 hleft hown8 hqo8 hbw8'
        go_wp2
        go_roundw
        case rel => exact ⟨k + 1, by go_num, by omega, Lib.hid (by rw [hd.out.1, if_pos hs]; exact hR.out), hbw9⟩
        case measure => simp [RowKit.intOf]; omega
      · have hs2 : (Ch.low L.name == Ch.low nm.data.toList) = false := beq_eq_false_iff_ne.2 hs
        rw [hs2]
        go_wp2_with fail
        go_roundw
        case rel => exact ⟨k + 1, by go_num, by omega, Lib.hid (by rw [hd.out.1, if_neg hs]; exact hown7.out), hbw7.out⟩
        case measure => simp [RowKit.intOf]; omega
    · have htk : Ls.take k = Ls := List.take_of_length_le (by have := hn'.out; omega)
      have hown2 := hown.out
      rw [htk] at hown2
      have hR := Lib.hid hown2
      clear hown hown2 htk
      go_wp2
      go_ret
      exact ⟨⟨_, rfl, hR.out⟩, hbw⟩
end Go.Proofs.YthnnpnlapjlnoaaGreatDoor.Ca
