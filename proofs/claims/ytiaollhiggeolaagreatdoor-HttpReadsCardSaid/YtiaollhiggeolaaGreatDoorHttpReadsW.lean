/-
  THE WALK OF THE LAW HttpReads.
-/
import Derived.Test.YtiaollhiggeolaaGreatDoorHttpRefRsp
import Derived.Test.YtiaollhiggeolaaGreatDoorHttpRefSame
import Derived.Test.YtiaollhiggeolaaGreatDoorHttpFirst
import Derived.Test.YtiaollhiggeolaaGreatDoorHttpCodeM
set_option linter.unusedVariables false
namespace Go.Proofs.YtiaollhiggeolaaGreatDoor.Ht
open Go.Lib Go.RowKit Go.Shelf

def flatQ : ((Row × Row) × List Fd × Row × Nat) ⊕ Int → Row × Row × Row × List Fd × Int × Int
  | .inl (x, fs, body, n) => (x.1, x.2, body, fs, (n : Int), 0)
  | .inr c => ([], [], [], [], 0, c)
def flatA : (Nat × List Fd × Row × Nat) ⊕ Int → Int × Row × List Fd × Int × Int
  | .inl (x, fs, body, n) => ((x : Int), body, fs, (n : Int), 0)
  | .inr c => (0, [], [], 0, c)
/-- a request's answer, whichever it is -/
theorem ansQ_form {r : ((Row × Row) × List Fd × Row × Nat) ⊕ Int} {e : Ending} {w : World} (h : AnsQ r e w) : ∃ (m t b : ByteArray) (fv : Value) (fs : List Fd) (n c : Int), e = .returned (.tuple #[.agg #[.string m, .string t, fv, .string b], .int .i64 n, .int .i64 c]) ∧ FsAt w fv fs ∧
    r = r ∧ (m.data.toList, t.data.toList, b.data.toList, fs, n, c) = flatQ r := by
  unfold AnsQ at h
  split at h
  · rename_i x fs body n
    obtain ⟨fv, rfl, hfs⟩ := h
    obtain ⟨m, hm, dm⟩ := sv_some x.1
    obtain ⟨t, ht, dt⟩ := sv_some x.2
    obtain ⟨b, hb, db⟩ := sv_some body
    exact ⟨m, t, b, fv, fs, n, 0, by rw [hm, ht, hb], hfs, rfl, by rw [dm, dt, db]; rfl⟩
  · rename_i c
    obtain ⟨fv, rfl, hfs⟩ := h
    exact ⟨⟨#[]⟩, ⟨#[]⟩, ⟨#[]⟩, fv, [], 0, c, rfl, hfs, rfl, rfl⟩
theorem ansA_form {r : (Nat × List Fd × Row × Nat) ⊕ Int} {e : Ending} {w : World} (h : AnsA r e w) : ∃ (x : Int) (b : ByteArray) (fv : Value) (fs : List Fd) (n c : Int), e = .returned (.tuple #[.agg #[.int .i64 x, fv, .string b], .int .i64 n, .int .i64 c]) ∧ FsAt w fv fs ∧
    (x, b.data.toList, fs, n, c) = flatA r := by
  unfold AnsA at h
  split at h
  · rename_i x fs body n
    obtain ⟨fv, rfl, hfs⟩ := h
    obtain ⟨b, hb, db⟩ := sv_some body
    exact ⟨x, b, fv, fs, n, 0, by rw [hb], hfs, by rw [db]; rfl⟩
  · rename_i c
    obtain ⟨fv, rfl, hfs⟩ := h
    exact ⟨0, ⟨#[]⟩, fv, [], 0, c, rfl, hfs, rfl⟩
set_option maxHeartbeats 8000000 in
set_option maxRecDepth 100000 in
theorem reads_walk (s : ByteArray) (w : World) (hs : s.size ≤ mostS) (hG : Gw w) :
    Calls Tryz.prog 3 #[.string s] w fun e w' => e = .returned (.bool true) ∧ Below w.heap.size w w' := by
  have c0 := first_any gw_keeps parseQ_any printA_any w hG
  have hG' := Lib.hid hG
  clear hG
  go_enter Tryz.func3, Tryz.ntmps3
  go_wp2_with fail
  go_at_call 4
  with_reducible refine c0.mono ?_
  rintro e w1 ⟨rfl, hb⟩
  have B1 := Lib.hid hb
  have c1 := parseQ_any s w1 hs (gw_keeps w w1 hG'.out hb)
  clear hb c0
  go_wp2_with fail
  go_at_call 5
  with_reducible refine c1.mono ?_
  rintro e w2 ⟨ha, hb⟩
  obtain ⟨m, t, b, fv, fs, n, c, rfl, hfs, _, hv⟩ := ansQ_form ha
  obtain ⟨A, cp, rfl⟩ := hfs.form
  have hO2 : (w2.alloc (.cells #[.string m, .string t, .slice A fs.length cp, .string b] 25)).heap[w2.heap.size]? = some (.cells #[.string m, .string t, .slice A fs.length cp, .string b] 25 (0, 0)) := heap_alloc_new w2 _
  have hb2 : Below w2.heap.size w2 (w2.alloc (.cells #[.string m, .string t, .slice A fs.length cp, .string b] 25)) := (Below.refl _ _).alloc (Nat.le_refl _) _
  have hz2 : w2.heap.size < (w2.alloc (.cells #[.string m, .string t, .slice A fs.length cp, .string b] 25)).heap.size := (Array.getElem?_eq_some_iff.1 hO2).1
  have B2 := Lib.hid (below_then (below_then B1.out hb) hb2)
  have F2 := Lib.hid (hfs.kept hb2)
  have c2 := refRequest_any s (w2.alloc (.cells #[.string m, .string t, .slice A fs.length cp, .string b] 25)) hs
  obtain ⟨N, hN⟩ : ∃ N, fs.length = N := ⟨_, rfl⟩
  rw [hN] at hO2 hb2 hz2 B2 F2 c2 ⊢
  have hO2' := Lib.hid hO2
  have hv' := Lib.hid hv
  have hN' := Lib.hid hN
  clear c1 ha hb hfs hv hN hO2 hb2 B1
  go_wp2_with fail
  go_at_call 6
  with_reducible refine c2.mono ?_
  rintro e w3 ⟨ha, hb⟩
  obtain ⟨m', t', b', fv', fs', n', c', rfl, hfs, _, hv⟩ := ansQ_form ha
  have hvv := hv'.out.trans hv.symm
  simp only [Prod.mk.injEq] at hvv
  obtain ⟨k1, k2, k3, k4, k5, k6⟩ := hvv
  obtain rfl := data_is k1
  obtain rfl := data_is k2
  obtain rfl := data_is k3
  subst k4 k5 k6
  obtain ⟨A', cp', rfl⟩ := hfs.form
  rw [hN'.out] at hfs ⊢
  have hO3 : (w3.alloc (.cells #[.string m, .string t, .slice A' N cp', .string b] 25)).heap[w3.heap.size]? = some (.cells #[.string m, .string t, .slice A' N cp', .string b] 25 (0, 0)) := heap_alloc_new w3 _
  have hb3 : Below w3.heap.size w3 (w3.alloc (.cells #[.string m, .string t, .slice A' N cp', .string b] 25)) := (Below.refl _ _).alloc (Nat.le_refl _) _
  have hO2b := (hb3.block _ (Nat.lt_of_lt_of_le hz2 hb.size)).trans ((hb.block _ hz2).trans hO2'.out)
  have B3 := Lib.hid (below_then (below_then B2.out hb) hb3)
  have F3 := (F2.out.kept hb).kept hb3
  have cS := refSame_any _ _ fs fs _ F3 (hfs.kept hb3)
  rw [decide_eq_true (rfl : fs = fs)] at cS
  obtain ⟨x0, x1, x2, x3, _, _, _, _⟩ := res4 hO2b
  obtain ⟨y0, y1, y2, y3, _, _, _, _⟩ := res4 hO3
  clear c2 ha hb hfs hv hv' hN' hO2' hb3 hO2b hO3 F3 F2 B2 hz2
  go_wp2_with fail
  go_at_call 7
  with_reducible refine cS.mono ?_
  rintro e w4 ⟨rfl, hb⟩
  have B4 := Lib.hid (below_then B3.out hb)
  have c3 := parseA_any s w4 hs (gw_keeps w w4 hG'.out B4.out)
  clear cS hb B3 x0 x1 x2 x3 y0 y1 y2 y3
  go_wp2_with fail
  go_at_call 8
  with_reducible refine c3.mono ?_
  rintro e w5 ⟨ha, hb⟩
  obtain ⟨q, d, gv, gs, j, f, rfl, hgs, hv⟩ := ansA_form ha
  obtain ⟨G5, cg, rfl⟩ := hgs.form
  obtain ⟨M, hM⟩ : ∃ M, gs.length = M := ⟨_, rfl⟩
  rw [hM] at hgs ⊢
  have hO5 : (w5.alloc (.cells #[.int .i64 q, .slice G5 M cg, .string d] 33)).heap[w5.heap.size]? = some (.cells #[.int .i64 q, .slice G5 M cg, .string d] 33 (0, 0)) := heap_alloc_new w5 _
  have hb5 : Below w5.heap.size w5 (w5.alloc (.cells #[.int .i64 q, .slice G5 M cg, .string d] 33)) := (Below.refl _ _).alloc (Nat.le_refl _) _
  have hz5 : w5.heap.size < (w5.alloc (.cells #[.int .i64 q, .slice G5 M cg, .string d] 33)).heap.size := (Array.getElem?_eq_some_iff.1 hO5).1
  have B5 := Lib.hid (below_then (below_then B4.out hb) hb5)
  have F5 := Lib.hid (hgs.kept hb5)
  have c4 := refResponse_any s (w5.alloc (.cells #[.int .i64 q, .slice G5 M cg, .string d] 33)) hs
  have hO5' := Lib.hid hO5
  have hv' := Lib.hid hv
  have hM' := Lib.hid hM
  clear c3 ha hb hgs hv hM hO5 hb5 B4
  go_wp2_with fail
  go_at_call 9
  with_reducible refine c4.mono ?_
  rintro e w6 ⟨ha, hb⟩
  obtain ⟨q', d', gv', gs', j', f', rfl, hgs, hv⟩ := ansA_form ha
  have hvv := hv'.out.trans hv.symm
  simp only [Prod.mk.injEq] at hvv
  obtain ⟨k1, k2, k3, k4, k5⟩ := hvv
  obtain rfl := data_is k2
  subst k1 k3 k4 k5
  obtain ⟨G6, cg', rfl⟩ := hgs.form
  rw [hM'.out] at hgs ⊢
  have hO6 : (w6.alloc (.cells #[.int .i64 q, .slice G6 M cg', .string d] 33)).heap[w6.heap.size]? = some (.cells #[.int .i64 q, .slice G6 M cg', .string d] 33 (0, 0)) := heap_alloc_new w6 _
  have hb6 : Below w6.heap.size w6 (w6.alloc (.cells #[.int .i64 q, .slice G6 M cg', .string d] 33)) := (Below.refl _ _).alloc (Nat.le_refl _) _
  have hO5b := (hb6.block _ (Nat.lt_of_lt_of_le hz5 hb.size)).trans ((hb.block _ hz5).trans hO5'.out)
  have B6 := Lib.hid (below_then (below_then B5.out hb) hb6)
  have F6 := (F5.out.kept hb).kept hb6
  have cS := refSame_any _ _ gs gs _ F6 (hgs.kept hb6)
  rw [decide_eq_true (rfl : gs = gs)] at cS
  obtain ⟨x0, x1, x2, _, _, _⟩ := res3 hO5b
  obtain ⟨y0, y1, y2, _, _, _⟩ := res3 hO6
  clear c4 ha hb hgs hv hv' hM' hO5' hb6 hO5b hO6 F6 F5 B5 hz5
  go_wp2_with fail
  go_at_call 7
  with_reducible refine cS.mono ?_
  rintro e w7 ⟨rfl, hb⟩
  have B7 := Lib.hid (below_then B6.out hb)
  clear cS hb B6 x0 x1 x2 y0 y1 y2
  go_wp2
  go_ret
  exact ⟨rfl, B7.out⟩
end Go.Proofs.YtiaollhiggeolaaGreatDoor.Ht
