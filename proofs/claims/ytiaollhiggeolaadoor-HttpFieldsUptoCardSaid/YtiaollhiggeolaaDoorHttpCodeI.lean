/-
  THE WALKS OF THE PROGRAM's LAYER http: ParseResponse, with the function that takes its first row.
-/
import Derived.Test.YtiaollhiggeolaaDoorHttpCodeH
set_option linter.unusedVariables false
namespace Go.Proofs.YtiaollhiggeolaaDoor.Ht
open Go.Lib Go.RowKit Go.Shelf

abbrev resO (n fv b : Value) : Obj := .cells #[n, fv, b] 26 (0, 0)
def RA (x : Nat) (o : Option Obj) : Prop := o = some (resO (.int .i64 (x : Int)) (.slice none 0 0) (.string ⟨#[]⟩))
set_option maxHeartbeats 4000000 in
set_option maxRecDepth 100000 in
theorem resRow_any (k0 : Nat) : FirstC 31 #[.pointer (some ⟨k0, 0, none⟩)] k0 (resO (.int .i64 0) (.slice none 0 0) (.string ⟨#[]⟩)) (QG firstA RA) := by
  intro r W hr hk
  have cR := responseRow_any r W (by omega)
  have hk' := Lib.hid hk
  clear hk
  show Calls Tryd.prog 31 #[.string r, .pointer (some ⟨k0, 0, none⟩)] W _
  go_enter Tryd.func31, Tryd.ntmps31
  go_wp2_with fail
  go_at_call 32
  with_reducible refine cR.mono ?_
  rintro e w1 ⟨⟨n, ok, hn, rfl, hq⟩, hb⟩
  have hO := (hb.block _ (Array.getElem?_eq_some_iff.1 hk'.out).1).trans hk'.out
  obtain ⟨c0, c1, c2, f0, f1, f2⟩ := res3 hO
  have hO' := Lib.hid hO
  have hb' := Lib.hid hb
  have hq' := Lib.hid hq
  clear hO hb hq cR
  go_wp2
  go_ret
  refine ⟨ok, rfl, ⟨n, ?_, hq'.out⟩, (but_of hb'.out k0).set0 0 _⟩
  unfold RA
  rw [set_at hO'.out 0 _]
  rfl
set_option maxHeartbeats 8000000 in
set_option maxRecDepth 100000 in
theorem parseA_any : ParseAC Gw := by
  intro s w hs hG
  have O1 : (w.alloc (.cells #[.int .i64 0, .slice none 0 0, .string ⟨#[]⟩] 26)).heap[w.heap.size]? = some (resO (.int .i64 0) (.slice none 0 0) (.string ⟨#[]⟩)) := heap_alloc_new w _
  have z1 : (w.alloc (.cells #[.int .i64 0, .slice none 0 0, .string ⟨#[]⟩] 26)).heap.size = w.heap.size + 1 := Array.size_push _
  have b1 : Below w.heap.size w (w.alloc (.cells #[.int .i64 0, .slice none 0 0, .string ⟨#[]⟩] 26)) := (Below.refl _ _).alloc (Nat.le_refl _) _
  obtain ⟨wa, hwa⟩ : ∃ wa, w.alloc (.cells #[.int .i64 0, .slice none 0 0, .string ⟨#[]⟩] 26) = wa := ⟨_, rfl⟩
  rw [hwa] at O1 z1 b1
  have O2 : (wa.alloc (.cells #[.int .i64 0, .slice none 0 0, .string ⟨#[]⟩] 26)).heap[wa.heap.size]? = some (resO (.int .i64 0) (.slice none 0 0) (.string ⟨#[]⟩)) := heap_alloc_new wa _
  have z2 : (wa.alloc (.cells #[.int .i64 0, .slice none 0 0, .string ⟨#[]⟩] 26)).heap.size = wa.heap.size + 1 := Array.size_push _
  have b2 : Below wa.heap.size wa (wa.alloc (.cells #[.int .i64 0, .slice none 0 0, .string ⟨#[]⟩] 26)) := (Below.refl _ _).alloc (Nat.le_refl _) _
  have O3 := (b2.block _ (by omega)).trans O1
  have b3 := below_then b1 b2
  obtain ⟨wb, hwb⟩ : ∃ wb, wa.alloc (.cells #[.int .i64 0, .slice none 0 0, .string ⟨#[]⟩] 26) = wb := ⟨_, rfl⟩
  rw [hwb] at O2 z2 b2 O3 b3
  rw [z1] at O2 z2
  have cM := read_any 31 #[.pointer (some ⟨w.heap.size + 1, 0, none⟩)] (w.heap.size + 1) _ _ (enters_of Tryd.func31 (by kernel_rfl) rfl) (resRow_any (w.heap.size + 1)) s wb (gw_keeps w wb hG b3) hs O2
  have O3' := Lib.hid O3
  have b3' := Lib.hid b3
  have z2' := Lib.hid z2
  clear O1 b1 O2 b2 O3 b3 z2 hG
  go_enter Tryd.func18, Tryd.ntmps18
  go_wp2_with fail
  go_at_call 27
  with_reducible refine cM.mono ?_
  rintro e w3 ⟨hR, hb⟩
  have O4 := Lib.hid ((hb.block _ (by have := z2'.out; omega) (by omega)).trans O3'.out)
  have B4 := Lib.hid (below_but b3'.out hb (Nat.le_succ _) (by have := z2'.out; omega))
  have hz3 : w.heap.size + 1 < w3.heap.size := by have := z2'.out; have := hb.size; omega
  clear cM O3' b3' hb z1
  rcases readM_of hR with ⟨c, hc, h1, rfl⟩ | ⟨x, fs, body, n, fv, h1, hx, rfl, hfs⟩
  · have hX : Hid (∀ W, AnsA (readA s.data.toList) (.returned (.tuple #[.agg #[.int .i64 0, .slice none 0 0, .string ⟨#[]⟩], .int .i64 0, .int .i64 c])) W) := Lib.hid fun W => by
      unfold readA; rw [h1]; exact ⟨.slice none 0 0, rfl, FsAt.nil W none⟩
    have q1 : ¬ c = 0 := by omega
    have q2 : (c != 0) = true := bne_iff_ne.2 q1
    have hb5 : Below w3.heap.size w3 (w3.alloc (.cells #[.slice none 0 0, .string ⟨#[]⟩, .int .i64 0] 60)) := (Below.refl _ _).alloc (Nat.le_refl _) _
    have O5 := (hb5.block _ (Array.getElem?_eq_some_iff.1 O4.out).1).trans O4.out
    obtain ⟨c0, c1, c2, f0, f1, f2⟩ := res3 O5
    have B5 := Lib.hid (B4.out.trans (hb5.mono (by omega)))
    clear h1 hR hb5 O5 hc
    go_wp2
    exact bodyPost_ret (v := .tuple #[.agg #[.int .i64 0, .slice none 0 0, .string ⟨#[]⟩], .int .i64 0, .int .i64 c]) (by simp [results, Tryd.results18, go_sem, c0, c1, c2]) rfl
      ⟨hX.out _, ((B5.out.setCell (p := ⟨w.heap.size, 0, none⟩) (Nat.le_refl _) _).setCell (p := ⟨w.heap.size, 1, none⟩) (Nat.le_refl _) _).setCell (p := ⟨w.heap.size, 2, none⟩) (Nat.le_refl _) _⟩
  · obtain ⟨A, cp, rfl⟩ := hfs.form
    obtain ⟨N, hN⟩ : ∃ N, fs.length = N := ⟨_, rfl⟩
    rw [hN] at hfs ⊢
    obtain ⟨y, hy, _⟩ := sv_some body
    unfold RA at hx
    rw [hy]
    have hX : Hid (∀ W, FsAt W (.slice A N cp) fs → AnsA (readA s.data.toList) (.returned (.tuple #[.agg #[.int .i64 (x : Int), .slice A N cp, .string y], .int .i64 (n : Int), .int .i64 0])) W) := Lib.hid fun W hW => by
      unfold readA; rw [h1]; exact ⟨.slice A N cp, by rw [hy], hW⟩
    have hb5 : Below w3.heap.size w3 (w3.alloc (.cells #[.slice A N cp, .string y, .int .i64 (n : Int)] 60)) := (Below.refl _ _).alloc (Nat.le_refl _) _
    have P5 : (w3.alloc (.cells #[.slice A N cp, .string y, .int .i64 (n : Int)] 60)).heap[w3.heap.size]? = some (.cells #[.slice A N cp, .string y, .int .i64 (n : Int)] 60 (0, 0)) := heap_alloc_new w3 _
    have O5 := (hb5.block _ (Array.getElem?_eq_some_iff.1 O4.out).1).trans O4.out
    have K5 := (hb5.block _ hz3).trans hx
    have F5 := FsOwn.kept hfs hb5
    have B5 := B4.out.trans (hb5.mono (by omega))
    clear hfs hx hR O4 B4 hb5 hN hy h1
    go_wp2_with fail
    generalize w3.alloc (.cells #[.slice A N cp, .string y, .int .i64 (n : Int)] 60) = w5 at P5 O5 K5 F5 B5 ⊢
    obtain ⟨p0, p1, p2, _, _, _⟩ := res3 P5
    obtain ⟨k0, k1, k2, g0, g1, g2⟩ := res3 K5
    have P5' := Lib.hid P5
    have O5' := Lib.hid O5
    have K5' := Lib.hid K5
    have F5' := Lib.hid F5
    have B5' := Lib.hid B5
    clear P5 O5 K5 F5 B5
    go_region
    have K6 : ((w5.setCell ⟨w.heap.size + 1, 1, none⟩ (.slice A N cp)).setCell ⟨w.heap.size + 1, 2, none⟩ (.string y)).drew.heap[w.heap.size + 1]? = some (resO (.int .i64 (x : Int)) (.slice A N cp) (.string y)) := set_at (set_at K5'.out 1 (.slice A N cp)) 2 (.string y)
    have O6 : ((w5.setCell ⟨w.heap.size + 1, 1, none⟩ (.slice A N cp)).setCell ⟨w.heap.size + 1, 2, none⟩ (.string y)).drew.heap[w.heap.size]? = some (resO (.int .i64 0) (.slice none 0 0) (.string ⟨#[]⟩)) :=
      (Below.heap_setCell _ ⟨w.heap.size + 1, 2, none⟩ (.string y) w.heap.size (by simp)).trans ((Below.heap_setCell w5 ⟨w.heap.size + 1, 1, none⟩ (.slice A N cp) w.heap.size (by simp)).trans O5'.out)
    have P6 : ((w5.setCell ⟨w.heap.size + 1, 1, none⟩ (.slice A N cp)).setCell ⟨w.heap.size + 1, 2, none⟩ (.string y)).drew.heap[w3.heap.size]? = some (.cells #[.slice A N cp, .string y, .int .i64 (n : Int)] 60 (0, 0)) :=
      (Below.heap_setCell _ ⟨w.heap.size + 1, 2, none⟩ (.string y) w3.heap.size (by show ¬ w3.heap.size = w.heap.size + 1; omega)).trans ((Below.heap_setCell w5 ⟨w.heap.size + 1, 1, none⟩ (.slice A N cp) w3.heap.size (by show ¬ w3.heap.size = w.heap.size + 1; omega)).trans P5'.out)
    have F6 : FsOwn wb.heap.size (.slice A N cp) fs ((w5.setCell ⟨w.heap.size + 1, 1, none⟩ (.slice A N cp)).setCell ⟨w.heap.size + 1, 2, none⟩ (.string y)).drew := fs_set (fs_set F5'.out (by show w.heap.size + 1 < wb.heap.size; have := z2'.out; omega) _) (by show w.heap.size + 1 < wb.heap.size; have := z2'.out; omega) _
    have B6 : Below w.heap.size w ((w5.setCell ⟨w.heap.size + 1, 1, none⟩ (.slice A N cp)).setCell ⟨w.heap.size + 1, 2, none⟩ (.string y)).drew := below_drewN 1 ((B5'.out.setCell (p := ⟨w.heap.size + 1, 1, none⟩) (Nat.le_succ _) _).setCell (p := ⟨w.heap.size + 1, 2, none⟩) (Nat.le_succ _) _)
    generalize ((w5.setCell ⟨w.heap.size + 1, 1, none⟩ (.slice A N cp)).setCell ⟨w.heap.size + 1, 2, none⟩ (.string y)).drew = w6 at K6 O6 P6 F6 B6 ⊢
    have hfin : FsOwn wb.heap.size (.slice A N cp) fs (((w6.setCell ⟨w.heap.size, 0, none⟩ (.int .i64 (x : Int))).setCell ⟨w.heap.size, 1, none⟩ (.slice A N cp)).setCell ⟨w.heap.size, 2, none⟩ (.string y)) := by
      have hl : w.heap.size < wb.heap.size := by have := z2'.out; omega
      exact fs_set (fs_set (fs_set F6 hl _) hl _) hl _
    have hX' := Lib.hid (hX.out _ (FsOwn.at (show FsOwn wb.heap.size (.slice A N cp) fs _ from hfin.kept (below_drewN 1 (Below.refl _ _)))))
    clear k0 k1 k2 g0 g1 g2 p0 p1 p2 P5' O5' K5' F5' B5' F6 hX hfin
    obtain ⟨p0, p1, p2, _, _, _⟩ := res3 P6
    obtain ⟨k0, k1, k2, _, _, _⟩ := res3 K6
    obtain ⟨c0, c1, c2, f0, f1, f2⟩ := res3 O6
    have B6' := Lib.hid B6
    clear P6 K6 O6 B6
    go_wp2_with fail
    go_region
    go_wp2
    exact bodyPost_ret (v := .tuple #[.agg #[.int .i64 (x : Int), .slice A N cp, .string y], .int .i64 (n : Int), .int .i64 0]) (by simp [results, Tryd.results18, go_sem, c0, c1, c2]) rfl
      ⟨hX'.out, below_drewN 1 (((B6'.out.setCell (p := ⟨w.heap.size, 0, none⟩) (Nat.le_refl _) _).setCell (p := ⟨w.heap.size, 1, none⟩) (Nat.le_refl _) _).setCell (p := ⟨w.heap.size, 2, none⟩) (Nat.le_refl _) _)⟩
end Go.Proofs.YtiaollhiggeolaaDoor.Ht
