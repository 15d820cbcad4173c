import Derived.Test.YthnnpnlapjlnoaaGreatDoorMg21
import Derived.Test.YthnnpnlapjlnoaaGreatDoorMg20
import Derived.Test.YthnnpnlapjlnoaaGreatDoorMg14
import Derived.Test.YthnnpnlapjlnoaaGreatDoorMg19
import Derived.Test.YthnnpnlapjlnoaaGreatDoorMg8

/-
  THE WALK OF fold.Fold.
-/
set_option linter.unusedVariables false
namespace Go.Proofs.YthnnpnlapjlnoaaGreatDoor.Fo
open Go.Lib Go.RowKit Bu

def Reads (w : World) (b off : Nat) (ls : List Row) : Prop := ∀ j, j < ls.length → w.cell? ⟨b, off + j, none⟩ = some (sv (ls.getD j []))
theorem Reads.below {w w' : World} {b off : Nat} {ls : List Row} (h : Reads w b off ls) (hb : b < w.heap.size) (hw : Below w.heap.size w w') : Reads w' b off ls := fun j hj => by
  rw [hw.cell (p := ⟨b, off + j, none⟩) hb]; exact h j hj
theorem Own.reads {B : Nat} {v : Value} {ls : List Row} {w : World} (h : Own B v ls w) : (v = .slice none 0 0 ∧ ls = []) ∨ ∃ g cap, v = .slice (some ⟨g, 0, none⟩) ls.length cap ∧ B ≤ g ∧ g < w.heap.size ∧ Reads w g 0 ls := by
  obtain ⟨h1, h2 | ⟨g, cap, cur, e1, e2, e3, e4, e5, e6, e7⟩⟩ := h
  · exact .inl ⟨h2.1, List.eq_nil_of_length_eq_zero h2.2⟩
  · right
    refine ⟨g, cap, e1, e2, (Array.getElem?_eq_some_iff.1 e3).1, fun j hj => ?_⟩
    have hc : w.cell? ⟨g, 0 + j, none⟩ = cur[j]? := by
      rw [Lib.cell_of_heap e3, Nat.zero_add]
    rw [hc]
    have : (cur.toList.take (ls.length * 1))[j]? = (ls.map sv)[j]? := by rw [e7]
    rw [List.getElem?_take, if_pos (by omega), List.getElem?_map] at this
    rw [← Array.getElem?_toList, this, List.getD_eq_getElem?_getD, List.getElem?_eq_getElem hj]
    rfl
theorem foldAll_take (ls : List Row) (k : Nat) (h : k < ls.length) : foldAll (ls.take (k + 1)) = foldAll (ls.take k) ++ foldL (ls.getD k []) := by
  rw [List.take_succ_eq_append_getElem h, List.getD_eq_getElem?_getD, List.getElem?_eq_getElem h]
  unfold foldAll
  rw [List.map_append, List.flatten_append]
  simp only [List.map_cons, List.map_nil, List.flatten_cons, List.flatten_nil, List.append_nil]
  rfl
theorem tot_take (ls : List Row) (k : Nat) (h : k < ls.length) : tot (ls.take k) + (ls.getD k []).length + 1 ≤ tot ls := by
  have e : ls = ls.take k ++ (ls.getD k [] :: ls.drop (k + 1)) := by
    conv => lhs; rw [← List.take_append_drop k ls, List.drop_eq_getElem_cons h]
    rw [List.getD_eq_getElem?_getD, List.getElem?_eq_getElem h]; rfl
  conv => rhs; rw [e, tot_append]
  have : tot (ls.getD k [] :: ls.drop (k + 1)) = (ls.getD k []).length + 1 + tot (ls.drop (k + 1)) := by simp [tot]
  omega

set_option maxHeartbeats 4000000 in
set_option maxRecDepth 100000 in
theorem fold_nil (w : World) : Calls Tryz.prog 90 #[.slice none 0 0] w fun e w' => e = .returned (.string ⟨#[]⟩) ∧ Below w.heap.size w w' := by
  go_enter Tryz.func90, Tryz.ntmps90
  go_wp2
  refine wp_loop_rounds 1 ?_
  rw [rounds_succ]
  go_wp2_with (go_at_call 69; refine (text_any w.heap.size w.heap.size [] _ (fresh w) (by simp)).mono ?_; rintro e w1 ⟨rfl, _, hb1⟩)
  go_ret
  exact ⟨rfl, ((Below.refl _ _).alloc (Nat.le_refl _) _).trans hb1⟩

set_option maxHeartbeats 4000000 in
set_option maxRecDepth 100000 in
theorem fold_some (b off cap : Nat) (ls : List Row) (w : World) (hT : Tabs w) (hb : b < w.heap.size) (hc : Reads w b off ls) (hs : tot ls ≤ 17179869184) :
    Calls Tryz.prog 90 #[.slice (some ⟨b, off, none⟩) ls.length cap] w fun e w' => e = .returned (.string ⟨(foldAll ls).toArray⟩) ∧ Below w.heap.size w w' := by
  have hT' := Lib.hid hT
  have hc' := Lib.hid hc
  obtain ⟨n, hn⟩ : ∃ n, ls.length = n := ⟨_, rfl⟩
  have hn9 : n ≤ 17179869184 := by have := tot_len ls; omega
  rw [hn]
  have hn' := Lib.hid hn
  have hs' := Lib.hid hs
  clear hT hc hn hs
  go_enter Tryz.func90, Tryz.ntmps90
  go_wp2
  go_loopw [8] (fun s8 wr => ∃ k : Nat, s8 = .int .i64 (k : Int) ∧ k ≤ n ∧ Bd w.heap.size w.heap.size (foldAll (ls.take k)) wr ∧ Below w.heap.size w wr) (fun s8 wr => n - (RowKit.intOf s8).toNat)
  case atStart => exact ⟨0, rfl, Nat.zero_le _, by simpa [foldAll] using fresh w, (Below.refl _ _).alloc (Nat.le_refl _) _⟩
  case round =>
    obtain ⟨k, rfl, hk, hbd, hbw⟩ := hrel
    by_cases hlt : k < n
    · have hkl : k < ls.length := by rw [hn'.out]; exact hlt
      have hcell : wr.cell? ⟨b, off + k, none⟩ = some (sv (ls.getD k [])) := by rw [hbw.cell (p := ⟨b, off + k, none⟩) hb]; exact hc'.out k hkl
      have htk := tot_take ls k hkl
      have hfl := foldAll_len (ls.take k)
      have hft := foldAll_take ls k hkl
      obtain ⟨x, hx⟩ : ∃ x : ByteArray, (⟨(ls.getD k []).toArray⟩ : ByteArray) = x := ⟨_, rfl⟩
      have hxd : x.data.toList = ls.getD k [] := by rw [← hx]
      unfold sv at hcell
      rw [hx] at hcell
      rw [← hxd] at htk hft
      rw [← Lib.size_eq] at htk
      have hx1 : x.size ≤ 1099511627776 := by have := hs'.out; omega
      have hx2 : (foldAll (ls.take k)).length + 4 * x.size ≤ 70368744177664 := by have := hs'.out; omega
      have hft' := Lib.hid hft
      have hbr := hbd.lt
      have cL := foldLine_any x (foldAll (ls.take k)) w.heap.size w.heap.size wr (fun W hW => tabs_below hT'.out (hbw.trans hW)) hbd hx1 hx2 (by omega)
      clear hx hxd htk hfl hft
      go_wp2_with (go_at_call 116; refine cL.mono ?_; rintro e w1 ⟨rfl, hbd1, hb1⟩)
      go_roundw
      case rel => exact ⟨k + 1, by go_num, by omega, by rw [hft'.out]; exact hbd1, hbw.trans hb1⟩
      case measure => simp [RowKit.intOf]; omega
    · have hfin : ls.take k = ls := List.take_of_length_le (by rw [hn'.out]; omega)
      have hfin' := Lib.hid hfin
      have hbr := hbd.lt
      clear hfin
      go_wp2_with (go_at_call 69; refine (text_any w.heap.size w.heap.size _ _ hbd (by omega)).mono ?_; rintro e w1 ⟨rfl, _, hb1⟩)
      go_ret
      exact ⟨by rw [hfin'.out]; rfl, hbw.trans hb1⟩
end Go.Proofs.YthnnpnlapjlnoaaGreatDoor.Fo

/-
  THE WALK OF card.write: the text of canonical lines.
-/
set_option linter.unusedVariables false
namespace Go.Proofs.YthnnpnlapjlnoaaGreatDoor.Ca
open Go.Lib Go.RowKit
open Li (LD PD sv LineAt PrmsAt pr chk SmallL)

/-- the rows of a card's text -/
def rowsT (Ls : List LD) : List Row := [bBegin, bVersion] ++ Ls.map pr ++ [bEnd]
theorem cardT_fold (Ls : List LD) : Fo.foldAll (rowsT Ls) = cardT Ls := by
  unfold rowsT cardT body headT Fo.foldAll
  rw [List.take_length]
  simp only [List.map_append, List.map_cons, List.map_nil, List.flatten_append, List.flatten_cons, List.flatten_nil, List.append_nil, List.map_map]
  congr 2

set_option maxHeartbeats 8000000 in
set_option maxRecDepth 100000 in
theorem write_any (v : Value) (Ls : List LD) (w : World) (h : LinesAt w v Ls) (hck : ∀ L ∈ Ls, chk L = 0) (hp : ∀ L ∈ Ls, (pr L).length ≤ 68719476736) (hlen : Ls.length ≤ 549755813888) (htot : Fo.tot (rowsT Ls) ≤ 17179869184) (hT : Ch.Tabs w) :
    Calls Tryz.prog 63 #[.agg #[v]] w fun e w' => (∃ x : ByteArray, x.data.toList = cardT Ls ∧ e = .returned (.string x)) ∧ Below w.heap.size w w' := by
  obtain ⟨A, b, off, c, rfl, h1, h2, h3, h4⟩ := h
  obtain ⟨n, hn⟩ : ∃ n, Ls.length = n := ⟨_, rfl⟩
  rw [hn] at h1 h3 hlen ⊢
  unfold maxLen at h2
  have hn' := Lib.hid hn
  have h3' := Lib.hid h3
  have h4' := Lib.hid h4
  have hck' := Lib.hid hck
  have hp' := Lib.hid hp
  have hT' := Lib.hid hT
  have htot' := Lib.hid htot
  have hcd' := Lib.hid (cardT_fold Ls)
  obtain ⟨Z, hZ⟩ : ∃ Z, w.heap.size = Z := ⟨_, rfl⟩
  obtain ⟨wB, hwB⟩ : ∃ wB, (w.alloc (.cells #[.slice A n c] 25)).alloc (.cells #[.string ⟨#[66, 69, 71, 73, 78, 58, 86, 67, 65, 82, 68]⟩, .string ⟨#[86, 69, 82, 83, 73, 79, 78, 58, 52, 46, 48]⟩] 9) = wB := ⟨_, rfl⟩
  have B0 : Below Z w wB := by rw [← hwB, ← hZ]; exact ((Below.refl _ _).alloc (Nat.le_refl _) _).alloc (by simp) _
  have hszB : wB.heap.size = Z + 2 := by rw [← hwB, ← hZ]; simp
  have hrow : wB.heap[Z + 1]? = some (.cells #[.string ⟨#[66, 69, 71, 73, 78, 58, 86, 67, 65, 82, 68]⟩, .string ⟨#[86, 69, 82, 83, 73, 79, 78, 58, 52, 46, 48]⟩] 9 (0, 0)) := by
    have := heap_alloc_new (w.alloc (.cells #[.slice A n c] 25)) (.cells #[.string ⟨#[66, 69, 71, 73, 78, 58, 86, 67, 65, 82, 68]⟩, .string ⟨#[86, 69, 82, 83, 73, 79, 78, 58, 52, 46, 48]⟩] 9)
    rw [← hwB, ← hZ]; simpa using this
  have hO0 : Va.Own (Z + 1) (.slice (some ⟨Z + 1, 0, none⟩) 2 2) [bBegin, bVersion] wB := ⟨rfl, .inr ⟨Z + 1, 2, _, rfl, Nat.le_refl _, hrow, Nat.le_refl _, by decide, rfl, rfl⟩⟩
  have hbox : wB.cell? ⟨Z, 0, none⟩ = some (.slice A n c) := by
    rw [← hwB, World.cell?_alloc_lt _ _ _ (by simp; omega), ← hZ]; simp
  have hszB1 : wB.heap.size ≤ Z + 2 := by omega
  have hszB2 : Z + 2 ≤ wB.heap.size := by omega
  have hO0' := Lib.hid hO0
  have hZ' := Lib.hid hZ
  have hbB : Below (Z + 1) wB wB := Below.refl _ _
  clear hn h3 h4 hck hp hT htot hrow hO0 hszB
  go_enter Tryz.func63, Tryz.ntmps63
  go_wp2
  clear hwB hZ
  go_loopw [3, 12] (fun s3 s12 wr => ∃ k : Nat, s12 = .int .i64 (k : Int) ∧ k ≤ n ∧ Hid (Va.Own (Z + 1) s3 ([bBegin, bVersion] ++ (Ls.take k).map pr) wr) ∧ Below (Z + 1) wB wr) (fun s3 s12 wr => n - (RowKit.intOf s12).toNat)
  case atStart => exact ⟨0, rfl, Nat.zero_le _, Lib.hid (by have q := hO0'.out; rw [List.take_zero]; exact q), hbB⟩
  case round =>
    obtain ⟨k, rfl, hk, hown, hbw1⟩ := hrel
    have hbw : Below Z w wr := B0.trans (hbw1.mono (by omega))
    have hszr := hbw1.size
    by_cases hlt : k < n
    · have hl : Ls[k]? = some (Ls[k]'(by have := hn'.out; omega)) := List.getElem?_eq_getElem _
      obtain ⟨L, hle⟩ : ∃ L, Ls[k]'(by have := hn'.out; omega) = L := ⟨_, rfl⟩
      have hmem : L ∈ Ls := by rw [← hle]; exact List.getElem_mem _
      rw [hle] at hl
      obtain ⟨rfl, hg⟩ := h3'.out (by omega)
      have hbwZ : Below w.heap.size w wr := by rw [hZ'.out]; exact hbw
      obtain ⟨a1, a2, a4, pA, pn, pc, e1, e2, e4, hpn, hpp, g0, g1, g2, g3⟩ := LinesAt.line h4'.out hg hbwZ hl
      have hLat : LineAt wr (.agg #[.string a1, .string a2, .slice pA pn pc, .string a4]) L := ⟨.slice pA pn pc, by rw [e1, e2, e4], hpp⟩
      have hbx : Below wr.heap.size wr (wr.alloc (.cells #[.string a1, .string a2, .slice pA pn pc, .string a4] 41)) := (Below.refl _ _).alloc (Nat.le_refl _) _
      have hprl := hp'.out L hmem
      have hc0 := hck'.out L hmem
      have cP := Li.print_any _ L _ (hLat.kept hbx) (Li.small_pr (by omega)) (by omega) (Ch.tabs_below hT'.out (belowThen hbwZ hbx))
      have cP2 := cP.mono (fun e w' h => (show (∃ s : ByteArray, s.data.toList = pr L ∧ e = .returned (.tuple #[.string s, .int .i64 0])) ∧ Below (wr.alloc (.cells #[.string a1, .string a2, .slice pA pn pc, .string a4] 41)).heap.size (wr.alloc (.cells #[.string a1, .string a2, .slice pA pn pc, .string a4] 41)) w' from ⟨(by
        rcases h.1 with ⟨h, _⟩ | ⟨_, h⟩
        · exact absurd hc0 h
        · exact h), h.2⟩))
      have htk : (Ls.take (k + 1)).map pr = (Ls.take k).map pr ++ [pr L] := by
        have hlk : k < Ls.length := (List.getElem?_eq_some_iff.1 hl).1
        rw [List.take_succ_eq_append_getElem hlk, hle, List.map_append]; rfl
      have htk' := Lib.hid htk
      clear hle hl hmem e1 e2 e4 hpn hpp hLat hprl hc0 cP htk hbwZ
      go_wp2_with fail
      go_at_call 40
      refine cP2.mono ?_
      rintro e w3 ⟨⟨s, hs, rfl⟩, hb3⟩
      have hB3 := belowThen hbx hb3
      have hown3 := Lib.hid (hown.out.kept hB3)
      have hBB := Lib.hid (hbw1.trans (hB3.mono (by omega)))
      have hs' := Lib.hid hs
      have sz3 : Z + 1 ≤ w3.heap.size := by have := hB3.size; omega
      clear cP2 hb3 hs hB3 g0 g1 g2 g3
      go_wp2_with (at_builtin; refine Va.append_str (w0 := w3) s rfl _ _ rfl (Z + 1) _ _ w3.heap.size rfl rfl rfl hown3.out ?c1 sz3 ?_)
      case c1 => simp; omega
      intro v7 w7 hown7 hleft7
      have hB7 : Below (Z + 1) wB w7 := hleft7 _ _ hBB.out (by omega) (by omega)
      have hown7' := Lib.hid hown7
      have hB7' := Lib.hid hB7
      clear hown7 hleft7 hB7
      go_wp2
      go_roundw
      case rel => exact ⟨k + 1, by go_num, by omega, Lib.hid (by rw [htk'.out, ← List.append_assoc]; have q := hown7'.out; rw [hs'.out] at q; first | exact q | (rw [← List.map_take] at q; exact q)), hB7'.out⟩
      case measure => simp [RowKit.intOf]; omega
    · obtain rfl : k = n := by omega
      have htk : Ls.take k = Ls := List.take_of_length_le (by have := hn'.out; omega)
      have hown2 := hown.out
      rw [htk] at hown2
      have hown3 := Lib.hid hown2
      have sz3 : Z + 1 ≤ wr.heap.size := by omega
      have hbw' := Lib.hid hbw
      clear htk hown hown2 hbw1
      go_wp2_with (at_builtin; refine Va.append_str (w0 := wr) ⟨#[69, 78, 68, 58, 86, 67, 65, 82, 68]⟩ rfl _ _ rfl (Z + 1) _ _ wr.heap.size rfl rfl rfl hown3.out ?c1 sz3 ?_)
      case c1 =>
        have := hn'.out
        simp
        omega
      intro v7 w7 hown7 hleft7
      have hB7 : Below w.heap.size w w7 := by rw [hZ'.out]; exact hleft7 _ _ hbw'.out (by omega) (by omega)
      have hown8 : Va.Own (Z + 1) v7 (rowsT Ls) w7 := hown7
      have hcall : Calls Tryz.prog 90 #[v7] w7 fun e w' => e = .returned (.string ⟨(Fo.foldAll (rowsT Ls)).toArray⟩) ∧ Below w7.heap.size w7 w' := by
        rcases Fo.Own.reads (show Fo.Own (Z + 1) v7 (rowsT Ls) w7 from hown8) with ⟨_, h⟩ | ⟨g, cap, rfl, _, hgl, hrd⟩
        · exact absurd h (by unfold rowsT; simp)
        · exact Fo.fold_some g 0 cap (rowsT Ls) w7 (Ch.tabs_below hT'.out hB7) hgl hrd htot'.out
      rw [hcd'.out] at hcall
      obtain ⟨x, hx⟩ : ∃ x : ByteArray, (⟨(cardT Ls).toArray⟩ : ByteArray) = x := ⟨_, rfl⟩
      have hxd := Lib.hid (show x.data.toList = cardT Ls by rw [← hx])
      rw [hx] at hcall
      have hB7' := Lib.hid hB7
      clear hown7 hown8 hleft7 hB7 hx
      go_wp2_with fail
      go_at_call 90
      refine hcall.mono ?_
      rintro e w8 ⟨rfl, hb8⟩
      go_wp2
      go_ret
      exact ⟨⟨x, hxd.out, rfl⟩, belowThen hB7'.out hb8⟩
end Go.Proofs.YthnnpnlapjlnoaaGreatDoor.Ca

/-
  THE WALKS OF card.canonical, card.Canon, card.Print.
-/
set_option linter.unusedVariables false
namespace Go.Proofs.YthnnpnlapjlnoaaGreatDoor.Ca
open Go.Lib Go.RowKit
open Li (LD PD sv LineAt PrmsAt pr chk SmallL)

theorem tot_rows (Ls : List LD) : Fo.tot (rowsT Ls) = 34 + prsum Ls := by
  unfold rowsT
  rw [Fo.tot_append, Fo.tot_append]
  have e1 : Fo.tot [bBegin, bVersion] = 24 := by decide
  have e2 : Fo.tot [bEnd] = 10 := by decide
  have e3 : Fo.tot (Ls.map pr) = prsum Ls := by unfold Fo.tot prsum; rw [List.map_map]; rfl
  omega
theorem smallC_of {Ls : List LD} (h : prsum Ls ≤ 134217728) : SmallC Ls := by
  have hp : ∀ L ∈ Ls, (pr L).length ≤ 134217728 := fun L hL => by have := prsum_mem hL; omega
  refine ⟨by have := prsum_len Ls; omega, fun L hL => Li.small_pr (by have := hp L hL; omega), fun L hL => by have := hp L hL; omega, fun L hL => ?_⟩
  have hs := Li.sz_pr (hp L hL)
  exact ⟨by have := hs.n; omega, by have := hs.v; omega⟩
theorem canC_of {Ls : List LD} (h : prsum Ls ≤ 134217728) (hc : checkE Ls = 0) : CanC Ls := by
  obtain ⟨h1, h2⟩ := checkE_zero.1 hc
  have hp : ∀ L ∈ Ls, (pr L).length ≤ 134217728 := fun L hL => by have := prsum_mem hL; omega
  exact ⟨by have := prsum_len Ls; omega, fun L hL => by have := hp L hL; omega, fun L hL => by have := (Li.sz_pr (hp L hL)).v; omega, right_anew h2, right_ne h2, fun L hL => name_ne (h1 L hL)⟩
/-- what canonical answers -/
def CanonP (B : Nat) (Ls : List LD) (e : Ending) (w' : World) : Prop :=
  (checkE Ls ≠ 0 ∧ e = .returned (.tuple #[.agg #[.slice none 0 0], .string ⟨#[]⟩, .int .i64 ((checkE Ls : Nat) : Int)])) ∨
  (checkE Ls = 0 ∧ 65536 < (cardT (canC Ls)).length ∧ e = .returned (.tuple #[.agg #[.slice none 0 0], .string ⟨#[]⟩, .int .i64 11])) ∨
  (checkE Ls = 0 ∧ (cardT (canC Ls)).length ≤ 65536 ∧ ∃ (A : Option Addr) (n c : Nat) (x : ByteArray), e = .returned (.tuple #[.agg #[.slice A n c], .string x, .int .i64 0]) ∧ x.data.toList = cardT (canC Ls) ∧ LsOwn B (.slice A n c) (canC Ls) w')
theorem checkE_lt (Ls : List LD) : checkE Ls < 100 := by
  unfold checkE
  split
  · unfold Li.chk; split
    · omega
    · split
      · omega
      · split <;> omega
  · split <;> omega

set_option maxHeartbeats 8000000 in
set_option maxRecDepth 100000 in
theorem canonical_any (v : Value) (Ls : List LD) (w : World) (h : LinesAt w v Ls) (hS : prsum Ls ≤ 67108864) (hT : Ch.Tabs w) :
    Calls Tryz.prog 37 #[.agg #[v]] w fun e w' => CanonP w.heap.size Ls e w' ∧ Below w.heap.size w w' := by
  have hK : ∀ W, Below w.heap.size w W → Calls Tryz.prog 19 #[.agg #[v]] W fun e w' => e = .returned (.int .i64 ((checkE Ls : Nat) : Int)) ∧ Below W.heap.size W w' := fun W hW => check_any v Ls W (h.kept hW) (smallC_of (by omega)) (Ch.tabs_below hT hW)
  obtain ⟨A0, n0, c0, hv⟩ : ∃ A n c, v = .slice A n c := by obtain ⟨A, _, _, c, h, _⟩ := h; exact ⟨A, _, c, h⟩
  obtain ⟨Z, hZ⟩ : ∃ Z, w.heap.size = Z := ⟨_, rfl⟩
  obtain ⟨w2, hw2⟩ : ∃ w2, (w.alloc (.cells #[.slice A0 n0 c0] 25)).alloc (.cells #[.slice none 0 0] 25) = w2 := ⟨_, rfl⟩
  have B2 : Below w.heap.size w w2 := by rw [← hw2]; exact ((Below.refl _ _).alloc (Nat.le_refl _) _).alloc (by simp) _
  have hbox : w2.cell? ⟨Z, 0, none⟩ = some (.slice A0 n0 c0) := by
    rw [← hw2, World.cell?_alloc_lt _ _ _ (by simp; omega), ← hZ]; simp
  have hres : w2.heap[Z + 1]? = some (.cells #[.slice none 0 0] 25 (0, 0)) := by
    have := heap_alloc_new (w.alloc (.cells #[.slice A0 n0 c0] 25)) (.cells #[.slice none 0 0] 25)
    rw [← hw2, ← hZ]; simpa using this
  have hz2 : Z + 2 ≤ w2.heap.size := by rw [← hw2, ← hZ]; simp
  have cK := hK w2 B2
  obtain ⟨ce, hce⟩ : ∃ ce, checkE Ls = ce := ⟨_, rfl⟩
  have hce9 : ce < 100 := by rw [← hce]; exact checkE_lt Ls
  rw [hce] at cK
  by_cases hc0 : ce = 0
  · -- a right card
    have hce0 : checkE Ls = 0 := hce.trans hc0
    have hcan : ∀ W, Below w.heap.size w W → Calls Tryz.prog 62 #[.agg #[v]] W fun e w' => (∃ u, e = .returned (.agg #[u]) ∧ LsOwn W.heap.size u (canC Ls) w') ∧ Below W.heap.size W w' := fun W hW => canonize_any v Ls W (h.kept hW) (canC_of (by omega) hce0)
    have hps := prsum_canC hce0
    have hwr : ∀ u W, Below w.heap.size w W → LinesAt W u (canC Ls) → Calls Tryz.prog 63 #[.agg #[u]] W fun e w' => (∃ x : ByteArray, x.data.toList = cardT (canC Ls) ∧ e = .returned (.string x)) ∧ Below W.heap.size W w' := fun u W hW hu =>
      write_any u (canC Ls) W hu (checkE_zero.1 (canC_check hce0)).1 (fun L hL => by have := prsum_mem hL; omega) (by have := prsum_len (canC Ls); omega) (by rw [tot_rows]; omega) (Ch.tabs_below hT hW)
    have hcan' := Lib.hid hcan
    have hwr' := Lib.hid hwr
    have hce0' := Lib.hid hce0
    have hres' := Lib.hid hres
    have hZ' := Lib.hid hZ
    have B2' := Lib.hid B2
    subst hc0
    subst hv
    clear hcan hwr hK hce hce0 hS hps hce9 hres B2 hT h
    go_enter Tryz.func37, Tryz.ntmps37
    go_wp2_with fail
    clear hZ
    go_at_call 19
    refine cK.mono ?_
    rintro e w3 ⟨rfl, hb3⟩
    have B3 := belowThen B2'.out hb3
    have hz3 : Z + 2 ≤ w3.heap.size := Nat.le_trans hz2 hb3.size
    have hbox3 : w3.cell? ⟨Z, 0, none⟩ = some (.slice A0 n0 c0) := (hb3.cell (p := ⟨Z, 0, none⟩) (by show Z < _; omega)).trans hbox
    have hres3 : w3.heap[Z + 1]? = some (.cells #[.slice none 0 0] 25 (0, 0)) := (hb3.block _ (by omega)).trans hres'.out
    have cC := hcan'.out w3 B3
    have B3' := Lib.hid B3
    have hres3' := Lib.hid hres3
    clear cK hb3 hbox hres3 B3
    go_wp2_with fail
    go_at_call 62
    refine cC.mono ?_
    rintro e w4 ⟨⟨u, rfl, ho⟩, hb4⟩
    obtain ⟨ua, uc, rfl⟩ := ho.form
    obtain ⟨un, hun⟩ : ∃ un, (canC Ls).length = un := ⟨_, rfl⟩
    rw [hun] at ho ⊢
    have hres4 : w4.heap[Z + 1]? = some (.cells #[.slice none 0 0] 25 (0, 0)) := (hb4.block _ (by omega)).trans hres3'.out
    have q4 : w4.cell? ⟨Z + 1, 0, none⟩ = some (.slice none 0 0) := by rw [Lib.cell_of_heap hres4]; rfl
    have f4 : w4.frozen? ⟨Z + 1, 0, none⟩ = false := Lib.frozen_of_heap hres4 0
    have B4 := belowThen B3'.out hb4
    obtain ⟨w5, hw5⟩ : ∃ w5, w4.setCell ⟨Z + 1, 0, none⟩ (.slice ua un uc) = w5 := ⟨_, rfl⟩
    have hres5 : w5.heap[Z + 1]? = some (.cells #[.slice ua un uc] 25 (0, 0)) := by rw [← hw5]; simp [World.setCell, Array.getElem?_modify, hres4]
    have q5 : w5.cell? ⟨Z + 1, 0, none⟩ = some (.slice ua un uc) := by rw [Lib.cell_of_heap hres5]; rfl
    have ho5 : LsOwn w3.heap.size (.slice ua un uc) (canC Ls) w5 := by rw [← hw5]; exact ho.stored (a := ⟨Z + 1, 0, none⟩) (by show Z + 1 < _; omega) _
    have B5 : Below w.heap.size w w5 := by rw [← hw5]; exact B4.setCell (p := ⟨Z + 1, 0, none⟩) (by show w.heap.size ≤ Z + 1; rw [hZ'.out]; omega) _
    have hz5 : w5.heap.size = w4.heap.size := by rw [← hw5]; simp
    have hz4 : Z + 2 ≤ w4.heap.size := Nat.le_trans hz3 hb4.size
    have cW := hwr'.out _ w5 B5 ho5.at
    have ho5' := Lib.hid ho5
    have B5' := Lib.hid B5
    have hres5' := Lib.hid hres5
    have hz5' : Z + 2 ≤ w5.heap.size := by omega
    clear cC ho hb4 hres4 ho5 B5 B4 hres5 hz5 hun
    go_wp2_with fail
    go_at_call 63
    refine cW.mono ?_
    rintro e w6 ⟨⟨x, hx, rfl⟩, hb6⟩
    have hres6 : w6.heap[Z + 1]? = some (.cells #[.slice ua un uc] 25 (0, 0)) := (hb6.block _ (by omega)).trans hres5'.out
    have q6 : w6.cell? ⟨Z + 1, 0, none⟩ = some (.slice ua un uc) := by rw [Lib.cell_of_heap hres6]; rfl
    have f6 : w6.frozen? ⟨Z + 1, 0, none⟩ = false := Lib.frozen_of_heap hres6 0
    have B6 := belowThen B5'.out hb6
    have ho6 := ho5'.out.kept hb6
    have hxl : x.size = (cardT (canC Ls)).length := by rw [Lib.size_eq, hx]
    by_cases hlong : 65536 < x.size
    · have hz : (65536 : Int) < (x.size : Int) := by omega
      have HP : Hid (CanonP w.heap.size Ls (.returned (.tuple #[.agg #[.slice none 0 0], .string ⟨#[]⟩, .int .i64 11])) (w6.setCell ⟨Z + 1, 0, none⟩ (.slice none 0 0)) ∧ Below w.heap.size w (w6.setCell ⟨Z + 1, 0, none⟩ (.slice none 0 0))) :=
        ⟨.inr (.inl ⟨hce0'.out, by rw [← hxl]; exact hlong, rfl⟩), B6.setCell (p := ⟨Z + 1, 0, none⟩) (by show w.heap.size ≤ Z + 1; rw [hZ'.out]; omega) _⟩
      have hres7 : (w6.setCell ⟨Z + 1, 0, none⟩ (.slice none 0 0)).heap[Z + 1]? = some (.cells #[.slice none 0 0] 25 (0, 0)) := by simp [World.setCell, Array.getElem?_modify, hres6]
      have q7 : (w6.setCell ⟨Z + 1, 0, none⟩ (.slice none 0 0)).cell? ⟨Z + 1, 0, none⟩ = some (.slice none 0 0) := by rw [Lib.cell_of_heap hres7]; rfl
      clear cW hb6 hres6 B6 ho6 hxl hx hlong hres7
      go_wp2
      exact bodyPost_ret (v := .tuple #[.agg #[.slice none 0 0], .string ⟨#[]⟩, .int .i64 11]) (by simp [results, Tryz.results37, go_sem, q7]) rfl HP.out
    · have hz : ¬ (65536 : Int) < (x.size : Int) := by omega
      have HP : Hid (CanonP w.heap.size Ls (.returned (.tuple #[.agg #[.slice ua un uc], .string x, .int .i64 0])) (w6.setCell ⟨Z + 1, 0, none⟩ (.slice ua un uc)) ∧ Below w.heap.size w (w6.setCell ⟨Z + 1, 0, none⟩ (.slice ua un uc))) :=
        ⟨.inr (.inr ⟨hce0'.out, by rw [← hxl]; omega, ua, un, uc, x, rfl, hx, (ho6.stored (a := ⟨Z + 1, 0, none⟩) (by show Z + 1 < _; omega) _).less (by rw [hZ'.out]; omega)⟩), B6.setCell (p := ⟨Z + 1, 0, none⟩) (by show w.heap.size ≤ Z + 1; rw [hZ'.out]; omega) _⟩
      have hres7 : (w6.setCell ⟨Z + 1, 0, none⟩ (.slice ua un uc)).heap[Z + 1]? = some (.cells #[.slice ua un uc] 25 (0, 0)) := by simp [World.setCell, Array.getElem?_modify, hres6]
      have q7 : (w6.setCell ⟨Z + 1, 0, none⟩ (.slice ua un uc)).cell? ⟨Z + 1, 0, none⟩ = some (.slice ua un uc) := by rw [Lib.cell_of_heap hres7]; rfl
      clear cW hb6 hres6 B6 ho6 hxl hx hlong hres7
      go_wp2
      exact bodyPost_ret (v := .tuple #[.agg #[.slice ua un uc], .string x, .int .i64 0]) (by simp [results, Tryz.results37, go_sem, q7]) rfl HP.out
  · have d0 : ¬ (ce : Int) = 0 := by omega
    have d0' : ((ce : Int) == 0) = false := beq_eq_false_iff_ne.2 d0
    have hce' := Lib.hid hce
    have hres' := Lib.hid hres
    have hZ' := Lib.hid hZ
    have B2' := Lib.hid B2
    subst hv
    clear hK hce hS hres B2 hT h
    go_enter Tryz.func37, Tryz.ntmps37
    go_wp2_with fail
    clear hZ
    go_at_call 19
    refine cK.mono ?_
    rintro e w3 ⟨rfl, hb3⟩
    have B3 := belowThen B2'.out hb3
    have hres3 : w3.heap[Z + 1]? = some (.cells #[.slice none 0 0] 25 (0, 0)) := (hb3.block _ (by omega)).trans hres'.out
    have q3 : w3.cell? ⟨Z + 1, 0, none⟩ = some (.slice none 0 0) := by rw [Lib.cell_of_heap hres3]; rfl
    have f3 : w3.frozen? ⟨Z + 1, 0, none⟩ = false := Lib.frozen_of_heap hres3 0
    have HP : Hid (CanonP w.heap.size Ls (.returned (.tuple #[.agg #[.slice none 0 0], .string ⟨#[]⟩, .int .i64 (ce : Int)])) (w3.setCell ⟨Z + 1, 0, none⟩ (.slice none 0 0)) ∧ Below w.heap.size w (w3.setCell ⟨Z + 1, 0, none⟩ (.slice none 0 0))) :=
      ⟨.inl ⟨by rw [hce'.out]; exact hc0, by rw [hce'.out]⟩, B3.setCell (p := ⟨Z + 1, 0, none⟩) (by show w.heap.size ≤ Z + 1; rw [hZ'.out]; omega) _⟩
    have hres7 : (w3.setCell ⟨Z + 1, 0, none⟩ (.slice none 0 0)).heap[Z + 1]? = some (.cells #[.slice none 0 0] 25 (0, 0)) := by simp [World.setCell, Array.getElem?_modify, hres3]
    have q7 : (w3.setCell ⟨Z + 1, 0, none⟩ (.slice none 0 0)).cell? ⟨Z + 1, 0, none⟩ = some (.slice none 0 0) := by rw [Lib.cell_of_heap hres7]; rfl
    clear cK hb3 hbox hres3 B3 hres7 hc0
    go_wp2
    exact bodyPost_ret (v := .tuple #[.agg #[.slice none 0 0], .string ⟨#[]⟩, .int .i64 (ce : Int)]) (by simp [results, Tryz.results37, go_sem, q7]) rfl HP.out
end Go.Proofs.YthnnpnlapjlnoaaGreatDoor.Ca

/-
  THE WALK OF card.Parse: what a text is read as.
-/
set_option linter.unusedVariables false
namespace Go.Proofs.YthnnpnlapjlnoaaGreatDoor.Ca
open Go.Lib Go.RowKit
open Li (LD PD sv LineAt PrmsAt LOwn pr parse chk)

/-- what Parse answers -/
def ParseC (t : Row) (e : Ending) (w' : World) : Prop := ∃ (A : Option Addr) (n c : Nat), e = .returned (.tuple #[.agg #[.slice A n c], .int .i64 (((pcard t).1 : Nat) : Int)]) ∧ LinesAt w' (.slice A n c) (pcard t).2
theorem linesNil (w : World) : LinesAt w (.slice none 0 0) [] := (LsOwn.nil 0 w).at
theorem parse_pr_le {rows : List Row} {Ls : List LD} (h : AllP rows Ls) : prsum Ls ≤ 3 * Fo.tot rows := by
  obtain ⟨h1, h2⟩ := h
  induction Ls generalizing rows with
  | nil => simp [prsum]
  | cons L Ls ih =>
    cases rows with
    | nil => simp at h1
    | cons r rows =>
      have h0 := Li.parse_len (h2 0 (by simp) (by simp))
      have := ih (rows := rows) (by simpa using h1) (fun i a b => by have := h2 (i + 1) (by simpa using a) (by simpa using b); simpa using this)
      unfold prsum Fo.tot at this ⊢
      simp only [List.map_cons, List.sum_cons]
      simp only [List.getElem_cons_zero] at h0
      omega
theorem parsed_chk {rows : List Row} {Ls : List LD} (h : AllP rows Ls) : ∀ L ∈ Ls, chk L = 0 := fun L hL => by
  obtain ⟨i, hi, rfl⟩ := List.getElem_of_mem hL
  exact Li.chk_good (Li.good_parse (h.2 i (by have := h.1; omega) hi))
theorem mid_mem {Ls : List LD} {L : LD} (h : L ∈ midL Ls) : L ∈ Ls := List.mem_of_mem_drop (List.mem_of_mem_take h)
theorem prsum_sub {Ls : List LD} : prsum (midL Ls) ≤ prsum Ls := by
  have e : Ls = Ls.take 2 ++ ((Ls.drop 2).take (Ls.length - 1 - 2) ++ (Ls.drop 2).drop (Ls.length - 1 - 2)) := by rw [List.take_append_drop, List.take_append_drop]
  unfold midL
  conv => rhs; rw [e]
  unfold prsum
  simp only [List.map_append, List.sum_append]
  omega
/-- the lines between, as the slice between reads -/
theorem LsOwn.mid {B : Nat} {v : Value} {Ls : List LD} {w : World} (h : LsOwn B v Ls w) (h3 : 3 ≤ Ls.length) : ∃ (g cap : Nat), v = .slice (some ⟨g, 0, none⟩) Ls.length cap ∧ Ls.length ≤ cap ∧ cap ≤ maxLen ∧ LinesAt w (.slice (some ⟨g, 8, none⟩) (Ls.length - 1 - 2) (cap - 2)) (midL Ls) := by
  have ha := h.at
  obtain ⟨vs, hl, ⟨h1, h2 | ⟨g, cap, cur, e1, e2, e3, e4, e5, e6, e7⟩⟩, hv⟩ := h
  · have := h2.2; omega
  · obtain ⟨A, b, off, c, q1, q2, q3, q4, q5⟩ := ha
    obtain ⟨rfl, hb⟩ := q4 (by omega)
    rw [e1] at q1
    injection q1 with q1 _ qc
    injection q1 with q1
    injection q1 with qb qo _
    subst qb; subst qo; subst qc
    have hml : (midL Ls).length = Ls.length - 1 - 2 := by unfold midL; simp; omega
    refine ⟨g, cap, e1, e4, e5, some ⟨g, 8, none⟩, g, 8, cap - 2, by rw [hml], by rw [hml]; omega, by omega, fun _ => ⟨rfl, hb⟩, fun j L hj => ?_⟩
    have hj2 : Ls[j + 2]? = some L := by
      unfold midL at hj
      rw [List.getElem?_take] at hj
      split at hj
      · rw [List.getElem?_drop] at hj
        rw [Nat.add_comm]; exact hj
      · cases hj
    have := q5 (j + 2) L hj2
    rw [show 0 + (j + 2) * 4 = 8 + j * 4 by omega] at this
    exact this

set_option maxHeartbeats 16000000 in
set_option maxRecDepth 100000 in
theorem parse_any (T : ByteArray) (w : World) (hs : T.size ≤ 1099511627776) (hT : Ch.Tabs w) :
    Calls Tryz.prog 10 #[.string T] w fun e w' => ParseC T.data.toList e w' ∧ Below w.heap.size w w' := by
  obtain ⟨Z, hZ⟩ : ∃ Z, w.heap.size = Z := ⟨_, rfl⟩
  obtain ⟨w1, hw1⟩ : ∃ w1, w.alloc (.cells #[.slice none 0 0] 25) = w1 := ⟨_, rfl⟩
  have B1 : Below w.heap.size w w1 := by rw [← hw1]; exact (Below.refl _ _).alloc (Nat.le_refl _) _
  have hres : w1.heap[Z]? = some (.cells #[.slice none 0 0] 25 (0, 0)) := by rw [← hw1, ← hZ]; exact heap_alloc_new w _
  have hz1 : Z + 1 ≤ w1.heap.size := by rw [← hw1, ← hZ]; simp
  -- an error's end: the zero card is stored once more
  have ERR : ∀ (n : Nat) (W : World), pcard T.data.toList = (n, []) → Below w1.heap.size w1 W → W.cell? ⟨Z, 0, none⟩ = some (.slice none 0 0) ∧ W.frozen? ⟨Z, 0, none⟩ = false ∧ (W.setCell ⟨Z, 0, none⟩ (.slice none 0 0)).cell? ⟨Z, 0, none⟩ = some (.slice none 0 0) ∧
      (ParseC T.data.toList (.returned (.tuple #[.agg #[.slice none 0 0], .int .i64 (n : Int)])) (W.setCell ⟨Z, 0, none⟩ (.slice none 0 0)) ∧ Below w.heap.size w (W.setCell ⟨Z, 0, none⟩ (.slice none 0 0))) := fun n W hn hb => by
    have hr : W.heap[Z]? = some (.cells #[.slice none 0 0] 25 (0, 0)) := (hb.block _ (by omega)).trans hres
    have hr2 : (W.setCell ⟨Z, 0, none⟩ (.slice none 0 0)).heap[Z]? = some (.cells #[.slice none 0 0] 25 (0, 0)) := by simp [World.setCell, Array.getElem?_modify, hr]
    refine ⟨by rw [Lib.cell_of_heap hr]; rfl, Lib.frozen_of_heap hr 0, by rw [Lib.cell_of_heap hr2]; rfl, ⟨none, 0, 0, by rw [hn], by rw [hn]; exact linesNil _⟩, ?_⟩
    exact (belowThen B1 hb).setCell (p := ⟨Z, 0, none⟩) (by show w.heap.size ≤ Z; omega) _
  have ERR' := Lib.hid ERR
  have hres' := Lib.hid hres
  have hT' := Lib.hid hT
  have B1' := Lib.hid B1
  have hZ' := Lib.hid hZ
  clear ERR hres hT B1
  by_cases hlong : 65536 < T.size
  · have hz : (65536 : Int) < (T.size : Int) := by omega
    have hp : pcard T.data.toList = (11, []) := by unfold pcard; rw [if_pos (by rw [← Lib.size_eq]; exact hlong)]
    obtain ⟨x1, x2, x3, x4⟩ := ERR'.out 11 w1 hp (Below.refl _ _)
    have X4 := Lib.hid x4
    clear hp hlong x4
    go_enter Tryz.func10, Tryz.ntmps10
    go_wp2
    exact bodyPost_ret (v := .tuple #[.agg #[.slice none 0 0], .int .i64 11]) (by simp [results, Tryz.results10, go_sem, x3]) rfl X4.out
  · have hz : ¬ (65536 : Int) < (T.size : Int) := by omega
    have hl : ¬ 65536 < T.data.toList.length := by rw [← Lib.size_eq]; exact hlong
    have cV := Ch.valid_any T w1 (by omega) (Ch.tabs_below hT'.out B1'.out)
    cases hv : Ch.valid T.data.toList with
    | false =>
      rw [hv] at cV
      have hp : pcard T.data.toList = (10, []) := by unfold pcard; rw [if_neg hl, if_neg (by rw [hv]; simp)]
      have hp' := Lib.hid hp
      clear hp hl hlong hv
      go_enter Tryz.func10, Tryz.ntmps10
      go_wp2_with fail
      clear hZ
      go_at_call 23
      refine cV.mono ?_
      rintro e w2 ⟨rfl, hb2⟩
      obtain ⟨x1, x2, x3, x4⟩ := ERR'.out 10 w2 hp'.out hb2
      have X4 := Lib.hid x4
      clear x4
      go_wp2
      exact bodyPost_ret (v := .tuple #[.agg #[.slice none 0 0], .int .i64 10]) (by simp [results, Tryz.results10, go_sem, x3]) rfl X4.out
    | true =>
      rw [hv] at cV
      have hp0 : pcard T.data.toList = pcR (Fo.R [] T.data.toList) := by unfold pcard; rw [if_neg hl, if_pos hv]
      have hp0' := Lib.hid hp0
      have hsl : T.size ≤ 65536 := by omega
      have hsl' := Lib.hid hsl
      clear hp0 hl hlong hv
      go_enter Tryz.func10, Tryz.ntmps10
      go_wp2_with fail
      clear hZ
      go_at_call 23
      refine cV.mono ?_
      rintro e w2 ⟨rfl, hb2⟩
      have cU := Fo.unfold_any T w2 (by have := hsl'.out; omega)
      have hb2' := Lib.hid hb2
      clear cV hb2
      go_wp2_with fail
      go_at_call 24
      refine cU.mono ?_
      rintro e w3 ⟨hu, hb3⟩
      have hB3 := Lib.hid (belowThen hb2'.out hb3)
      clear cU hb3
      rcases hu with ⟨v, rows, rfl, hR, hown⟩ | ⟨rfl, hR⟩
      · have htot := Fo.R_tot _ _ hR
        rw [← Lib.size_eq] at htot
        have htot2 : Fo.tot rows ≤ 65536 := by have := hsl'.out; omega
        have hSA : Li.StrsAt w3 v rows := (show Li.Own w2.heap.size v rows w3 from hown).at
        have hrl : ∀ r ∈ rows, r.length ≤ 1099511627776 := fun r hr => by have := Fo.tot_get rows r hr; omega
        have hrn : rows.length ≤ 1099511627776 := by have := Fo.tot_len rows; omega
        have hTw : ∀ W, Below w1.heap.size w1 W → Ch.Tabs W := fun W h => Ch.tabs_below hT'.out (belowThen B1'.out h)
        have cL := parseLines_any v rows w3 hSA hrl hrn (hTw _ hB3.out)
        have cF : ∀ W, Below w3.heap.size w3 W → Calls Tryz.prog 26 #[v] W fun e w' => e = .returned (.bool (framedR rows)) ∧ Below W.heap.size W w' := fun W hW => framed_any v rows W (hSA.kept hW) hrl hrn
        have hp1 := Lib.hid (hp0'.out.trans (by rw [hR]; rfl) : pcard T.data.toList = pc2 (lnF [] rows))
        obtain ⟨vA, vn, vc, rfl⟩ : ∃ A n c, v = .slice A n c := by obtain ⟨A, _, _, c, h, _⟩ := hSA; exact ⟨A, _, c, h⟩
        have cF' := Lib.hid cF
        have hTw' := Lib.hid hTw
        have htot' := Lib.hid htot2
        clear hSA hrl hrn hown hR htot hp0' cF hTw htot2
        go_wp2_with fail
        go_at_call 25
        refine cL.mono ?_
        rintro e w4 ⟨hL, hb4⟩
        have hB4 := Lib.hid (belowThen hB3.out hb4)
        clear cL
        rcases hL with ⟨m, p1, p2, p3, rfl⟩ | ⟨u, Ls, p1, p2, rfl, p3⟩
        · have hp2 : pcard T.data.toList = (m, []) := by
            rw [hp1.out, p1]; exact pc2_bad p2
          have d0 : ¬ (m : Int) = 0 := by omega
          have d0' : ((m : Int) == 0) = false := beq_eq_false_iff_ne.2 d0
          obtain ⟨x1, x2, x3, x4⟩ := ERR'.out m w4 hp2 hB4.out
          have X4 := Lib.hid x4
          clear x4 hp2 p1 p2 p3 hb4
          go_wp2
          exact bodyPost_ret (v := .tuple #[.agg #[.slice none 0 0], .int .i64 (m : Int)]) (by simp [results, Tryz.results10, go_sem, x3]) rfl X4.out
        · have cF4 := cF'.out w4 hb4
          have hfe := framed_eq p2
          rw [hfe] at cF4
          have hp2 : pcard T.data.toList = if framedL Ls = true ∧ rightB (midL Ls) = true then (0, midL Ls) else (50, []) := by rw [hp1.out, p1]; exact pc2_ok Ls
          obtain ⟨ua, uc, rfl⟩ := p3.form
          cases hfr : framedL Ls with
          | false =>
            rw [hfr] at cF4
            have hp3 := Lib.hid (hp2.trans (by rw [if_neg (by rw [hfr]; simp)]) : pcard T.data.toList = (50, []))
            clear hp2 p1 p2 p3 hfe hfr hb4
            go_wp2_with fail
            go_at_call 26
            refine cF4.mono ?_
            rintro e w5 ⟨rfl, hb5⟩
            obtain ⟨x1, x2, x3, x4⟩ := ERR'.out 50 w5 hp3.out (belowThen hB4.out hb5)
            have X4 := Lib.hid x4
            clear x4 hb5
            go_wp2
            exact bodyPost_ret (v := .tuple #[.agg #[.slice none 0 0], .int .i64 50]) (by simp [results, Tryz.results10, go_sem, x3]) rfl X4.out
          | true =>
            rw [hfr] at cF4
            have h3 : 3 ≤ Ls.length := by
              unfold framedL at hfr
              rw [Bool.and_eq_true, decide_eq_true_eq] at hfr
              exact hfr.1
            obtain ⟨g, cap, hv, hc1, hc2, hmid⟩ := p3.mid h3
            injection hv with hv1 hv2 hv3
            subst hv1; subst hv3
            have hps : prsum (midL Ls) ≤ 196608 := by
              have := parse_pr_le p2
              have := htot'.out
              have := prsum_sub (Ls := Ls)
              omega
            have hsc := smallC_of (Ls := midL Ls) (by omega)
            have cR : ∀ W, Below w4.heap.size w4 W → Calls Tryz.prog 27 #[.agg #[.slice (some ⟨g, 8, none⟩) (Ls.length - 1 - 2) (uc - 2)]] W fun e w' => e = .returned (.bool (rightB (midL Ls))) ∧ Below W.heap.size W w' := fun W hW => right_any _ (midL Ls) W (hmid.kept hW) hsc.m hsc.n
            obtain ⟨n, hn⟩ : ∃ n, Ls.length = n := ⟨_, rfl⟩
            rw [hn] at h3 hc1 cR ⊢
            rw [hn] at hmid
            unfold maxLen at hc2
            have hmid' := Lib.hid hmid
            have cR' := Lib.hid cR
            have hb4' := Lib.hid hb4
            have z1 : (2 : Int) ≤ (n : Int) - 1 := by omega
            have z2 : (n : Int) - 1 ≤ (uc : Int) := by omega
            have hfr' := Lib.hid hfr
            have hn' := Lib.hid hn
            have hown4 := Lib.hid p3
            clear p1 p2 p3 hfe hv2 hmid hps hsc cR hb4 hn hfr
            cases hr : rightB (midL Ls) with
            | false =>
              rw [hr] at cR'
              have hp3 := Lib.hid (hp2.trans (by rw [if_neg (by rw [hr]; simp)]) : pcard T.data.toList = (50, []))
              clear hp2 hr
              go_wp2_with fail
              go_at_call 26
              refine cF4.mono ?_
              rintro e w5 ⟨rfl, hb5⟩
              have hb6 : Below w5.heap.size w5 (w5.alloc (.cells #[.slice (some ⟨g, 8, none⟩) (n - 1 - 2) (uc - 2)] 25)) := (Below.refl _ _).alloc (Nat.le_refl _) _
              have cR5 := cR'.out _ (belowThen hb5 hb6)
              have hB6 := Lib.hid (belowThen (belowThen hB4.out hb5) hb6)
              clear hb5 hb6
              go_wp2_with fail
              go_at_call 27
              refine cR5.mono ?_
              rintro e w7 ⟨rfl, hb7⟩
              obtain ⟨x1, x2, x3, x4⟩ := ERR'.out 50 w7 hp3.out (belowThen hB6.out hb7)
              have X4 := Lib.hid x4
              clear x4 hb7 cR5
              go_wp2
              exact bodyPost_ret (v := .tuple #[.agg #[.slice none 0 0], .int .i64 50]) (by simp [results, Tryz.results10, go_sem, x3]) rfl X4.out
            | true =>
              rw [hr] at cR'
              have hp3 := Lib.hid (hp2.trans (by rw [if_pos ⟨hfr'.out, hr⟩]) : pcard T.data.toList = (0, midL Ls))
              clear hp2 hr
              go_wp2_with fail
              go_at_call 26
              refine cF4.mono ?_
              rintro e w5 ⟨rfl, hb5⟩
              have hb6 : Below w5.heap.size w5 (w5.alloc (.cells #[.slice (some ⟨g, 8, none⟩) (n - 1 - 2) (uc - 2)] 25)) := (Below.refl _ _).alloc (Nat.le_refl _) _
              have cR5 := cR'.out _ (belowThen hb5 hb6)
              have hB6 := Lib.hid (belowThen (belowThen hB4.out hb5) hb6)
              have hB56 := Lib.hid (belowThen hb5 hb6)
              have hk6 : (w5.alloc (.cells #[.slice (some ⟨g, 8, none⟩) (n - 1 - 2) (uc - 2)] 25)).heap[w5.heap.size]? = some (.cells #[.slice (some ⟨g, 8, none⟩) (n - 1 - 2) (uc - 2)] 25 (0, 0)) := heap_alloc_new w5 _
              have sz5 : Z < w5.heap.size := by have := (belowThen hB4.out hb5).size; omega
              clear hb5 hb6
              go_wp2_with fail
              go_at_call 27
              refine cR5.mono ?_
              rintro e w7 ⟨rfl, hb7⟩
              have hk7 : w7.heap[w5.heap.size]? = some (.cells #[.slice (some ⟨g, 8, none⟩) (n - 1 - 2) (uc - 2)] 25 (0, 0)) := (hb7.block _ (by simp)).trans hk6
              have q7 : w7.cell? ⟨w5.heap.size, 0, none⟩ = some (.slice (some ⟨g, 8, none⟩) (n - 1 - 2) (uc - 2)) := by rw [Lib.cell_of_heap hk7]; rfl
              have hB7 := belowThen hB6.out hb7
              have hr7 : w7.heap[Z]? = some (.cells #[.slice none 0 0] 25 (0, 0)) := (hB7.block _ (by omega)).trans hres'.out
              have r7 : w7.cell? ⟨Z, 0, none⟩ = some (.slice none 0 0) := by rw [Lib.cell_of_heap hr7]; rfl
              have f7 : w7.frozen? ⟨Z, 0, none⟩ = false := Lib.frozen_of_heap hr7 0
              have hr8 : (w7.setCell ⟨Z, 0, none⟩ (.slice (some ⟨g, 8, none⟩) (n - 1 - 2) (uc - 2))).heap[Z]? = some (.cells #[.slice (some ⟨g, 8, none⟩) (n - 1 - 2) (uc - 2)] 25 (0, 0)) := by simp [World.setCell, Array.getElem?_modify, hr7]
              have x3 : (w7.setCell ⟨Z, 0, none⟩ (.slice (some ⟨g, 8, none⟩) (n - 1 - 2) (uc - 2))).cell? ⟨Z, 0, none⟩ = some (.slice (some ⟨g, 8, none⟩) (n - 1 - 2) (uc - 2)) := by rw [Lib.cell_of_heap hr8]; rfl
              have hm7 : LinesAt (w7.setCell ⟨Z, 0, none⟩ (.slice (some ⟨g, 8, none⟩) (n - 1 - 2) (uc - 2))) (.slice (some ⟨g, 8, none⟩) (n - 1 - 2) (uc - 2)) (midL Ls) := by
                have q := ((hown4.out.kept (belowThen hB56.out hb7)).stored (a := ⟨Z, 0, none⟩) (by show Z < w3.heap.size; have := hB3.out.size; omega) (.slice (some ⟨g, 8, none⟩) (n - 1 - 2) (uc - 2))).mid (by rw [hn'.out]; exact h3)
                obtain ⟨g', cap', e, _, _, hm⟩ := q
                rw [hn'.out] at e hm
                injection e with e1 _ e3
                injection e1 with e1
                injection e1 with e1 _ _
                subst e1; subst e3
                exact hm
              have X4 : Hid (ParseC T.data.toList (.returned (.tuple #[.agg #[.slice (some ⟨g, 8, none⟩) (n - 1 - 2) (uc - 2)], .int .i64 0])) (w7.setCell ⟨Z, 0, none⟩ (.slice (some ⟨g, 8, none⟩) (n - 1 - 2) (uc - 2))) ∧ Below w.heap.size w (w7.setCell ⟨Z, 0, none⟩ (.slice (some ⟨g, 8, none⟩) (n - 1 - 2) (uc - 2)))) :=
                ⟨⟨some ⟨g, 8, none⟩, n - 1 - 2, uc - 2, by rw [hp3.out]; rfl, by rw [hp3.out]; exact hm7⟩, (belowThen B1'.out hB7).setCell (p := ⟨Z, 0, none⟩) (by show w.heap.size ≤ Z; rw [hZ'.out]; exact Nat.le_refl _) _⟩
              clear hb7 cR5 hk6 hk7 hB7 hr7 hr8 hm7
              go_wp2
              exact bodyPost_ret (v := .tuple #[.agg #[.slice (some ⟨g, 8, none⟩) (n - 1 - 2) (uc - 2)], .int .i64 0]) (by simp [results, Tryz.results10, go_sem, x3]) rfl X4.out
      · have hp3 := Lib.hid (hp0'.out.trans (by rw [hR]; rfl) : pcard T.data.toList = (20, []))
        obtain ⟨x1, x2, x3, x4⟩ := ERR'.out 20 w3 hp3.out hB3.out
        have X4 := Lib.hid x4
        clear x4 hR
        go_wp2
        exact bodyPost_ret (v := .tuple #[.agg #[.slice none 0 0], .int .i64 20]) (by simp [results, Tryz.results10, go_sem, x3]) rfl X4.out
end Go.Proofs.YthnnpnlapjlnoaaGreatDoor.Ca

/-
  THE WALKS OF card.Canon AND card.Print.
-/
set_option linter.unusedVariables false
namespace Go.Proofs.YthnnpnlapjlnoaaGreatDoor.Ca
open Go.Lib Go.RowKit
open Li (LD PD sv LineAt PrmsAt pr chk SmallL)

/-- the error of printing -/
def codeP (Ls : List LD) : Nat := if checkE Ls ≠ 0 then checkE Ls else if 65536 < (cardT (canC Ls)).length then 11 else 0
def textP (Ls : List LD) : Row := if codeP Ls = 0 then cardT (canC Ls) else []
def canonP (Ls : List LD) : List LD := if codeP Ls = 0 then canC Ls else []
theorem codeP_bad {Ls : List LD} (h : checkE Ls ≠ 0) : codeP Ls = checkE Ls := if_pos h
theorem codeP_long {Ls : List LD} (h : checkE Ls = 0) (h2 : 65536 < (cardT (canC Ls)).length) : codeP Ls = 11 := by unfold codeP; rw [if_neg (by simp [h]), if_pos h2]
theorem codeP_ok {Ls : List LD} (h : checkE Ls = 0) (h2 : (cardT (canC Ls)).length ≤ 65536) : codeP Ls = 0 := by unfold codeP; rw [if_neg (by simp [h]), if_neg (by omega)]
theorem codeP_lt (Ls : List LD) : codeP Ls < 100 := by
  unfold codeP
  have := checkE_lt Ls
  split
  · exact this
  · split <;> omega
theorem CanonP.all {B : Nat} {Ls : List LD} {e : Ending} {w' : World} (h : CanonP B Ls e w') : ∃ (A : Option Addr) (n c : Nat) (x : ByteArray), e = .returned (.tuple #[.agg #[.slice A n c], .string x, .int .i64 ((codeP Ls : Nat) : Int)]) ∧ x.data.toList = textP Ls ∧ LsOwn B (.slice A n c) (canonP Ls) w' := by
  rcases h with ⟨h1, h2⟩ | ⟨h1, h2, h3⟩ | ⟨h1, h2, A, n, c, x, h3, h4, h5⟩
  · have hc := codeP_bad h1
    refine ⟨none, 0, 0, ⟨#[]⟩, by rw [hc]; exact h2, ?_, ?_⟩
    · unfold textP; rw [hc, if_neg h1]
    · unfold canonP; rw [hc, if_neg h1]; exact LsOwn.nil _ _
  · have hc := codeP_long h1 h2
    refine ⟨none, 0, 0, ⟨#[]⟩, by rw [hc]; exact h3, ?_, ?_⟩
    · unfold textP; rw [hc]; rfl
    · unfold canonP; rw [hc]; exact LsOwn.nil _ _
  · have hc := codeP_ok h1 h2
    refine ⟨A, n, c, x, by rw [hc]; exact h3, ?_, ?_⟩
    · unfold textP; rw [hc, if_pos rfl]; exact h4
    · unfold canonP; rw [hc, if_pos rfl]; exact h5

set_option maxHeartbeats 8000000 in
set_option maxRecDepth 100000 in
theorem print_any (v : Value) (Ls : List LD) (w : World) (h : LinesAt w v Ls) (hS : prsum Ls ≤ 67108864) (hT : Ch.Tabs w) :
    Calls Tryz.prog 14 #[.agg #[v]] w fun e w' => (∃ x : ByteArray, x.data.toList = textP Ls ∧ e = .returned (.tuple #[.string x, .int .i64 ((codeP Ls : Nat) : Int)])) ∧ Below w.heap.size w w' := by
  obtain ⟨A0, n0, c0, rfl⟩ : ∃ A n c, v = .slice A n c := by obtain ⟨A, _, _, c, h, _⟩ := h; exact ⟨A, _, c, h⟩
  have B1 : Below w.heap.size w (w.alloc (.cells #[.slice A0 n0 c0] 25)) := (Below.refl _ _).alloc (Nat.le_refl _) _
  have cC := canonical_any _ Ls _ (h.kept B1) hS (Ch.tabs_below hT B1)
  obtain ⟨ce, hce⟩ : ∃ ce, codeP Ls = ce := ⟨_, rfl⟩
  have cC2 := cC.mono (fun e w' h => (show (∃ (A : Option Addr) (n c : Nat) (x : ByteArray), e = .returned (.tuple #[.agg #[.slice A n c], .string x, .int .i64 (ce : Int)]) ∧ x.data.toList = textP Ls) ∧ Below (w.alloc (.cells #[.slice A0 n0 c0] 25)).heap.size (w.alloc (.cells #[.slice A0 n0 c0] 25)) w' from ⟨(by
    obtain ⟨A, n, c, x, h1, h2, _⟩ := h.1.all
    rw [hce] at h1
    exact ⟨A, n, c, x, h1, h2⟩), h.2⟩))
  have hce' := Lib.hid hce
  clear cC h hS hT hce
  go_enter Tryz.func14, Tryz.ntmps14
  go_wp2_with fail
  go_at_call 37
  refine cC2.mono ?_
  rintro e w2 ⟨⟨A, n, c, x, rfl, hx⟩, hb2⟩
  have HX := Lib.hid hx
  have B2 := Lib.hid ((belowThen B1 hb2).alloc (by have := (belowThen B1 hb2).size; omega) (.cells #[.slice A n c] 25))
  clear hx cC2 hb2 B1
  go_wp2
  go_ret2
  exact ⟨⟨x, HX.out, by rw [hce'.out] <;> rfl⟩, B2.out⟩

set_option maxHeartbeats 8000000 in
set_option maxRecDepth 100000 in
theorem canon_any (v : Value) (Ls : List LD) (w : World) (h : LinesAt w v Ls) (hS : prsum Ls ≤ 67108864) (hT : Ch.Tabs w) :
    Calls Tryz.prog 18 #[.agg #[v]] w fun e w' => (∃ (A : Option Addr) (n c : Nat), e = .returned (.tuple #[.agg #[.slice A n c], .int .i64 ((codeP Ls : Nat) : Int)]) ∧ LsOwn w.heap.size (.slice A n c) (canonP Ls) w') ∧ Below w.heap.size w w' := by
  obtain ⟨A0, n0, c0, rfl⟩ : ∃ A n c, v = .slice A n c := by obtain ⟨A, _, _, c, h, _⟩ := h; exact ⟨A, _, c, h⟩
  obtain ⟨Z, hZ⟩ : ∃ Z, w.heap.size = Z := ⟨_, rfl⟩
  obtain ⟨w2, hw2⟩ : ∃ w2, (w.alloc (.cells #[.slice A0 n0 c0] 25)).alloc (.cells #[.slice none 0 0] 25) = w2 := ⟨_, rfl⟩
  have B2 : Below w.heap.size w w2 := by rw [← hw2]; exact ((Below.refl _ _).alloc (Nat.le_refl _) _).alloc (by simp) _
  have hbox : w2.cell? ⟨Z, 0, none⟩ = some (.slice A0 n0 c0) := by
    rw [← hw2, World.cell?_alloc_lt _ _ _ (by simp; omega), ← hZ]; simp
  have hres : w2.heap[Z + 1]? = some (.cells #[.slice none 0 0] 25 (0, 0)) := by
    have := heap_alloc_new (w.alloc (.cells #[.slice A0 n0 c0] 25)) (.cells #[.slice none 0 0] 25)
    rw [← hw2, ← hZ]; simpa using this
  have hz2 : Z + 2 ≤ w2.heap.size := by rw [← hw2, ← hZ]; simp
  have cC := canonical_any _ Ls _ (h.kept B2) hS (Ch.tabs_below hT B2)
  obtain ⟨ce, hce⟩ : ∃ ce, codeP Ls = ce := ⟨_, rfl⟩
  have cC2 := cC.mono (fun e w' h => (show (∃ (A : Option Addr) (n c : Nat) (x : ByteArray), e = .returned (.tuple #[.agg #[.slice A n c], .string x, .int .i64 (ce : Int)]) ∧ LsOwn w2.heap.size (.slice A n c) (canonP Ls) w') ∧ Below w2.heap.size w2 w' from ⟨(by
    obtain ⟨A, n, c, x, h1, _, h2⟩ := h.1.all
    rw [hce] at h1
    exact ⟨A, n, c, x, h1, h2⟩), h.2⟩))
  have hZ' := Lib.hid hZ
  have B2' := Lib.hid B2
  have hres' := Lib.hid hres
  have hce' := Lib.hid hce
  clear cC h hS hT hce B2 hres
  go_enter Tryz.func18, Tryz.ntmps18
  go_wp2_with fail
  clear hZ
  go_at_call 37
  refine cC2.mono ?_
  rintro e w3 ⟨⟨A, n, c, x, rfl, ho⟩, hb3⟩
  have B3 := belowThen B2'.out hb3
  obtain ⟨w4, hw4⟩ : ∃ w4, w3.alloc (.cells #[.slice A n c] 25) = w4 := ⟨_, rfl⟩
  have hb34 : Below w3.heap.size w3 w4 := by rw [← hw4]; exact (Below.refl _ _).alloc (Nat.le_refl _) _
  have hk4 : w4.heap[w3.heap.size]? = some (.cells #[.slice A n c] 25 (0, 0)) := by rw [← hw4]; exact heap_alloc_new w3 _
  have hres4 : w4.heap[Z + 1]? = some (.cells #[.slice none 0 0] 25 (0, 0)) := (hb34.block _ (by have := hb3.size; omega)).trans ((hb3.block _ (by omega)).trans hres'.out)
  have q4 : w4.cell? ⟨Z + 1, 0, none⟩ = some (.slice none 0 0) := by rw [Lib.cell_of_heap hres4]; rfl
  have f4 : w4.frozen? ⟨Z + 1, 0, none⟩ = false := Lib.frozen_of_heap hres4 0
  have p4 : w4.cell? ⟨w3.heap.size, 0, none⟩ = some (.slice A n c) := by rw [Lib.cell_of_heap hk4]; rfl
  have B4 := belowThen B3 hb34
  have ho4 := ho.kept hb34
  have HP : Hid (LsOwn w.heap.size (.slice A n c) (canonP Ls) (w4.setCell ⟨Z + 1, 0, none⟩ (.slice A n c)) ∧ Below w.heap.size w (w4.setCell ⟨Z + 1, 0, none⟩ (.slice A n c))) :=
    ⟨(ho4.stored (a := ⟨Z + 1, 0, none⟩) (by show Z + 1 < _; omega) _).less (by rw [hZ'.out]; omega), B4.setCell (p := ⟨Z + 1, 0, none⟩) (by show w.heap.size ≤ Z + 1; rw [hZ'.out]; omega) _⟩
  have hres7 : (w4.setCell ⟨Z + 1, 0, none⟩ (.slice A n c)).heap[Z + 1]? = some (.cells #[.slice A n c] 25 (0, 0)) := by simp [World.setCell, Array.getElem?_modify, hres4]
  have q7 : (w4.setCell ⟨Z + 1, 0, none⟩ (.slice A n c)).cell? ⟨Z + 1, 0, none⟩ = some (.slice A n c) := by rw [Lib.cell_of_heap hres7]; rfl
  clear cC2 hb3 B3 hb34 hk4 hres4 B4 ho4 ho hres7 hbox
  go_wp2
  exact bodyPost_ret (v := .tuple #[.agg #[.slice A n c], .int .i64 (ce : Int)]) (by simp [results, Tryz.results18, go_sem, q7]) rfl ⟨⟨A, n, c, by rw [hce'.out], HP.out.1⟩, HP.out.2⟩
end Go.Proofs.YthnnpnlapjlnoaaGreatDoor.Ca

/-
  THE LAWS' FIRST LINE.
-/
set_option linter.unusedVariables false
namespace Go.Proofs.YthnnpnlapjlnoaaGreatDoor.Ca
open Go.Lib Go.RowKit
open Li (LD PD)

def t1B : ByteArray := ⟨#[66, 69, 71, 73, 78, 58, 86, 67, 65, 82, 68, 10, 86, 69, 82, 83, 73, 79, 78, 58, 52, 46, 48, 10, 116, 101, 108, 58, 49, 10, 102, 110, 58, 65, 44, 66, 10, 69, 78, 68, 58, 86, 67, 65, 82, 68, 10]⟩
def t2B : ByteArray := ⟨#[66, 69, 71, 73, 78, 58, 86, 67, 65, 82, 68, 10, 86, 69, 82, 83, 73, 79, 78, 58, 52, 46, 48, 10, 69, 78, 68, 58, 86, 67, 65, 82, 68, 10]⟩
def l1 : LD := ⟨[], [116, 101, 108], [], [49]⟩
def l2 : LD := ⟨[], [102, 110], [], [65, 44, 66]⟩
def t3R : Row := [66, 69, 71, 73, 78, 58, 86, 67, 65, 82, 68, 13, 10, 86, 69, 82, 83, 73, 79, 78, 58, 52, 46, 48, 13, 10, 70, 78, 58, 65, 92, 44, 66, 13, 10, 84, 69, 76, 58, 49, 13, 10, 69, 78, 68, 58, 86, 67, 65, 82, 68, 13, 10]
theorem p1 : pcard t1B.data.toList = (0, [l1, l2]) := by kernel_rfl
theorem p2 : pcard t2B.data.toList = (50, []) := by kernel_rfl
theorem p3 : codeP [l1, l2] = 0 := by kernel_rfl
theorem p4 : textP [l1, l2] = t3R := by kernel_rfl
theorem p5 : prsum [l1, l2] ≤ 67108864 := by decide +kernel

set_option maxHeartbeats 4000000 in
set_option maxRecDepth 100000 in
theorem first_any (w : World) (hT : Ch.Tabs w) : Calls Tryz.prog 9 #[] w fun e w' => e = .returned (.bool true) ∧ Below w.heap.size w w' := by
  have c1 := parse_any t1B w (by decide) hT
  have c2 := fun W (hW : Below w.heap.size w W) => parse_any t2B W (by decide) (Ch.tabs_below hT hW)
  have c3 := fun v W (hW : Below w.heap.size w W) (hv : LinesAt W v [l1, l2]) => print_any v [l1, l2] W hv p5 (Ch.tabs_below hT hW)
  rw [p3, p4] at c3
  have c1' := c1.mono (fun e w' h => (show (∃ (A : Option Addr) (c : Nat), e = .returned (.tuple #[.agg #[.slice A 2 c], .int .i64 0]) ∧ LinesAt w' (.slice A 2 c) [l1, l2]) ∧ Below w.heap.size w w' from ⟨(by
    obtain ⟨A, n, c, h1, h2⟩ := h.1
    rw [p1] at h1 h2
    have : n = 2 := by obtain ⟨_, _, _, _, h, _⟩ := h2; injection h
    subst this
    exact ⟨A, c, h1, h2⟩), h.2⟩))
  have c2' := fun W hW => (c2 W hW).mono (fun e w' h => (show (∃ (A : Option Addr) (n c : Nat), e = .returned (.tuple #[.agg #[.slice A n c], .int .i64 50])) ∧ Below W.heap.size W w' from ⟨(by
    obtain ⟨A, n, c, h1, _⟩ := h.1
    rw [p2] at h1
    exact ⟨A, n, c, h1⟩), h.2⟩))
  have c2' := Lib.hid c2'
  have c3' := Lib.hid c3
  clear c1 c2 c3 hT
  unfold t1B at c1'
  unfold t2B at c2'
  go_enter Tryz.func9, Tryz.ntmps9
  go_wp2_with fail
  go_at_call 10
  refine c1'.mono ?_
  rintro e w1 ⟨⟨A, c, rfl, hL⟩, hb1⟩
  have hbx : Below w1.heap.size w1 (w1.alloc (.cells #[.slice A 2 c] 25)) := (Below.refl _ _).alloc (Nat.le_refl _) _
  have hB2 := belowThen hb1 hbx
  have hk2 : (w1.alloc (.cells #[.slice A 2 c] 25)).heap[w1.heap.size]? = some (.cells #[.slice A 2 c] 25 (0, 0)) := heap_alloc_new w1 _
  have cP := c3'.out _ _ hB2 (hL.kept hbx)
  have hB2' := Lib.hid hB2
  clear c1' hL hb1 hbx hB2 c3'
  go_wp2_with fail
  go_at_call 14
  refine cP.mono ?_
  rintro e w3 ⟨⟨x, hx, rfl⟩, hb3⟩
  obtain rfl : x = ⟨t3R.toArray⟩ := by rw [← Lib.mk_data x, hx]
  have hB3 := belowThen hB2'.out hb3
  have hk3 : w3.heap[w1.heap.size]? = some (.cells #[.slice A 2 c] 25 (0, 0)) := (hb3.block _ (by simp)).trans hk2
  have cQ := c2'.out w3 hB3
  have hB3' := Lib.hid hB3
  clear cP hx hb3 hB3 hk2 c2'
  go_wp2_with fail
  go_at_call 10
  refine cQ.mono ?_
  rintro e w4 ⟨⟨A', n', c', rfl⟩, hb4⟩
  have hbx : Below w4.heap.size w4 (w4.alloc (.cells #[.slice A' n' c'] 25)) := (Below.refl _ _).alloc (Nat.le_refl _) _
  have hk5 : (w4.alloc (.cells #[.slice A' n' c'] 25)).heap[w1.heap.size]? = some (.cells #[.slice A 2 c] 25 (0, 0)) := by
    have l3 := (Array.getElem?_eq_some_iff.1 hk3).1
    rw [hbx.block _ (by have := hb4.size; omega), hb4.block _ l3]; exact hk3
  have q5 : (w4.alloc (.cells #[.slice A' n' c'] 25)).cell? ⟨w1.heap.size, 0, none⟩ = some (.slice A 2 c) := by rw [Lib.cell_of_heap hk5]; rfl
  have hF := Lib.hid (belowThen hB3'.out (belowThen hb4 hbx))
  clear cQ hb4 hbx hk5 hk3
  unfold t3R
  go_wp2
  go_ret
  exact ⟨rfl, hF.out⟩
end Go.Proofs.YthnnpnlapjlnoaaGreatDoor.Ca
