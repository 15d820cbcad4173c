import Derived.Test.YthnnpnlapjlnoaaGreatDoorMg20
import Derived.Test.YthnnpnlapjlnoaaGreatDoorMg17
import Derived.Test.YthnnpnlapjlnoaaGreatDoorMg12
import Derived.Test.YthnnpnlapjlnoaaGreatDoorMg11
import Derived.Test.YthnnpnlapjlnoaaGreatDoorMg18
import Derived.Test.YthnnpnlapjlnoaaGreatDoorMg10
import Derived.Test.YthnnpnlapjlnoaaGreatDoorMg8
import Derived.Test.YthnnpnlapjlnoaaGreatDoorMg7
import Derived.Test.YthnnpnlapjlnoaaGreatDoorMg19
import Derived.BigQuiet
import Derived.Deep.QuietTactic
import Derived.Lib.IndexLaws
import Derived.IntWalk
import Derived.Lib.LaidU8T

/-
  THE WALK OF card.canonize: the card of the canonical lines of a right one.
-/
set_option linter.unusedVariables false
namespace Go.Proofs.YthnnpnlapjlnoaaGreatDoor.Ca
open Go.Shelf Go.RowKit Go.Lib Go.Sort
open Li (LD PD sv POwn LOwn LineAt PrmsAt pr canL res4)

/-- what canonize is asked: lines of a size that the calls take, all their values put anew -/
structure CanC (Ls : List LD) : Prop where
  n : Ls.length ≤ 1099511627776
  p : ∀ L ∈ Ls, (pr L).length ≤ 1099511627776
  v : ∀ L ∈ Ls, L.value.length ≤ 268435456
  a : ∀ L ∈ Ls, ∃ x, anewV (Ch.up L.name) L.value = some x
  ne : Ls ≠ []
  nm : ∀ L ∈ Ls, L.name ≠ []
theorem can1_eq {L : LD} {x : Row} (h : anewV (Ch.up L.name) L.value = some x) : can1 L = ⟨Ch.up L.group, Ch.up L.name, L.params.map Li.canP, x⟩ := by
  unfold can1
  show (⟨Ch.up L.group, Ch.up L.name, L.params.map Li.canP, (anew (Ch.up L.name) L.value).1⟩ : LD) = _
  rw [(anew_eq (Ch.up L.name) L.value).1 x h]
theorem up_ne {l : Row} (h : l ≠ []) : Ch.up l ≠ [] := fun e => h (List.eq_nil_of_length_eq_zero (by rw [← Ch.up_length, e]; rfl))

theorem LsOwn.stored {w : World} {B : Nat} {v : Value} {Ls : List LD} (h : LsOwn B v Ls w) {a : Addr} (ha : a.block < B) (u : Value) : LsOwn B v Ls (w.setCell a u) := by
  obtain ⟨vs, h1, h2, h3⟩ := h
  exact ⟨vs, h1, ownsRow_setCell_below h2 ha u, fun j p x hp hx => (h3 j p x hp hx).stored ha u⟩

set_option maxHeartbeats 8000000 in
set_option maxRecDepth 100000 in
theorem canonize_any (v : Value) (Ls : List LD) (w : World) (h : LinesAt w v Ls) (hS : CanC Ls) :
    Calls Tryz.prog 62 #[.agg #[v]] w fun e w' => (∃ u, e = .returned (.agg #[u]) ∧ LsOwn w.heap.size u (srt (Ls.map can1)) w') ∧ Below w.heap.size w w' := by
  obtain ⟨A, b, off, c, rfl, h1, h2, h3, h4⟩ := h
  obtain ⟨n, hn⟩ : ∃ n, Ls.length = n := ⟨_, rfl⟩
  have hlen := hS.n
  rw [hn] at h1 h3 hlen ⊢
  unfold maxLen at h2
  have hn' := Lib.hid hn
  have h3' := Lib.hid h3
  have h4' := Lib.hid h4
  have hS' := Lib.hid hS
  have B0 : Below w.heap.size w ((w.alloc (.cells #[.slice A n c] 25)).alloc (.cells #[.slice none 0 0] 25)) := ((Below.refl _ _).alloc (Nat.le_refl _) _).alloc (by simp) _
  have hres : ((w.alloc (.cells #[.slice A n c] 25)).alloc (.cells #[.slice none 0 0] 25)).heap[w.heap.size + 1]? = some (.cells #[.slice none 0 0] 25 (0, 0)) := by
    have := heap_alloc_new (w.alloc (.cells #[.slice A n c] 25)) (.cells #[.slice none 0 0] 25)
    simpa using this
  have hszB : ((w.alloc (.cells #[.slice A n c] 25)).alloc (.cells #[.slice none 0 0] 25)).heap.size = w.heap.size + 2 := by simp
  obtain ⟨Z, hZ⟩ : ∃ Z, w.heap.size = Z := ⟨_, rfl⟩
  clear hn h3 h4 hS
  go_enter Tryz.func62, Tryz.ntmps62
  go_wp2
  obtain ⟨wB, hwB⟩ : ∃ wB, (w.alloc (.cells #[.slice A n c] 25)).alloc (.cells #[.slice none 0 0] 25) = wB := ⟨_, rfl⟩
  rw [hwB] at B0 hres hszB ⊢
  rw [hZ] at hres hszB
  have hszB1 : wB.heap.size ≤ Z + 2 := by omega
  have hszB2 : Z + 2 ≤ wB.heap.size := by omega
  have hres' := Lib.hid hres
  have hZ' := Lib.hid hZ
  have hbB : Below wB.heap.size wB wB := Below.refl _ _
  clear hwB hszB hres
  rw [hZ] at B0
  clear hZ
  go_loopw [3, 11] (fun s3 s11 wr => ∃ k : Nat, s11 = .int .i64 (k : Int) ∧ k ≤ n ∧ Hid (LsOwn (Z + 2) s3 ((Ls.take k).map can1) wr) ∧ Below wB.heap.size wB wr) (fun s3 s11 wr => n - (RowKit.intOf s11).toNat)
  case atStart => exact ⟨0, rfl, Nat.zero_le _, Lib.hid (by rw [List.take_zero]; exact LsOwn.nil _ _), hbB⟩
  case round =>
    obtain ⟨k, rfl, hk, hown, hbw1⟩ := hrel
    have hbw : Below Z w wr := B0.trans (hbw1.mono (by omega))
    have hszr := hbw1.size
    by_cases hlt : k < n
    · have hl : Ls[k]? = some (Ls[k]'(by have := hn'.out; omega)) := List.getElem?_eq_getElem _
      obtain ⟨L, hle⟩ : ∃ L, Ls[k]'(by have := hn'.out; omega) = L := ⟨_, rfl⟩
      have hmem : L ∈ Ls := by rw [← hle]; exact List.getElem_mem _
      rw [hle] at hl
      obtain ⟨rfl, hg⟩ := h3'.out (by omega)
      have hbwZ : Below w.heap.size w wr := by rw [hZ'.out]; exact hbw
      obtain ⟨a1, a2, a4, pA, pn, pc, e1, e2, e4, hpn, hpp, g0, g1, g2, g3⟩ := LinesAt.line h4'.out hg hbwZ hl
      obtain ⟨x, hx⟩ := hS'.out.a L hmem
      have hsz := Li.sz_pr (hS'.out.p L hmem)
      have hvl := hS'.out.v L hmem
      have hcan := can1_eq hx
      have hLat : LineAt wr (.agg #[.string a1, .string a2, .slice pA pn pc, .string a4]) L := ⟨.slice pA pn pc, by rw [e1, e2, e4], hpp⟩
      have hbx : Below wr.heap.size wr (wr.alloc (.cells #[.string a1, .string a2, .slice pA pn pc, .string a4] 41)) := (Below.refl _ _).alloc (Nat.le_refl _) _
      have cC := Li.canon_any _ L _ (hLat.kept hbx) (by have := hsz.g; omega) (by have := hsz.n; omega) (fun p hp => by have := hsz.pn p hp; omega) hsz.k (fun p hp => by have := hsz.pk p hp; omega)
      have d4 : a4.data.toList = L.value := by unfold sv at e4; injection e4 with e4; rw [← e4]
      have s4 : a4.size ≤ 268435456 := by rw [Lib.size_eq, d4]; exact hvl
      have htk : (Ls.take (k + 1)).map can1 = (Ls.take k).map can1 ++ [can1 L] := by
        have hlk : k < Ls.length := (List.getElem?_eq_some_iff.1 hl).1
        rw [List.take_succ_eq_append_getElem hlk, hle, List.map_append]; rfl
      have hkl : ((Ls.take k).map can1).length = k := by rw [List.length_map, List.length_take]; have := hn'.out; omega
      have htk' := Lib.hid htk
      have hcan' := Lib.hid hcan
      have hx' := Lib.hid hx
      have d4' := Lib.hid d4
      have e4' := Lib.hid e4
      have hkl' := Lib.hid hkl
      clear hle hl hmem e1 e2 e4 hpn hpp hLat hx hcan htk hkl d4 hsz hvl hbwZ
      go_wp2_with fail
      go_at_call 85
      refine cC.mono ?_
      rintro e w3 ⟨⟨u, rfl, qv, hu, hqo⟩, hb3⟩
      obtain ⟨y1, ey1, hy1⟩ := Li.sv_some (canL L).group
      obtain ⟨y2, ey2, hy2⟩ := Li.sv_some (canL L).name
      have ey4 : sv (canL L).value = .string a4 := e4'.out
      rw [ey1, ey2, ey4] at hu
      subst hu
      obtain ⟨qA, qn, qc, rfl⟩ : ∃ A n c, qv = .slice A n c := by obtain ⟨A, _, _, c, h, _⟩ := hqo.at; exact ⟨A, _, c, h⟩
      have hB3 := belowThen hbx hb3
      have cA := fun W => cAnew_any y2 a4 W s4
      have hy2u : y2.data.toList = Ch.up L.name := hy2
      rw [hy2u, d4'.out] at cA
      have cA2 : ∀ W, Calls Tryz.prog 78 #[.string y2, .string a4] W fun e w' => (∃ z : ByteArray, z.data.toList = x ∧ e = .returned (.tuple #[.string z, .int .i64 0])) ∧ Below W.heap.size W w' := fun W => (cA W).mono fun e w' ⟨h1, h2⟩ => ⟨(by
        rcases h1 with ⟨h, _⟩ | ⟨z, h, h'⟩
        · rw [hx'.out] at h; cases h
        · rw [hx'.out] at h; exact ⟨z, (Option.some.inj h).symm, h'⟩), h2⟩
      have hyy := Lib.hid (And.intro (show y1.data.toList = Ch.up L.group from hy1) hy2u)
      have hqo' := Lib.hid hqo
      have sz3 : wr.heap.size + 1 ≤ w3.heap.size := by have := hb3.size; simpa using this
      clear cA hy1 hy2 hy2u hqo ey1 ey2 ey4 hb3 cC g0 g1 g2 g3
      go_wp2_with fail
      have hk4 : (w3.alloc (.cells #[.string y1, .string y2, .slice qA qn qc, .string a4] 41)).heap[w3.heap.size]? = some (.cells #[.string y1, .string y2, .slice qA qn qc, .string a4] 41 (0, 0)) := heap_alloc_new w3 _
      have hb4 : Below w3.heap.size w3 (w3.alloc (.cells #[.string y1, .string y2, .slice qA qn qc, .string a4] 41)) := (Below.refl _ _).alloc (Nat.le_refl _) _
      go_at_call 78
      refine (cA2 _).mono ?_
      rintro e w5 ⟨⟨z, hz, rfl⟩, hb5⟩
      have hk5 : w5.heap[w3.heap.size]? = some (.cells #[.string y1, .string y2, .slice qA qn qc, .string a4] 41 (0, 0)) := (hb5.block _ (by simp)).trans hk4
      obtain ⟨p0, p1, p2, p3, r0, r1, r2, r3⟩ := res4 hk5
      have hb35 : Below w3.heap.size w3 w5 := belowThen hb4 hb5
      obtain ⟨w6, hw6⟩ : ∃ w6, w5.setCell ⟨w3.heap.size, 3, none⟩ (.string z) = w6 := ⟨_, rfl⟩
      have hb36 : Below w3.heap.size w3 w6 := by rw [← hw6]; exact hb35.setCell (p := ⟨w3.heap.size, 3, none⟩) (Nat.le_refl _) _
      have hk6 : w6.heap[w3.heap.size]? = some (.cells #[.string y1, .string y2, .slice qA qn qc, .string z] 41 (0, 0)) := by
        rw [← hw6]; simp [World.setCell, Array.getElem?_modify, hk5]
      obtain ⟨m0, m1, m2, m3, _, _, _, _⟩ := res4 hk6
      have hbr6 : Below wr.heap.size wr w6 := belowThen hB3 hb36
      have hown6 := hown.out.kept hbr6
      have hqo6 : POwn (Z + 2) (.slice qA qn qc) (L.params.map Li.canP) w6 := (hqo'.out.kept hb36).less (by simp; omega)
      have hB6 : Below wB.heap.size wB w6 := belowThen hbw1 hbr6
      have sz6 : Z + 2 ≤ w6.heap.size := Nat.le_trans (Nat.le_trans hszB2 hszr) hbr6.size
      have hz' := Lib.hid hz
      have hown6' := Lib.hid hown6
      have hqo6' := Lib.hid hqo6
      have hB6' := Lib.hid hB6
      clear hz hk4 hb4 hb5 hk5 hb35 hb36 hk6 hbr6 hown6 hqo6 hB6 cA2 hown
      go_wp2_with (at_builtin; refine append_line (can1 L) y1 y2 z (.slice qA qn qc) ?i1 ?i2 ?i3 ⟨_, _, _, rfl⟩ rfl _ _ rfl (Z + 2) _ _ w6.heap.size rfl rfl rfl hown6'.out ?i4 ?i5 sz6 ?_)
      case i1 => rw [hcan'.out]; show Li.sv (Ch.up L.group) = _; rw [← hyy.out.1]; exact Li.sv_data _
      case i2 => rw [hcan'.out]; show Li.sv (Ch.up L.name) = _; rw [← hyy.out.2]; exact Li.sv_data _
      case i3 => rw [hcan'.out]; show Li.sv x = _; rw [← hz'.out]; exact Li.sv_data _
      case i4 => rw [hcan'.out]; exact hqo6'.out
      case i5 => rw [hkl'.out]; omega
      intro v7 w7 hown7 hleft7
      have hB7 : Below wB.heap.size wB w7 := hleft7 _ _ hB6'.out (by omega) (by omega)
      have hown7' := Lib.hid hown7
      have hB7' := Lib.hid hB7
      clear hown7 hleft7 hB7
      go_wp2
      go_roundw
      case rel => exact ⟨k + 1, by go_num, by omega, Lib.hid (by rw [htk'.out]; have q := hown7'.out; rw [← List.map_take] at q; exact q), hB7'.out⟩
      case measure => simp [RowKit.intOf]; omega
    · obtain rfl : k = n := by omega
      have htk : Ls.take k = Ls := List.take_of_length_le (by have := hn'.out; omega)
      have hown2 := hown.out
      rw [htk] at hown2
      have hne2 : Ls.map can1 ≠ [] := fun e => hS'.out.ne (List.map_eq_nil_iff.1 e)
      have hnm2 : ∀ M ∈ Ls.map can1, M.name ≠ [] := fun M hM => by
        obtain ⟨L, hL, rfl⟩ := List.mem_map.1 hM
        exact up_ne (hS'.out.nm L hL)
      have hlm : (Ls.map can1).length = k := by rw [List.length_map]; exact hn'.out
      -- the closure's box
      have hbox : Below wr.heap.size wr (wr.alloc (.cells #[.func (.func 86) #[] #[]] 70)) := (Below.refl _ _).alloc (Nat.le_refl _) _
      obtain ⟨gb, cap, ps, rfl, hgB, hgl, hpl, hH, hend⟩ := (hown2.kept hbox).sorts hne2 hnm2
      rw [hlm] at hpl hend ⊢
      have hcl : (wr.alloc (.cells #[.func (.func 86) #[] #[]] 70)).cell? ⟨wr.heap.size, 0, none⟩ = some (.func (.func 86) #[] #[]) := by simp
      obtain ⟨wS, hwS⟩ : ∃ wS, wr.alloc (.cells #[.func (.func 86) #[] #[]] 70) = wS := ⟨_, rfl⟩
      have hgr : gb < wr.heap.size := by
        have := (hown2.kept (Below.refl _ _))
        obtain ⟨vs, _, hrow, _⟩ := this
        exact (hrow.lt gb rfl).2
      rw [hwS] at hbox hgl hH hend hcl
      have R : RowK encL 4 wS gb 0 ps.toArray := ⟨encL_len, fun x v hv => by simp [encL] at hv; rcases hv with rfl | rfl | rfl | rfl <;> rfl, hH, hgl⟩
      have hclt : wr.heap.size < wS.heap.size := by rw [← hwS]; simp
      have H : SrtR Tryz.prog 4 encL keyV cfL 88 #[.pointer (some ⟨wr.heap.size, 0, none⟩)] gb 0 k ps.toArray wS :=
        ⟨R, by simpa using hpl, cmpLays_any (d0 := ps.toArray) hcl hclt (by omega), fun x y => cmp_lt _ _, enters_of Tryz.func88 (by kernel_rfl) rfl, by omega⟩
      have cS := sort_srt srtP H cap wS ps hpl hlen (SWK.start hH)
      have hres2 : wr.heap[Z + 1]? = some (.cells #[.slice none 0 0] 25 (0, 0)) := (hbw1.block _ (by omega)).trans hres'.out
      have hBS : Below wB.heap.size wB wS := belowThen hbw1 hbox
      have szS : Z + 2 ≤ wS.heap.size := by omega
      have hfin : ∀ W qs, SWK encL 4 wS gb 0 qs.toArray W → Sorted keyV qs → Same keyV qs ps → qs.length = k → LsOwn (Z + 2) (.slice (some ⟨gb, 0, none⟩) k cap) (srt (Ls.map can1)) W ∧ Below wB.heap.size wB W := fun W qs q1 q2 q3 q4 => by
        obtain ⟨o1, o2⟩ := hend W qs q1 q2 q3 q4
        exact ⟨o1, o2 _ _ hBS (by omega) (by omega)⟩
      have hfin' := Lib.hid hfin
      clear hown hown2 hH hend R H hpl hBS htk hne2 hnm2 hlm hbox hcl hfin
      go_wp2_with fail
      go_at_call 87
      refine cS.mono ?_
      rintro e wT ⟨rfl, qs, q2, q3, q4, q1⟩
      obtain ⟨o1, o2⟩ := hfin'.out wT qs q1 q2 q3 q4
      have hresT : wT.heap[Z + 1]? = some (.cells #[.slice none 0 0] 25 (0, 0)) := (o2.block _ (by omega)).trans hres'.out
      have hb1 : wT.cell? ⟨Z + 1, 0, none⟩ = some (.slice none 0 0) := by rw [Lib.cell_of_heap hresT]; rfl
      have hf1 : wT.frozen? ⟨Z + 1, 0, none⟩ = false := Lib.frozen_of_heap hresT 0
      have o3 : LsOwn w.heap.size (.slice (some ⟨gb, 0, none⟩) k cap) (srt (Ls.map can1)) (wT.setCell ⟨Z + 1, 0, none⟩ (.slice (some ⟨gb, 0, none⟩) k cap)) := by
        exact (o1.stored (a := ⟨Z + 1, 0, none⟩) (by show Z + 1 < Z + 2; omega) _).less (by rw [hZ'.out]; omega)
      have o4 : Below w.heap.size w (wT.setCell ⟨Z + 1, 0, none⟩ (.slice (some ⟨gb, 0, none⟩) k cap)) := by
        rw [hZ'.out]
        exact (B0.trans (o2.mono (by omega))).setCell (p := ⟨Z + 1, 0, none⟩) (by show Z ≤ Z + 1; omega) _
      have o3' := Lib.hid o3
      have o4' := Lib.hid o4
      clear cS hfin' q1 q2 q3 q4 o1 o2 o3 o4
      go_wp2
      exact bodyPost_ret (v := .agg #[.slice (some ⟨gb, 0, none⟩) k cap]) (by simp [results, Tryz.results62, go_sem, hb1]) rfl ⟨⟨_, rfl, o3'.out⟩, o4'.out⟩
end Go.Proofs.YthnnpnlapjlnoaaGreatDoor.Ca

/-
  THE WALKS OF card.parseLines AND card.framed.
-/
set_option linter.unusedVariables false
namespace Go.Proofs.YthnnpnlapjlnoaaGreatDoor.Ca
open Go.Lib Go.RowKit
open Li (LD PD sv LineAt PrmsAt LOwn pr parse)

/-- what parseLines answers -/
def LinesP (B : Nat) (rows : List Row) (e : Ending) (w' : World) : Prop :=
  (∃ n : Nat, lnF [] rows = (n, []) ∧ n ≠ 0 ∧ n < 100 ∧ e = .returned (.tuple #[.slice none 0 0, .int .i64 (n : Int)])) ∨
  ∃ (v : Value) (Ls : List LD), lnF [] rows = (0, Ls) ∧ AllP rows Ls ∧ e = .returned (.tuple #[v, .int .i64 0]) ∧ LsOwn B v Ls w'

set_option maxHeartbeats 8000000 in
set_option maxRecDepth 100000 in
theorem parseLines_any (v : Value) (rows : List Row) (w : World) (h : Li.StrsAt w v rows) (hs : ∀ r ∈ rows, r.length ≤ 1099511627776) (hn0 : rows.length ≤ 1099511627776) (hT : Ch.Tabs w) :
    Calls Tryz.prog 25 #[v] w fun e w' => LinesP w.heap.size rows e w' ∧ Below w.heap.size w w' := by
  obtain ⟨A, b, off, c, rfl, h1, h2, h3, h4⟩ := h
  obtain ⟨n, hn⟩ : ∃ n, rows.length = n := ⟨_, rfl⟩
  rw [hn] at h1 h3 hn0 ⊢
  unfold maxLen at h2
  have hn' := Lib.hid hn
  have h3' := Lib.hid h3
  have h4' := Lib.hid h4
  have hs' := Lib.hid hs
  have hT' := Lib.hid hT
  clear hn h3 h4 hs hT
  go_enter Tryz.func25, Tryz.ntmps25
  go_wp2
  go_loopw [4, 11] (fun s4 s11 wr => ∃ (k : Nat) (Ls : List LD), s11 = .int .i64 (k : Int) ∧ k ≤ n ∧ Hid (LsOwn w.heap.size s4 Ls wr ∧ AllP (rows.take k) Ls ∧ lnF [] rows = lnF Ls (rows.drop k)) ∧ Below w.heap.size w wr) (fun s4 s11 wr => n - (RowKit.intOf s11).toNat)
  case atStart => exact ⟨0, [], rfl, Nat.zero_le _, Lib.hid ⟨LsOwn.nil _ _, ⟨by simp, fun i h => by simp at h⟩, rfl⟩, Below.refl _ _⟩
  case round =>
    obtain ⟨k, Ls, rfl, hk, hR, hbw⟩ := hrel
    by_cases hlt : k < n
    · have hlk : k < rows.length := by have := hn'.out; omega
      have hl : rows[k]? = some rows[k] := List.getElem?_eq_getElem _
      obtain ⟨r, hle⟩ : ∃ r, rows[k] = r := ⟨_, rfl⟩
      have hmem : r ∈ rows := by rw [← hle]; exact List.getElem_mem _
      rw [hle] at hl
      obtain ⟨rfl, hg⟩ := h3'.out (by omega)
      have hcell := h4'.out k r hl
      rw [← hbw.cell (p := ⟨b, off + k, none⟩) hg] at hcell
      obtain ⟨x, ex, hx⟩ := Li.sv_some r
      rw [ex] at hcell
      have hxs : x.size ≤ 1099511627776 := by rw [Lib.size_eq, hx]; exact hs'.out r hmem
      have cP := fun W (hW : Ch.Tabs W) => Li.parse_any x W hW hxs
      rw [hx] at cP
      have hTr := Ch.tabs_below hT'.out hbw
      have hdr : rows.drop k = r :: rows.drop (k + 1) := by rw [List.drop_eq_getElem_cons hlk, hle]
      have htk : rows.take (k + 1) = rows.take k ++ [r] := by rw [List.take_succ_eq_append_getElem hlk, hle]
      have hdr' := Lib.hid hdr
      have htk' := Lib.hid htk
      have cP' := Lib.hid (cP wr hTr)
      clear hl hle hmem ex hx hdr htk hlk cP hTr
      go_wp2_with fail
      go_at_call 46
      refine cP'.out.mono ?_
      rintro e w3 ⟨hp, hb3⟩
      have hB3 := belowThen hbw hb3
      rcases hp with ⟨m, p1, p2, p3, rfl⟩ | ⟨L, u, p1, rfl, p2⟩
      · have HO := Lib.hid ((hR.out.2.2.trans (by rw [hdr'.out])).trans (lnF_bad p1))
        have d0 : ¬ (m : Int) = 0 := by omega
        have d0' : ((m : Int) == 0) = false := beq_eq_false_iff_ne.2 d0
        have d1 := Lib.hid (And.intro p2 p3)
        have B4 := Lib.hid (hB3.alloc (by have := hB3.size; omega) (.cells #[.string ⟨#[]⟩, .string ⟨#[]⟩, .slice none 0 0, .string ⟨#[]⟩] 41))
        clear p1 hR hb3 hB3 hbw cP' p2 p3
        go_wp2
        go_ret2
        exact ⟨.inl ⟨m, HO.out, d1.out.1, d1.out.2, rfl⟩, B4.out⟩
      · obtain ⟨q1, q2, q3⟩ := hR.out
        rw [hdr'.out, lnF_ok p1] at q3
        obtain ⟨qv, hu, hqo⟩ := p2
        obtain ⟨y1, ey1, hy1⟩ := Li.sv_some L.group
        obtain ⟨y2, ey2, hy2⟩ := Li.sv_some L.name
        obtain ⟨y4, ey4, hy4⟩ := Li.sv_some L.value
        rw [ey1, ey2, ey4] at hu
        subst hu
        obtain ⟨qA, qn, qc, rfl⟩ : ∃ A n c, qv = .slice A n c := by obtain ⟨A, _, _, c, h, _⟩ := hqo.at; exact ⟨A, _, c, h⟩
        have hbx : Below w3.heap.size w3 (w3.alloc (.cells #[.string y1, .string y2, .slice qA qn qc, .string y4] 41)) := (Below.refl _ _).alloc (Nat.le_refl _) _
        have hbr : Below wr.heap.size wr (w3.alloc (.cells #[.string y1, .string y2, .slice qA qn qc, .string y4] 41)) := belowThen hb3 hbx
        obtain ⟨w4, hw4⟩ : ∃ w4, w3.alloc (.cells #[.string y1, .string y2, .slice qA qn qc, .string y4] 41) = w4 := ⟨_, rfl⟩
        have hk4 : w4.heap[w3.heap.size]? = some (.cells #[.string y1, .string y2, .slice qA qn qc, .string y4] 41 (0, 0)) := by rw [← hw4]; exact heap_alloc_new w3 _
        obtain ⟨m0, m1, m2, m3, _, _, _, _⟩ := Li.res4 hk4
        rw [hw4] at hbx hbr
        have hown4 := Lib.hid (q1.kept hbr)
        have hqo4 := Lib.hid ((hqo.kept hbx).less hbw.size)
        have hB4 := Lib.hid (belowThen hB3 hbx)
        have sz4 : w.heap.size ≤ w4.heap.size := hB4.out.size
        have hnx := Lib.hid (And.intro (AllP.snoc q2 p1) q3)
        have hkl : Ls.length ≤ 1099511627776 := by have := q2.1; rw [List.length_take] at this; omega
        have hee := Lib.hid (And.intro ey1 (And.intro ey2 ey4))
        clear p1 hR hb3 hB3 cP' hqo ey1 ey2 ey4 hy1 hy2 hy4 hbx hbr hk4 q1 q2 q3
        go_wp2_with (at_builtin; refine append_line L y1 y2 y4 (.slice qA qn qc) hee.out.1 hee.out.2.1 hee.out.2.2 ⟨_, _, _, rfl⟩ rfl _ _ rfl w.heap.size _ _ w4.heap.size rfl rfl rfl hown4.out hqo4.out hkl sz4 ?_)
        intro v7 w7 hown7 hleft7
        have hB7 : Below w.heap.size w w7 := hleft7 _ _ hB4.out (Nat.le_refl _) sz4
        have hown7' := Lib.hid (And.intro hown7 (And.intro (by rw [htk'.out]; exact hnx.out.1 : AllP (rows.take (k + 1)) (Ls ++ [L])) hnx.out.2))
        have hB7' := Lib.hid hB7
        clear hown7 hleft7 hB7
        go_wp2
        go_roundw
        case rel => exact ⟨k + 1, Ls ++ [L], by go_num, by omega, hown7', hB7'.out⟩
        case measure => simp [RowKit.intOf]; omega
    · obtain rfl : k = n := by omega
      obtain ⟨q1, q2, q3⟩ := hR.out
      rw [List.drop_eq_nil_of_le (by have := hn'.out; omega)] at q3
      rw [List.take_of_length_le (by have := hn'.out; omega)] at q2
      have HO := Lib.hid (And.intro q1 (And.intro q2 q3))
      clear hR q1 q2 q3
      go_wp2
      go_ret2
      exact ⟨.inr ⟨_, Ls, HO.out.2.2, HO.out.2.1, rfl, HO.out.1⟩, hbw⟩
end Go.Proofs.YthnnpnlapjlnoaaGreatDoor.Ca

/-
  THE WALK OF card.framed.
-/
set_option linter.unusedVariables false
namespace Go.Proofs.YthnnpnlapjlnoaaGreatDoor.Ca
open Go.Lib Go.RowKit
open Li (LD PD sv LineAt PrmsAt LOwn pr parse)

theorem getD_some {rows : List Row} {i : Nat} {r : Row} (h : rows[i]? = some r) : rows.getD i [] = r := by rw [List.getD_eq_getElem?_getD, h]; rfl

set_option maxHeartbeats 8000000 in
set_option maxRecDepth 100000 in
theorem framed_any (v : Value) (rows : List Row) (w : World) (h : Li.StrsAt w v rows) (hs : ∀ r ∈ rows, r.length ≤ 1099511627776) (hn0 : rows.length ≤ 1099511627776) :
    Calls Tryz.prog 26 #[v] w fun e w' => e = .returned (.bool (framedR rows)) ∧ Below w.heap.size w w' := by
  obtain ⟨A, b, off, c, rfl, h1, h2, h3, h4⟩ := h
  obtain ⟨n, hn⟩ : ∃ n, rows.length = n := ⟨_, rfl⟩
  rw [hn] at h1 h3 hn0 ⊢
  unfold maxLen at h2
  have hf : framedR rows = (decide (3 ≤ n) && ((Ch.low (rows.getD 0 []) == Ch.low bBegin) && ((Ch.low (rows.getD 1 []) == Ch.low bVersion) && (Ch.low (rows.getD (n - 1) []) == Ch.low bEnd)))) := by unfold framedR; rw [hn]
  by_cases h30 : 3 ≤ n
  · have h3z : (3 : Int) ≤ (n : Int) := by omega
    obtain ⟨rfl, hg⟩ := h3 (by omega)
    have g : ∀ i, i < n → ∃ x : ByteArray, rows.getD i [] = x.data.toList ∧ x.size ≤ 1099511627776 ∧ w.cell? ⟨b, off + i, none⟩ = some (.string x) := fun i hi => by
      have hl : rows[i]? = some (rows[i]'(by omega)) := List.getElem?_eq_getElem _
      obtain ⟨x, ex, hx⟩ := Li.sv_some (rows[i]'(by omega))
      exact ⟨x, by rw [getD_some hl, hx], by rw [Lib.size_eq, hx]; exact hs _ (List.getElem_mem _), by rw [h4 i _ hl, ex]⟩
    obtain ⟨x0, e0, s0, q0⟩ := g 0 (by omega)
    obtain ⟨x1, e1, s1, q1⟩ := g 1 (by omega)
    obtain ⟨x2, e2, s2, q2⟩ := g (n - 1) (by omega)
    have c0 := fun W => Ch.same_any x0 ⟨#[66, 69, 71, 73, 78, 58, 86, 67, 65, 82, 68]⟩ W (by omega) (by decide)
    have c1 := fun W => Ch.same_any x1 ⟨#[86, 69, 82, 83, 73, 79, 78, 58, 52, 46, 48]⟩ W (by omega) (by decide)
    have c2 := fun W => Ch.same_any x2 ⟨#[69, 78, 68, 58, 86, 67, 65, 82, 68]⟩ W (by omega) (by decide)
    rw [show (⟨#[66, 69, 71, 73, 78, 58, 86, 67, 65, 82, 68]⟩ : ByteArray).data.toList = bBegin from rfl, ← e0] at c0
    rw [show (⟨#[86, 69, 82, 83, 73, 79, 78, 58, 52, 46, 48]⟩ : ByteArray).data.toList = bVersion from rfl, ← e1] at c1
    rw [show (⟨#[69, 78, 68, 58, 86, 67, 65, 82, 68]⟩ : ByteArray).data.toList = bEnd from rfl, ← e2] at c2
    rw [decide_eq_true h30] at hf
    obtain ⟨t0, ht0⟩ : ∃ t, (Ch.low (rows.getD 0 []) == Ch.low bBegin) = t := ⟨_, rfl⟩
    obtain ⟨t1, ht1⟩ : ∃ t, (Ch.low (rows.getD 1 []) == Ch.low bVersion) = t := ⟨_, rfl⟩
    obtain ⟨t2, ht2⟩ : ∃ t, (Ch.low (rows.getD (n - 1) []) == Ch.low bEnd) = t := ⟨_, rfl⟩
    rw [ht0, ht1, ht2] at hf
    rw [ht0] at c0
    rw [ht1] at c1
    rw [ht2] at c2
    obtain ⟨m, hm⟩ : ∃ m : Nat, m = n - 1 := ⟨_, rfl⟩
    rw [← hm] at q2
    have em : (n : Int) - 1 = (m : Int) := by omega
    have b0 : (0 : Int) < (n : Int) := by omega
    have b1 : (1 : Int) < (n : Int) := by omega
    have b2 : (m : Int) < (n : Int) := by omega
    have rm : IntKind.i64.wrap (m : Int) = (m : Int) := by rw [IntKind.wrap_i64]; omega
    rw [Nat.add_zero] at q0
    have k0 : ∀ W, Below w.heap.size w W → W.cell? ⟨b, off, none⟩ = some (.string x0) := fun W h => (h.cell (p := ⟨b, off, none⟩) hg).trans q0
    have k1 : ∀ W, Below w.heap.size w W → W.cell? ⟨b, off + 1, none⟩ = some (.string x1) := fun W h => (h.cell (p := ⟨b, off + 1, none⟩) hg).trans q1
    have k2 : ∀ W, Below w.heap.size w W → W.cell? ⟨b, off + m, none⟩ = some (.string x2) := fun W h => (h.cell (p := ⟨b, off + m, none⟩) hg).trans q2
    have k1' := Lib.hid k1
    have k2' := Lib.hid k2
    clear h3 h4 hs g e0 e1 e2 ht0 ht1 ht2 hm hn k1 k2 k0
    cases t0
    · have HF := Lib.hid (hf.trans (by rfl) : framedR rows = false)
      clear hf
      go_enter Tryz.func26, Tryz.ntmps26
      go_wp2_with fail
      go_at_call 41
      refine (c0 _).mono ?_
      rintro e w1 ⟨rfl, hb1⟩
      go_wp2
      go_ret
      exact ⟨by rw [HF.out] <;> rfl, hb1⟩
    · cases t1
      · have HF := Lib.hid (hf.trans (by rfl) : framedR rows = false)
        clear hf
        go_enter Tryz.func26, Tryz.ntmps26
        go_wp2_with fail
        go_at_call 41
        refine (c0 _).mono ?_
        rintro e w1 ⟨rfl, hb1⟩
        have p1 := k1'.out w1 hb1
        go_wp2_with fail
        go_at_call 41
        refine (c1 _).mono ?_
        rintro e w2 ⟨rfl, hb2⟩
        go_wp2
        go_ret
        exact ⟨by rw [HF.out] <;> rfl, belowThen hb1 hb2⟩
      · have HF := Lib.hid (hf.trans (by simp) : framedR rows = t2)
        clear hf
        go_enter Tryz.func26, Tryz.ntmps26
        go_wp2_with fail
        go_at_call 41
        refine (c0 _).mono ?_
        rintro e w1 ⟨rfl, hb1⟩
        have p1 := k1'.out w1 hb1
        go_wp2_with fail
        go_at_call 41
        refine (c1 _).mono ?_
        rintro e w2 ⟨rfl, hb2⟩
        have hB2 := belowThen hb1 hb2
        have p2 := k2'.out w2 hB2
        go_wp2_with fail
        go_at_call 41
        refine (c2 _).mono ?_
        rintro e w3 ⟨rfl, hb3⟩
        go_wp2
        go_ret
        exact ⟨by rw [HF.out] <;> rfl, belowThen hB2 hb3⟩
  · have h3z : ¬ (3 : Int) ≤ (n : Int) := by omega
    have HF := Lib.hid (hf.trans (by rw [decide_eq_false h30]; rfl) : framedR rows = false)
    clear hf hn h3 h4 hs
    go_enter Tryz.func26, Tryz.ntmps26
    go_wp2
    go_ret
    exact ⟨by rw [HF.out] <;> rfl, Below.refl _ _⟩
end Go.Proofs.YthnnpnlapjlnoaaGreatDoor.Ca

/-
  WALKS OF fold.blank, strings.Cut at a line feed, fold.cutRow, fold.cutLine.
-/
set_option linter.unusedVariables false
namespace Go.Proofs.YthnnpnlapjlnoaaGreatDoor.Fo
open Go.Lib Go.RowKit

theorem below_then {a b c : World} (h1 : Below a.heap.size a b) (h2 : Below b.heap.size b c) : Below a.heap.size a c := h1.trans (h2.mono h1.size)

theorem below_drewN {a w : World} (n : Nat) (h : Below a.heap.size a w) : Below a.heap.size a (w.drewN n) := ⟨h.os, h.tape, h.output, h.size, h.block⟩

set_option maxHeartbeats 1000000 in
set_option maxRecDepth 100000 in
theorem blank_any (x : UInt8) (w : World) : Calls Tryz.prog 73 #[.int .u8 (x.toNat : Int)] w fun e w' => e = .returned (.bool (bl x)) ∧ w = w' := by
  unfold bl
  generalize x.toNat = v
  by_cases c1 : v = 32
  · have d1 : ((v : Int) == 32) = true := by simp; omega
    rw [decide_eq_true (.inl c1)]
    clear c1
    go_enter Tryz.func73, Tryz.ntmps73
    go_wp2
    go_ret
    exact ⟨rfl, rfl⟩
  · have d1 : ((v : Int) == 32) = false := by simp; omega
    by_cases c2 : v = 9
    · have d2 : ((v : Int) == 9) = true := by simp; omega
      rw [decide_eq_true (.inr c2)]
      clear c1 c2
      go_enter Tryz.func73, Tryz.ntmps73
      go_wp2
      go_ret
      exact ⟨rfl, rfl⟩
    · have d2 : ((v : Int) == 9) = false := by simp; omega
      rw [decide_eq_false (by omega)]
      clear c1 c2
      go_enter Tryz.func73, Tryz.ntmps73
      go_wp2
      go_ret
      exact ⟨rfl, rfl⟩

/-- what strings.Cut at a line feed answers -/
def CutP (t : ByteArray) (e : Ending) : Prop :=
  (10 ∉ t.data.toList ∧ e = .returned (.tuple #[.string t, .string ⟨#[]⟩, .bool false])) ∨
  ∃ a r : ByteArray, 10 ∉ a.data.toList ∧ t.data.toList = a.data.toList ++ 10 :: r.data.toList ∧ e = .returned (.tuple #[.string a, .string r, .bool true])

theorem byte_at (l : List UInt8) (c : UInt8) : (indexByte l c = -1 ∧ c ∉ l) ∨ ∃ k : Nat, indexByte l c = k ∧ k < l.length ∧ c ∉ l.take k ∧ l = l.take k ++ c :: l.drop (k + 1) := by
  have hge := indexByte_ge l c
  by_cases h : indexByte l c = -1
  · left
    refine ⟨h, fun hm => ?_⟩
    obtain ⟨k, hk⟩ := List.mem_iff_getElem?.1 hm
    exact indexByte_none h k hk
  · right
    obtain ⟨k, hk⟩ : ∃ k : Nat, indexByte l c = k := ⟨(indexByte l c).toNat, by omega⟩
    obtain ⟨h1, h2⟩ := indexByte_some hk
    obtain ⟨hlt, hv⟩ := List.getElem?_eq_some_iff.1 h1
    refine ⟨k, hk, hlt, fun hm => ?_, ?_⟩
    · obtain ⟨j, hj⟩ := List.mem_iff_getElem?.1 hm
      rw [List.getElem?_take] at hj
      split at hj
      · exact h2 j ‹_› hj
      · cases hj
    · conv => lhs; rw [← List.take_append_drop k l, List.drop_eq_getElem_cons hlt, hv]

set_option maxHeartbeats 2000000 in
set_option maxRecDepth 100000 in
theorem cutLite_any (t : ByteArray) (w : World) (hs : t.size ≤ 140737488355328) :
    Calls Tryz.prog 120 #[.string t, .string ⟨#[10]⟩] w fun e w' => CutP t e ∧ Below w.heap.size w w' := by
  have cI := fun W => Tryz.stringslite_Index_one t 10 W
  rcases byte_at t.data.toList 10 with ⟨h1, h2⟩ | ⟨k, h1, h2, h3, h4⟩
  · rw [h1] at cI
    have hfin : CutP t (.returned (.tuple #[.string t, .string ⟨#[]⟩, .bool false])) := .inl ⟨h2, rfl⟩
    clear h1 h2
    have hfin' := Lib.hid hfin
    clear hfin
    go_enter Tryz.func120, Tryz.ntmps120
    go_wp2_with (go_at_call 136; refine (cI _).mono ?_; rintro e w' ⟨rfl, rfl⟩)
    go_ret3
    exact ⟨hfin'.out, Below.refl _ _⟩
  · rw [h1] at cI
    rw [← Lib.size_eq] at h2
    have e1 : (t.extract 0 k).data.toList = t.data.toList.take k := by rw [Lib.extract_data]; rfl
    have e2 : (t.extract (k + 1) t.size).data.toList = t.data.toList.drop (k + 1) := Lib.extract_to_end t (k + 1)
    have hfin : CutP t (.returned (.tuple #[.string (t.extract 0 k), .string (t.extract (k + 1) t.size), .bool true])) :=
      .inr ⟨_, _, by rw [e1]; exact h3, by rw [e1, e2]; exact h4, rfl⟩
    clear h1 h3 h4 e1 e2
    have hfin' := Lib.hid hfin
    clear hfin
    have hw : IntKind.i64.wrap ((k : Int) + 1) = (k : Int) + 1 := IntWalk.i64_in _ (by omega)
    go_enter Tryz.func120, Tryz.ntmps120
    go_wp2_with (go_at_call 136; refine (cI _).mono ?_; rintro e w' ⟨rfl, rfl⟩)
    go_quiet (fail)
    go_wp2
    go_ret3
    exact ⟨hfin'.out, below_drewN _ (Below.refl _ _)⟩

set_option maxHeartbeats 2000000 in
set_option maxRecDepth 100000 in
theorem cut_any (t : ByteArray) (w : World) (hs : t.size ≤ 140737488355328) :
    Calls Tryz.prog 100 #[.string t, .string ⟨#[10]⟩] w fun e w' => CutP t e ∧ Below w.heap.size w w' := by
  go_enter Tryz.func100, Tryz.ntmps100
  go_wp2_with fail
  go_at_call 120
  refine (cutLite_any t w hs).mono ?_
  rintro e w1 ⟨hc, hb⟩
  rcases hc with ⟨h1, rfl⟩ | ⟨a, r, h1, h2, rfl⟩
  · have hfin : CutP t (.returned (.tuple #[.string t, .string ⟨#[]⟩, .bool false])) := .inl ⟨h1, rfl⟩
    have hfin' := Lib.hid hfin
    clear hfin h1
    go_wp2
    go_ret3
    exact ⟨hfin'.out, hb⟩
  · have hfin : CutP t (.returned (.tuple #[.string a, .string r, .bool true])) := .inr ⟨a, r, h1, h2, rfl⟩
    have hfin' := Lib.hid hfin
    clear hfin h1 h2
    go_wp2
    go_ret3
    exact ⟨hfin'.out, hb⟩

theorem trim_any (s : ByteArray) (w : World) (hs : s.size ≤ 9223372036854775807) :
    Calls Tryz.prog 101 #[.string s, .string ⟨#[13]⟩] w fun e w' => (∃ r : ByteArray, r.data.toList = stripR s.data.toList ∧ e = .returned (.string r)) ∧ w = w' :=
  (Tryz.strings_TrimSuffix s ⟨#[13]⟩ w hs).mono fun e w' ⟨h1, h2⟩ => ⟨⟨_, by simp [stripR], h1⟩, h2.symm⟩
theorem has13_any (s : ByteArray) (v : Bool) (w : World) (hv : s.data.toList.contains 13 = v) :
    Calls Tryz.prog 102 #[.string s, .string ⟨#[13]⟩] w fun e w' => e = .returned (.bool v) ∧ w = w' :=
  (Tryz.strings_Contains_one s 13 w).mono fun e w' ⟨h1, h2⟩ => ⟨by
    rw [h1, ← hv]
    rcases byte_at s.data.toList 13 with ⟨g1, g2⟩ | ⟨k, g1, g2, _, g4⟩
    · rw [g1]
      have : s.data.toList.contains 13 = false := by simpa using g2
      rw [this]; rfl
    · rw [g1]
      have : s.data.toList.contains 13 = true := by rw [g4]; simp
      rw [this, decide_eq_true (by omega)], h2.symm⟩

/-- what cutRow answers -/
def CutRowP (t : ByteArray) (e : Ending) : Prop :=
  (e = .returned (.tuple #[.string ⟨#[]⟩, .string ⟨#[]⟩, .bool false]) ∧ ∀ out, R out t.data.toList = none) ∨
  ∃ a r row : ByteArray, 10 ∉ a.data.toList ∧ t.data.toList = a.data.toList ++ 10 :: r.data.toList ∧ row.data.toList = stripR a.data.toList ∧ okRow row.data.toList = true ∧ e = .returned (.tuple #[.string row, .string r, .bool true])

theorem nonempty_of (s : ByteArray) (h : s.data.toList ≠ []) : s.toList.isEmpty = false := by
  rw [Lib.toList_data]
  cases h' : s.data.toList with
  | nil => exact absurd h' h
  | cons _ _ => rfl
theorem empty_of (s : ByteArray) (h : s.data.toList = []) : s.toList.isEmpty = true := by rw [Lib.toList_data, h]; rfl

set_option maxHeartbeats 2000000 in
set_option maxRecDepth 100000 in
theorem cutRow_any (t : ByteArray) (w : World) (hs : t.size ≤ 140737488355328) (hne : t.data.toList ≠ []) :
    Calls Tryz.prog 72 #[.string t] w fun e w' => CutRowP t e ∧ Below w.heap.size w w' := by
  have hne' := Lib.hid hne
  clear hne
  go_enter Tryz.func72, Tryz.ntmps72
  go_wp2_with fail
  go_at_call 100
  refine (cut_any t w hs).mono ?_
  rintro e w1 ⟨hc, hb⟩
  rcases hc with ⟨h1, rfl⟩ | ⟨a, r, h1, h2, rfl⟩
  · have hfin : CutRowP t (.returned (.tuple #[.string ⟨#[]⟩, .string ⟨#[]⟩, .bool false])) := .inl ⟨rfl, fun out => R_free out _ h1 hne'.out⟩
    have hfin' := Lib.hid hfin
    clear hfin h1
    go_wp2_with fail
    go_at_call 101
    refine (trim_any t w1 (by omega)).mono ?_
    rintro e w2 ⟨⟨row, hr, rfl⟩, rfl⟩
    clear hr
    go_wp2
    go_ret3
    exact ⟨hfin'.out, hb⟩
  · have hbad : (okRow (stripR a.data.toList) = false) → CutRowP t (.returned (.tuple #[.string ⟨#[]⟩, .string ⟨#[]⟩, .bool false])) := fun h =>
      .inl ⟨rfl, fun out => by rw [h2, R_cut out _ _ h1, gstep_bad out _ h]; rfl⟩
    have hgood : ∀ row : ByteArray, row.data.toList = stripR a.data.toList → okRow row.data.toList = true → CutRowP t (.returned (.tuple #[.string row, .string r, .bool true])) := fun row hr hk =>
      .inr ⟨a, r, row, h1, h2, hr, hk, rfl⟩
    have ha : a.size ≤ 9223372036854775807 := by
      have : t.data.toList.length = a.data.toList.length + (r.data.toList.length + 1) := by rw [h2]; simp
      rw [← Lib.size_eq, ← Lib.size_eq] at this
      omega
    have hbad' := Lib.hid hbad
    have hgood' := Lib.hid hgood
    clear hbad hgood h1 h2
    go_wp2_with fail
    go_at_call 101
    refine (trim_any a w1 ha).mono ?_
    rintro e w2 ⟨⟨row, hr, rfl⟩, rfl⟩
    by_cases h0 : row.data.toList = []
    · have hfin := hbad'.out (by rw [← hr, h0]; rfl)
      have he := empty_of row h0
      have he2 : (!row.toList.isEmpty) = false := by rw [he]; rfl
      have hfin' := Lib.hid hfin
      clear hfin h0 hr
      go_wp2
      go_ret3
      exact ⟨hfin'.out, hb⟩
    · have he := nonempty_of row h0
      cases hv : row.data.toList.contains 13
      · have hfin := hgood'.out row hr (by unfold okRow; rw [hv]; rw [Lib.toList_data] at he; rw [he]; rfl)
        have hfin' := Lib.hid hfin
        have c13 := fun W => has13_any row false W hv
        clear hfin h0 hr hv
        go_wp2_with (go_at_call 102; refine (c13 _).mono ?_; rintro e w' ⟨rfl, rfl⟩)
        go_ret3
        exact ⟨hfin'.out, hb⟩
      · have hfin := hbad'.out (by rw [← hr]; unfold okRow; rw [hv]; simp)
        have hfin' := Lib.hid hfin
        have c13 := fun W => has13_any row true W hv
        clear hfin h0 hr hv
        go_wp2_with (go_at_call 102; refine (c13 _).mono ?_; rintro e w' ⟨rfl, rfl⟩)
        go_ret3
        exact ⟨hfin'.out, hb⟩
end Go.Proofs.YthnnpnlapjlnoaaGreatDoor.Fo

/-
  WALKS OF fold.cutLine AND fold.Unfold.
-/
set_option linter.unusedVariables false
namespace Go.Proofs.YthnnpnlapjlnoaaGreatDoor.Fo
open Go.Lib Go.RowKit Bu

def strLen : Value → Nat
  | .string t => t.size
  | _ => 0
theorem headBl_get (s : ByteArray) (h : 0 < s.size) : headBl s.data.toList = bl (s[0]'h) := by
  have hl : 0 < s.data.toList.length := by rw [← Lib.size_eq]; exact h
  have e : s.data.toList = (s[0]'h) :: s.data.toList.drop 1 := List.drop_eq_getElem_cons hl
  rw [e]; rfl
theorem blank_is (x : UInt8) (v : Bool) (w : World) (hv : bl x = v) : Calls Tryz.prog 73 #[.int .u8 (x.toNat : Int)] w fun e w' => e = .returned (.bool v) ∧ w = w' := by
  subst hv; exact blank_any x w

/-- what cutLine answers -/
def LineP (t : ByteArray) (e : Ending) : Prop :=
  (e = .returned (.tuple #[.string ⟨#[]⟩, .string ⟨#[]⟩, .bool false]) ∧ ∀ out, (out = [] ∨ headBl t.data.toList = false) → R out t.data.toList = none) ∨
  ∃ line rest : ByteArray, e = .returned (.tuple #[.string line, .string rest, .bool true]) ∧ headBl rest.data.toList = false ∧ line.data.toList.length + rest.data.toList.length + 1 ≤ t.data.toList.length ∧
    ∀ out, (out = [] ∨ headBl t.data.toList = false) → R out t.data.toList = R (out ++ [line.data.toList]) rest.data.toList

/-- the rounds: what has been gathered, what is left -/
def LineRel (t : ByteArray) (B : Nat) (w : World) (s3 : Value) (wr : World) : Prop :=
  ∃ (rest : ByteArray) (l : Row), s3 = .string rest ∧ Bd B B l wr ∧ Below w.heap.size w wr ∧ w.heap.size ≤ B ∧ l.length + rest.data.toList.length + 1 ≤ t.data.toList.length ∧
    ∀ out, (out = [] ∨ headBl t.data.toList = false) → R out t.data.toList = R (out ++ [l]) rest.data.toList

theorem bd_le {B b : Nat} {w w' : World} (h : Below B w w') (hB : b ≤ B) : Below b w w' := h.mono hB

set_option maxHeartbeats 4000000 in
set_option maxRecDepth 100000 in
theorem cutLine_any (t : ByteArray) (w : World) (hs : t.size ≤ 140737488355328) (hne : t.data.toList ≠ []) :
    Calls Tryz.prog 45 #[.string t] w fun e w' => LineP t e ∧ Below w.heap.size w w' := by
  have hne' := Lib.hid hne
  clear hne
  have htl : t.size = t.data.toList.length := Lib.size_eq t
  go_enter Tryz.func45, Tryz.ntmps45
  go_wp2_with fail
  go_at_call 72
  refine (cutRow_any t w hs hne'.out).mono ?_
  rintro e w1 ⟨hc, hb⟩
  rcases hc with ⟨rfl, h1⟩ | ⟨a, r, row, h1, h2, h3, h4, rfl⟩
  · have hfin : LineP t (.returned (.tuple #[.string ⟨#[]⟩, .string ⟨#[]⟩, .bool false])) := .inl ⟨rfl, fun out _ => h1 out⟩
    have hfin' := Lib.hid hfin
    have htl' := Lib.hid htl
    clear hfin h1 htl
    go_wp2
    go_ret3
    exact ⟨hfin'.out, hb⟩
  · have hrow : row.data.toList ≠ [] := by
      intro h0
      rw [h0] at h4
      cases h4
    have hz : 0 < row.size := by rw [Lib.size_eq]; exact List.length_pos_iff.2 hrow
    have hhd := headBl_get row hz
    obtain ⟨hst, x0, r0, ha0, _⟩ := strip_head a.data.toList (by rw [← h3]; exact hrow)
    have hth : headBl t.data.toList = headBl row.data.toList := by
      rw [h2, h3, hst, ha0]; rfl
    have hlen : t.data.toList.length = a.data.toList.length + (r.data.toList.length + 1) := by rw [h2]; simp
    have hrl : row.data.toList.length ≤ a.data.toList.length := by rw [h3]; exact strip_len _
    have hRt : ∀ out, R out t.data.toList = (gstep out row.data.toList).bind fun o => R o r.data.toList := fun out => by rw [h2, R_cut out _ _ h1, ← h3]
    cases hv : bl (row[0]'hz)
    · have hRt2 : ∀ out, R out t.data.toList = R (out ++ [row.data.toList]) r.data.toList := fun out => by
        rw [hRt, gstep_new out _ h4 (by rw [hhd]; exact hv)]; rfl
      have hR' := Lib.hid hRt2
      have hrs : row.size ≤ 140737488355328 := by rw [Lib.size_eq]; omega
      have cB := fun W => blank_is (row[0]'hz) false W hv
      have hL : row.data.toList.length + r.data.toList.length + 1 ≤ t.data.toList.length := by omega
      clear hRt2 hRt hv hhd hth hst ha0 h1 h2 h3 h4 hlen hrl hrow
      have htl' := Lib.hid htl
      clear htl
      go_wp2_with (first
        | (go_at_call 73; refine (cB _).mono ?_; rintro e w' ⟨rfl, rfl⟩)
        | (go_at_call 66; refine (write_any w1.heap.size w1.heap.size [] row _ (fresh w1) (by simpa using hrs) (by simp)).mono ?_; rintro e w2 ⟨rfl, hbd, hb2⟩))
      clear cB hrs
      have hbw : Below w.heap.size w w2 := (hb.alloc hb.size _).trans (hb2.mono hb.size)
      have hsz : w1.heap.size ≤ w2.heap.size := by have := hb2.size; simp at this; omega
      have hrel0 : LineRel t w1.heap.size w (.string r) w2 := ⟨r, row.data.toList, rfl, by simpa using hbd, hbw, hb.size, hL, fun out _ => hR'.out out⟩
      have hB1 : w.heap.size ≤ w1.heap.size := hb.size
      generalize w1.heap.size = B at hrel0 hB1 ⊢
      clear hbw hsz hR' hL hbd hb2 hb
      go_loopw [3] (fun s3 wr => LineRel t B w s3 wr) (fun s3 wr => strLen s3)
      case atStart => exact hrel0
      case round =>
        obtain ⟨rest, l, rfl, hbd, hbw, _, hL, hR⟩ := hrel
        clear hrel0
        have hR' := Lib.hid hR
        clear hR
        have hBr := hbd.lt
        have hw2 : w2.heap.size ≤ wr.heap.size ∨ True := .inr trivial
        clear hw2
        have hend : headBl rest.data.toList = false → LineP t (.returned (.tuple #[.string ⟨l.toArray⟩, .string rest, .bool true])) := fun hh =>
          .inr ⟨⟨l.toArray⟩, rest, rfl, hh, by simpa using hL, fun out ho => by rw [hR'.out out ho]⟩
        have hend' := Lib.hid hend
        clear hend
        by_cases h0 : rest.data.toList = []
        · have he := empty_of rest h0
          have hfin' := Lib.hid (hend'.out (by rw [h0]; rfl))
          clear h0 hL
          go_wp2_with (go_at_call 69; refine (text_any B B l _ hbd (by omega)).mono ?_; rintro e w3 ⟨rfl, _, hb3⟩)
          go_ret3
          exact ⟨hfin'.out, hbw.trans (hb3.mono hB1)⟩
        · have he := nonempty_of rest h0
          have hz2 : 0 < rest.size := by rw [Lib.size_eq]; exact List.length_pos_iff.2 h0
          have hhd := headBl_get rest hz2
          cases hv2 : bl (rest[0]'hz2)
          · have hfin' := Lib.hid (hend'.out (by rw [hhd]; exact hv2))
            have cB2 := fun W => blank_is (rest[0]'hz2) false W hv2
            clear hhd hv2 h0 hL
            go_wp2_with (first
              | (go_at_call 73; refine (cB2 _).mono ?_; rintro e w' ⟨rfl, rfl⟩)
              | (go_at_call 69; refine (text_any B B l _ hbd (by omega)).mono ?_; rintro e w3 ⟨rfl, _, hb3⟩))
            go_ret3
            exact ⟨hfin'.out, hbw.trans (hb3.mono hB1)⟩
          · have cB2 := fun W => blank_is (rest[0]'hz2) true W hv2
            have h0' := Lib.hid h0
            have hhd' := Lib.hid (hhd.trans hv2)
            have htl2 : rest.size ≤ 140737488355328 := by rw [Lib.size_eq]; have := htl'.out; omega
            have hL' := Lib.hid hL
            clear hhd hv2 h0 hL hend'
            go_wp2_with (go_at_call 73; refine (cB2 _).mono ?_; rintro e w' ⟨rfl, rfl⟩)
            go_at_call 72
            refine (cutRow_any rest _ htl2 h0'.out).mono ?_
            rintro e w4 ⟨hc, hb4⟩
            rcases hc with ⟨rfl, h1⟩ | ⟨a2, r2, row2, h1, h2, h3, h4, rfl⟩
            · have hfin : LineP t (.returned (.tuple #[.string ⟨#[]⟩, .string ⟨#[]⟩, .bool false])) := .inl ⟨rfl, fun out ho => by rw [hR'.out out ho, h1]⟩
              have hfin' := Lib.hid hfin
              clear hfin h1
              go_wp2
              go_ret3
              exact ⟨hfin'.out, below_then hbw hb4⟩
            · have hrow : row2.data.toList ≠ [] := by
                intro h0
                rw [h0] at h4
                cases h4
              have hzr : 0 < row2.size := by rw [Lib.size_eq]; exact List.length_pos_iff.2 hrow
              obtain ⟨hst, x0, r0, ha0, _⟩ := strip_head a2.data.toList (by rw [← h3]; exact hrow)
              have hth : headBl row2.data.toList = true := by rw [← hhd'.out, h2, h3, hst, ha0]; rfl
              have hlen : rest.data.toList.length = a2.data.toList.length + (r2.data.toList.length + 1) := by rw [h2]; simp
              have hrl : row2.data.toList.length ≤ a2.data.toList.length := by rw [h3]; exact strip_len _
              have htt : (row2.extract 1 row2.size).data.toList = row2.data.toList.tail := by rw [Lib.extract_to_end, List.drop_one]
              have htz : (row2.extract 1 row2.size).data.toList.length + 1 = row2.data.toList.length := by
                rw [htt, List.length_tail]; have := List.length_pos_iff.2 hrow; omega
              have htz2 : (row2.extract 1 row2.size).size = (row2.extract 1 row2.size).data.toList.length := Lib.size_eq _
              have hL2 : (l ++ (row2.extract 1 row2.size).data.toList).length + r2.data.toList.length + 1 ≤ t.data.toList.length := by
                have := hL'.out; rw [List.length_append]; omega
              have hRn : ∀ out, (out = [] ∨ headBl t.data.toList = false) → R out t.data.toList = R (out ++ [l ++ (row2.extract 1 row2.size).data.toList]) r2.data.toList := fun out ho => by
                rw [hR'.out out ho, h2, R_cut _ _ _ h1, ← h3, gstep_more _ _ _ h4 hth, htt]; rfl
              have hlm : l.length + (row2.extract 1 row2.size).size ≤ 140737488355328 := by
                have h5 := htl'.out; rw [List.length_append] at hL2; omega
              have hms : r2.size < rest.size := by rw [Lib.size_eq, Lib.size_eq]; omega
              have hRn' := Lib.hid hRn
              have hL2' := Lib.hid hL2
              have hbd4 : Bd B B l w4 := hbd.kept hb4
              have hB4 : B ≤ w4.heap.size := by have := hbd4.lt; omega
              have hbw4 := below_then hbw hb4
              clear hRn hL2 htt htz htz2 hrl hlen hth hst ha0 h1 h2 h3 h4 hrow hbd hb4 hbw hBr cB2
              go_wp2_with (go_at_call 66; refine (write_any B B l _ _ hbd4 hlm hB4).mono ?_; rintro e w5 ⟨rfl, hbd5, hb5⟩)
              go_roundw
              case rel => exact ⟨r2, _, rfl, hbd5, hbw4.trans (hb5.mono hB1), hB1, hL2'.out, hRn'.out⟩
              case measure => exact hms
    · have hfin : LineP t (.returned (.tuple #[.string ⟨#[]⟩, .string ⟨#[]⟩, .bool false])) := .inl ⟨rfl, fun out ho => by
        rcases ho with rfl | ho
        · rw [hRt, gstep_none _ (by rw [hhd]; exact hv)]; rfl
        · rw [hth, hhd, hv] at ho; cases ho⟩
      have hfin' := Lib.hid hfin
      have cB := fun W => blank_is (row[0]'hz) true W hv
      clear hRt hv hhd hth hst ha0 h1 h2 h3 h4 hlen hrl hrow hfin htl
      go_wp2_with (go_at_call 73; refine (cB _).mono ?_; rintro e w' ⟨rfl, rfl⟩)
      go_ret3
      exact ⟨hfin'.out, hb⟩
end Go.Proofs.YthnnpnlapjlnoaaGreatDoor.Fo

/-
  THE WALK OF fold.Unfold.
-/
set_option linter.unusedVariables false
namespace Go.Proofs.YthnnpnlapjlnoaaGreatDoor.Fo
open Go.Lib Go.RowKit Bu

def sv (l : Row) : Value := .string ⟨l.toArray⟩
theorem sv_data (s : ByteArray) : sv s.data.toList = .string s := by unfold sv; rw [Lib.mk_data]
/-- a slice of the call's own that reads as these strings -/
def Own (B : Nat) (v : Value) (ls : List Row) (w : World) : Prop := w.ownsRow B 9 1 v ls.length (ls.map sv)
theorem Own.nil (B : Nat) (w : World) : Own B (.slice none 0 0) [] w := World.ownsRow_nil w B _ 1
theorem ownsRow_kept {w w' : World} {B : Nat} {e : TypeId} {size : Nat} {v : Value} {n : Nat} {xs : List Value} (h : w.ownsRow B e size v n xs) (hb : Below w.heap.size w w') : w'.ownsRow B e size v n xs := by
  refine ⟨h.1, ?_⟩
  rcases h.2 with h | ⟨g, cap, cur, e1, e2, e3, e4⟩
  · exact .inl h
  · exact .inr ⟨g, cap, cur, e1, e2, by rw [hb.block g (Array.getElem?_eq_some_iff.1 e3).1]; exact e3, e4⟩
theorem Own.kept {w w' : World} {B : Nat} {v : Value} {ls : List Row} (h : Own B v ls w) (hb : Below w.heap.size w w') : Own B v ls w' := ownsRow_kept h hb
theorem infoStr : (Tryz.prog.info? 9).map (fun i => (i.zero, i.size, i.bytes)) = some (some (.string ⟨#[]⟩), 1, 16) := by kernel_rfl

/-- what Unfold answers -/
def UnfP (B : Nat) (T : ByteArray) (e : Ending) (w' : World) : Prop :=
  (∃ v out, e = .returned (.tuple #[v, .int .i64 0]) ∧ R [] T.data.toList = some out ∧ Own B v out w') ∨
  (e = .returned (.tuple #[.slice none 0 0, .int .i64 20]) ∧ R [] T.data.toList = none)

def UnfRel (T : ByteArray) (w : World) (s0 s4 : Value) (wr : World) : Prop :=
  ∃ (text : ByteArray) (out : List Row) (v : Value), s0 = .string text ∧ v = s4 ∧ Own w.heap.size s4 out wr ∧ Below w.heap.size w wr ∧ out.length + text.data.toList.length ≤ T.data.toList.length ∧
    R [] T.data.toList = R out text.data.toList ∧ (out = [] ∨ headBl text.data.toList = false)

set_option maxHeartbeats 4000000 in
set_option maxRecDepth 100000 in
theorem unfold_any (T : ByteArray) (w : World) (hs : T.size ≤ 1099511627776) :
    Calls Tryz.prog 24 #[.string T] w fun e w' => UnfP w.heap.size T e w' ∧ Below w.heap.size w w' := by
  obtain ⟨i0, hi, hz0, hz1, hz2⟩ := info_parts infoStr
  have htl := Lib.hid (Lib.size_eq T)
  go_enter Tryz.func24, Tryz.ntmps24
  go_wp2
  go_loopw [0, 4] (fun s0 s4 wr => UnfRel T w s0 s4 wr) (fun s0 s4 wr => strLen s0)
  case atStart => exact ⟨T, [], _, rfl, rfl, Own.nil _ _, Below.refl _ _, by simp, rfl, .inl rfl⟩
  case round =>
    obtain ⟨text, out, s4, rfl, rfl, hown, hbw, hL, hR, hH⟩ := hrel
    have hR' := Lib.hid hR
    have hL' := Lib.hid hL
    have hH' := Lib.hid hH
    clear hR hL hH
    by_cases h0 : text.data.toList = []
    · have he := empty_of text h0
      have hfin : UnfP w.heap.size T (.returned (.tuple #[s4, .int .i64 0])) wr := .inl ⟨s4, out, rfl, by rw [hR'.out, h0]; rfl, hown⟩
      have hfin' := Lib.hid hfin
      clear hfin h0
      go_wp2
      go_ret2
      exact ⟨hfin'.out, hbw⟩
    · have he := nonempty_of text h0
      have hts : text.size ≤ 140737488355328 := by have h1 := htl.out; have h2 := hL'.out; rw [Lib.size_eq]; omega
      have h0' := Lib.hid h0
      clear h0
      go_wp2_with fail
      go_at_call 45
      refine (cutLine_any text wr hts h0'.out).mono ?_
      rintro e w1 ⟨hc, hb1⟩
      rcases hc with ⟨rfl, h1⟩ | ⟨line, rest, rfl, h1, h2, h3⟩
      · have hfin : UnfP w.heap.size T (.returned (.tuple #[.slice none 0 0, .int .i64 20])) w1 := .inr ⟨rfl, by rw [hR'.out, h1 out hH'.out]⟩
        have hfin' := Lib.hid hfin
        clear hfin h1
        go_wp2
        go_ret2
        exact ⟨hfin'.out, below_then hbw hb1⟩
      · have hRn := Lib.hid (hR'.out.trans (h3 out hH'.out))
        have hLn : (out ++ [line.data.toList]).length + rest.data.toList.length ≤ T.data.toList.length := by have := hL'.out; rw [List.length_append, List.length_singleton]; omega
        have hms : rest.size < text.size := by rw [Lib.size_eq, Lib.size_eq]; omega
        have hol : out.length ≤ 1099511627776 := by have h4 := htl.out; have h5 := hL'.out; omega
        have hLn' := Lib.hid hLn
        have hms' := Lib.hid hms
        have hown1 : Own w.heap.size s4 out w1 := hown.kept hb1
        have hbw1 := below_then hbw hb1
        have hcell : ([.string line] : List Value).map id = [.string line] := rfl
        have h1' := Lib.hid h1
        clear h1 h2 h3 hLn hms hown hcell hR' hL' hH'
        unfold Own at hown1
        go_wp2_with (at_builtin; refine wpList_append_own _ rfl _ _ 45 rfl w.heap.size 9 i0 (.string ⟨#[]⟩) 1 16 Tryz.underlying45 hi hz0 hz1 hz2 rfl (by decide) _ _ _ rfl (hown1.alloc _) ⟨w1.heap.size, 0, none⟩ 1 1 [.string line] rfl rfl ?c1 ?c2 ?c3 ?c4 ?c5 ?_)
        case c1 =>
          intro j u hj
          match j, hj with
          | 0, hj => simp at hj; subst hj; simp [Addr.add]
        case c2 => intro u hu; simp at hu; subst hu; rfl
        case c3 => unfold maxLen; omega
        case c4 => omega
        case c5 => have := hbw1.size; simp; omega
        intro v' w2 hown' hgrow _
        have hown2 : Own w.heap.size v' (out ++ [line.data.toList]) w2 := by
          unfold Own
          rw [List.map_append, List.length_append]
          simpa [sv_data] using hown'
        have hbw2 : Below w.heap.size w w2 := (hbw1.alloc hbw1.size _).grown hgrow (by have := hbw1.size; simp; omega) (fun k hk => (hown1.lt k hk).1)
        clear hown' hgrow hown1 hbw hbw1
        go_wp2
        go_roundw
        case rel => exact ⟨rest, _, _, rfl, rfl, hown2, hbw2, hLn'.out, hRn.out, .inr h1'.out⟩
        case measure => exact hms'.out
end Go.Proofs.YthnnpnlapjlnoaaGreatDoor.Fo

/-
  WALKS OF fold.fit, fold.foldLine, fold.Fold.
-/
set_option linter.unusedVariables false
namespace Go.Proofs.YthnnpnlapjlnoaaGreatDoor.Fo
open Go.Lib Go.RowKit Bu

def Tabs (w : World) : Prop := Lib.Utf8Tabs 0 1 w
theorem tabs_below {w w' : World} (h : Tabs w) (hb : Below w.heap.size w w') : Tabs w' := Utf8Tabs_below h hb

/-- the width that DecodeRuneInString answers -/
theorem decode_any (s : ByteArray) (n : Nat) (w : World) (hT : Tabs w) (hne : s.data.toList ≠ []) (hn : sz s.data.toList = n) :
    Calls Tryz.prog 145 #[.string s] w fun e w' => (∃ r : Int, e = .returned (.tuple #[.int .i32 r, .int .i64 (n : Int)])) ∧ Below w.heap.size w w' := by
  refine (Tryz.utf8_DecodeRuneInString s w hT).mono ?_
  rintro e w' ⟨rfl, hb⟩
  have hz : s.size ≠ 0 := by rw [Lib.size_eq]; exact fun h => hne (List.eq_nil_of_length_eq_zero h)
  have e1 : decodeGo s = decodeL s.data.toList := by
    unfold decodeGo decodeL
    rw [Lib.mk_data]
    simp [hz]
  exact ⟨⟨(decodeGo s).1, by rw [← hn, ← sz_decode _ hne, ← e1]⟩, hb⟩

set_option maxHeartbeats 2000000 in
set_option maxRecDepth 100000 in
theorem fit_any (t : ByteArray) (room : Nat) (w : World) (hT : Tabs w) (hs : t.size ≤ 140737488355328) (hr : room ≤ 100) :
    Calls Tryz.prog 135 #[.string t, .int .i64 (room : Int)] w fun e w' => e = .returned (.int .i64 (fit t.data.toList room : Int)) ∧ Below w.heap.size w w' := by
  obtain ⟨F, hF⟩ : ∃ F : Nat, fit t.data.toList room = F := ⟨_, rfl⟩
  rw [hF]
  unfold fit at hF
  have hT' := Lib.hid hT
  have hF' := Lib.hid hF
  clear hT hF
  go_enter Tryz.func135, Tryz.ntmps135
  go_wp2
  go_loopw [5] (fun s5 wr => ∃ n : Nat, s5 = .int .i64 (n : Int) ∧ n ≤ t.size ∧ fitF t.data.toList.length t.data.toList room n = F ∧ Below w.heap.size w wr) (fun s5 wr => t.size - (RowKit.intOf s5).toNat)
  case atStart => exact ⟨0, rfl, Nat.zero_le _, hF'.out, Below.refl _ _⟩
  case round =>
    obtain ⟨n, rfl, hn, hf, hbw⟩ := hrel
    have hf' := Lib.hid hf
    clear hf
    by_cases hlt : n < t.size
    · have hd : (t.extract n t.size).data.toList = t.data.toList.drop n := Lib.extract_to_end t n
      have hne : (t.extract n t.size).data.toList ≠ [] := fun h => by
        rw [hd] at h
        have := List.drop_eq_nil_iff.1 h
        rw [← Lib.size_eq] at this
        omega
      obtain ⟨k, hk⟩ : ∃ k : Nat, sz (t.extract n t.size).data.toList = k := ⟨_, rfl⟩
      have hkb := sz_bd (t.extract n t.size).data.toList
      have hkl := sz_len _ hne
      rw [hd, List.length_drop, ← Lib.size_eq] at hkl
      have cD := fun W hW => decode_any (t.extract n t.size) k W hW hne hk
      rw [hd] at hk hkb
      rw [hk] at hkb hkl
      have hk' := Lib.hid hk
      clear hd hne hk
      by_cases hfits : room < n + k
      · have hfin : F = n := by rw [← hf'.out]; exact fitF_stop _ _ _ _ (fun _ => by rw [hk'.out]; exact hfits)
        have hfin' := Lib.hid hfin
        clear hfin
        go_wp2_with (go_at_call 145; refine (cD _ (tabs_below hT'.out hbw)).mono ?_; rintro e w1 ⟨⟨r, rfl⟩, hb1⟩)
        go_ret
        exact ⟨by rw [hfin'.out]; rfl, below_then hbw hb1⟩
      · have hnx : fitF t.data.toList.length t.data.toList room (n + k) = F := by
          rw [← hf'.out, fitF_next _ _ _ n (by omega) (by rw [← Lib.size_eq]; exact hlt) (by rw [hk'.out]; exact hfits), hk'.out]
        have hnx' := Lib.hid hnx
        clear hnx
        go_wp2_with (go_at_call 145; refine (cD _ (tabs_below hT'.out hbw)).mono ?_; rintro e w1 ⟨⟨r, rfl⟩, hb1⟩)
        go_roundw
        case rel => exact ⟨n + k, by go_num, by omega, hnx'.out, below_then hbw hb1⟩
        case measure => simp [RowKit.intOf]; omega
    · have hfin : F = n := by rw [← hf'.out]; exact fitF_stop _ _ _ _ (fun h => by rw [← Lib.size_eq] at h; omega)
      have hfin' := Lib.hid hfin
      clear hfin
      go_wp2
      go_ret
      exact ⟨by rw [hfin'.out]; rfl, hbw⟩

theorem int_wrap (n : Nat) : Value.int .i64 (n : Int) = .int .i64 (n : Int) := rfl
/-- the rounds of foldLine: what the builder holds, what is left -/
def FlRel (L : Row) (pre : Row) (B b : Nat) (w : World) (s1 s4 : Value) (wr : World) : Prop :=
  ∃ (t : ByteArray) (acc : Row) (room : Nat), s1 = .string t ∧ s4 = .int .i64 (room : Int) ∧ (room = 75 ∨ room = 74) ∧ Bd B b acc wr ∧ Below B w wr ∧ w.heap.size ≤ wr.heap.size ∧
    t.data.toList.length ≤ L.length ∧ acc ++ foldF t.data.toList.length t.data.toList room = pre ++ foldL L
theorem tabs_of_below {B : Nat} {w w' : World} (h : Tabs w) (hB : ∀ W : World, Below B w W → Tabs W) (hb : Below B w w') : Tabs w' := hB _ hb

set_option maxHeartbeats 4000000 in
set_option maxRecDepth 100000 in
theorem foldLine_any (t : ByteArray) (pre : Row) (B b : Nat) (w : World) (hT : ∀ W, Below B w W → Tabs W) (hbd : Bd B b pre w) (hs : t.size ≤ 1099511627776) (hp : pre.length + 4 * t.size ≤ 70368744177664) (hBw : B ≤ w.heap.size) :
    Calls Tryz.prog 116 #[.pointer (some ⟨b, 0, none⟩), .string t] w fun e w' => e = .returned (.tuple #[]) ∧ Bd B b (pre ++ foldL t.data.toList) w' ∧ Below B w w' := by
  have hT' := Lib.hid hT
  clear hT
  have hrel0 : FlRel t.data.toList pre B b w (.string t) (.int .i64 (75 : Int)) w := ⟨t, pre, 75, rfl, rfl, .inl rfl, hbd, Below.refl _ _, Nat.le_refl _, Nat.le_refl _, rfl⟩
  have hLl : (foldL t.data.toList).length ≤ 4 * t.size := by rw [Lib.size_eq]; exact foldF_len _ _ 75 (by omega)
  obtain ⟨L, hL⟩ : ∃ L, t.data.toList = L := ⟨_, rfl⟩
  have hsL : L.length ≤ 1099511627776 := by rw [← hL, ← Lib.size_eq]; exact hs
  rw [hL] at hrel0 hLl ⊢
  clear hL hbd
  go_enter Tryz.func116, Tryz.ntmps116
  go_wp2
  go_loopw [1, 4] (fun s1 s4 wr => FlRel L pre B b w s1 s4 wr) (fun s1 s4 wr => strLen s1)
  case atStart => exact hrel0
  case round =>
    obtain ⟨x, acc, room, rfl, rfl, hroom, hbd, hbw, hwz, hxl, hacc⟩ := hrel
    have hacc' := Lib.hid hacc
    have hxs : x.size = x.data.toList.length := Lib.size_eq x
    have hxs' := Lib.hid hxs
    clear hacc hrel0 hxs
    by_cases h0 : x.data.toList = []
    · have he := empty_of x h0
      have hfin : pre ++ foldL L = acc := by rw [← hacc'.out, h0]; simp [foldF]
      have hfin' := Lib.hid hfin
      clear h0 hfin
      go_wp2
      go_end0
      exact ⟨rfl, by rw [hfin'.out]; exact hbd, hbw⟩
    · have he := nonempty_of x h0
      have hr74 : 74 ≤ room := by omega
      have hfb := fit_bd x.data.toList room hr74 h0
      have hstep := foldF_step x.data.toList.length x.data.toList room hr74 h0 (Nat.le_refl _)
      have hxz : x.size ≤ 1099511627776 := by have := hxs'.out; omega
      have cF := fun W hW => fit_any x room W hW (by omega) (by omega)
      obtain ⟨n, hn⟩ : ∃ n : Nat, fit x.data.toList room = n := ⟨_, rfl⟩
      rw [hn] at hfb hstep
      rw [hn] at cF
      have htk : (x.extract 0 n).data.toList = x.data.toList.take n := by rw [Lib.extract_data]; rfl
      have hdr : (x.extract n x.size).data.toList = x.data.toList.drop n := Lib.extract_to_end x n
      have htz : (x.extract 0 n).size = n := by rw [Lib.size_eq, htk, List.length_take]; omega
      have hdz : (x.extract n x.size).size = x.size - n := by rw [Lib.size_eq, hdr, List.length_drop, ← hxs'.out]
      have hn1 : 1 ≤ n ∧ n ≤ x.size := by have := hxs'.out; omega
      have hal : acc.length ≤ pre.length + 4 * t.size := by
        have := congrArg List.length hacc'.out
        rw [List.length_append, List.length_append] at this
        omega
      have hdz' := Lib.hid hdz
      have htk' := Lib.hid htk
      have htz' := Lib.hid htz
      have hn' := Lib.hid hn
      have hfb' := Lib.hid hfb
      have hstep' := Lib.hid hstep
      clear hn hfb hstep htk htz hdz h0
      by_cases h2 : x.data.toList.drop n = []
      · have he2 := empty_of (x.extract n x.size) (hdr.trans h2)
        have hfin : acc ++ (x.extract 0 n).data.toList ++ (⟨#[13, 10]⟩ : ByteArray).data.toList ++ foldF (x.extract n x.size).data.toList.length (x.extract n x.size).data.toList room = pre ++ foldL L := by
          rw [← hacc'.out, hstep'.out, htk'.out, hdr, h2, if_pos rfl, foldF_nil]; simp
        have hfin' := Lib.hid hfin
        have hdl : (x.extract n x.size).data.toList.length ≤ L.length := by rw [hdr, List.length_drop]; omega
        clear hfin hdr h2
        go_wp2_with (go_at_call 135; refine (cF _ (hT'.out _ hbw)).mono ?_; rintro e w1 ⟨rfl, hb1⟩)
        have hbd1 := hbd.kept hb1
        have hbw1 : Below B w w1 := hbw.trans (hb1.mono (by have := hbd.lt; omega))
        have hz1 : w.heap.size ≤ w1.heap.size := by have := hb1.size; omega
        clear hbd hbw hb1
        go_at_call 66
        refine (write_any B b acc _ _ hbd1 (by have := htz'.out; omega) (by have := hbd1.lt; omega)).mono ?_
        rintro e w2 ⟨rfl, hbd2, hb2⟩
        have hz2 : w.heap.size ≤ w2.heap.size := by have := hb2.size; omega
        go_wp2_with fail
        go_at_call 66
        refine (write_any B b _ _ _ hbd2 (by rw [List.length_append, ← Lib.size_eq, htz'.out, show (⟨#[13, 10]⟩ : ByteArray).size = 2 from rfl]; omega) (by have := hbd2.lt; omega)).mono ?_
        rintro e w3 ⟨rfl, hbd3, hb3⟩
        have hz3 : w.heap.size ≤ w3.heap.size := by have := hb3.size; omega
        have hbw3 := (hbw1.trans hb2).trans hb3
        clear hbw1 hbd1 hbd2 hb2 hb3
        go_wp2
        go_roundw
        case rel => exact ⟨_, _, room, rfl, rfl, hroom, hbd3, hbw3, hz3, hdl, hfin'.out⟩
        case measure => show (x.extract n x.size).size < x.size; rw [hdz'.out]; omega
      · have he2 := nonempty_of (x.extract n x.size) (by rw [hdr]; exact h2)
        have hfin : acc ++ (x.extract 0 n).data.toList ++ (⟨#[13, 10]⟩ : ByteArray).data.toList ++ [32] ++ foldF (x.extract n x.size).data.toList.length (x.extract n x.size).data.toList 74 = pre ++ foldL L := by
          rw [← hacc'.out, hstep'.out, htk'.out, hdr, if_neg h2, foldF_more x.data.toList.length (x.data.toList.drop n).length _ 74 (by omega) (by rw [List.length_drop]; omega) (Nat.le_refl _)]; simp
        have hfin' := Lib.hid hfin
        have hdl : (x.extract n x.size).data.toList.length ≤ L.length := by rw [hdr, List.length_drop]; omega
        clear hfin hdr h2
        go_wp2_with (go_at_call 135; refine (cF _ (hT'.out _ hbw)).mono ?_; rintro e w1 ⟨rfl, hb1⟩)
        have hbd1 := hbd.kept hb1
        have hbw1 : Below B w w1 := hbw.trans (hb1.mono (by have := hbd.lt; omega))
        have hz1 : w.heap.size ≤ w1.heap.size := by have := hb1.size; omega
        clear hbd hbw hb1
        go_at_call 66
        refine (write_any B b acc _ _ hbd1 (by have := htz'.out; omega) (by have := hbd1.lt; omega)).mono ?_
        rintro e w2 ⟨rfl, hbd2, hb2⟩
        have hz2 : w.heap.size ≤ w2.heap.size := by have := hb2.size; omega
        go_wp2_with fail
        go_at_call 66
        refine (write_any B b _ _ _ hbd2 (by rw [List.length_append, ← Lib.size_eq, htz'.out, show (⟨#[13, 10]⟩ : ByteArray).size = 2 from rfl]; omega) (by have := hbd2.lt; omega)).mono ?_
        rintro e w3 ⟨rfl, hbd3, hb3⟩
        have hz3 : w.heap.size ≤ w3.heap.size := by have := hb3.size; omega
        have hbw3 := (hbw1.trans hb2).trans hb3
        clear hbw1 hbd1 hbd2 hb2 hb3
        go_wp2_with fail
        go_at_call 67
        refine (byte_any B b _ 32 _ hbd3 (by rw [List.length_append, List.length_append, ← Lib.size_eq, htz'.out, show (⟨#[13, 10]⟩ : ByteArray).data.toList.length = 2 from rfl]; omega) (by have := hbd3.lt; omega)).mono ?_
        rintro e w4 ⟨rfl, hbd4, hb4⟩
        have hz4 : w.heap.size ≤ w4.heap.size := by have := hb4.size; omega
        have hbw4 := hbw3.trans hb4
        clear hbw3 hbd3 hb4
        go_wp2
        go_roundw
        case rel => exact ⟨_, _, 74, rfl, rfl, .inr rfl, hbd4, hbw4, hz4, hdl, hfin'.out⟩
        case measure => show (x.extract n x.size).size < x.size; rw [hdz'.out]; omega
end Go.Proofs.YthnnpnlapjlnoaaGreatDoor.Fo
