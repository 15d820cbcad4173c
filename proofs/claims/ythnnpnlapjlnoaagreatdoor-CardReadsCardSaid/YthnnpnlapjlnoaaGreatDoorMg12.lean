import Derived.Test.YthnnpnlapjlnoaaGreatDoorMg10
import Derived.Test.YthnnpnlapjlnoaaGreatDoorMg11
import Derived.Deep.RegionHeld3
import Derived.Deep.CutRange
import Derived.Deep.AppendLies
import Derived.Test.YthnnpnlapjlnoaaGreatDoorMg9
import Derived.Test.YthnnpnlapjlnoaaGreatDoorMg1
import Derived.Test.YthnnpnlapjlnoaaGreatDoorMg3
import Derived.Test.YthnnpnlapjlnoaaGreatDoorCards
import Derived.Test.YthnnpnlapjlnoaaGreatDoorTie
import Derived.Test.YthnnpnlapjlnoaaGreatDoorMg8
import Derived.PinnedBridge
import Derived.Lib.LaidIn
import Derived.Lib.LaidU8T
import Derived.Deep.DeepHandedRow
import Derived.Deep.DeepWitnessRowRef
import Derived.ProofKit
import Derived.OpenShut
import Derived.SizedLaws
import Derived.Test.YthnnpnlapjlnoaaGreatDoorMg7
import Derived.ChangeSame
import Derived.ChangeSlices
import Derived.Deep.Slices
import Derived.Deep.Fields
import Derived.Lib.SmallJoins
import Derived.Carry

/-
  THE WALK OF line.Canon.
-/
set_option linter.unusedVariables false
namespace Go.Proofs.YthnnpnlapjlnoaaGreatDoor.Li
open Go.Lib Go.RowKit Bu

def canP (p : PD) : PD := ⟨Ch.up p.name, p.vals⟩
/-- a line with its names in great letters -/
def canL (L : LD) : LD := ⟨Ch.up L.group, Ch.up L.name, L.params.map canP, L.value⟩
theorem Below.cells {w w' : World} (h : Below w.heap.size w w') : ∀ b o, b < w.heap.size → w'.cell? ⟨b, o, none⟩ = w.cell? ⟨b, o, none⟩ := fun b o hb => h.cell (p := ⟨b, o, none⟩) hb
theorem Below.frozens {w w' : World} (h : Below w.heap.size w w') : ∀ b o, b < w.heap.size → w'.frozen? ⟨b, o, none⟩ = w.frozen? ⟨b, o, none⟩ := fun b o hb => h.frozen (p := ⟨b, o, none⟩) hb

theorem keep_call {B b : Nat} {a W w' : World} (h : Below b W w') (k : Below B a W) (hb : B ≤ b) : Below B a w' := k.trans (h.mono hb)
theorem alloc_kept {W w' : World} {o : Obj} (h : Below (W.alloc o).heap.size (W.alloc o) w') : w'.heap[W.heap.size]? = some o := (h.block _ (by simp)).trans (heap_alloc_new W o)
theorem alloc_kept_drew {W w' : World} {o : Obj} (h : Below (W.alloc o).drew.heap.size (W.alloc o).drew w') : w'.heap[W.heap.size]? = some o := (h.block _ (by show W.heap.size < (W.alloc o).heap.size; simp)).trans (heap_alloc_new W o)
theorem blk_below {w w' : World} {i : Nat} {o : Obj} (hb : Below w.heap.size w w') (h : w.heap[i]? = some o) : w'.heap[i]? = some o := (hb.block i (Array.getElem?_eq_some_iff.1 h).1).trans h
theorem set4_blk {W : World} {g : Nat} {y0 y1 y2 y3 : Value} {t : TypeId} (hk : W.heap[g]? = some (.cells #[y0, y1, y2, y3] t (0, 0))) (x0 x1 x2 x3 : Value) :
    ((((W.setCell ⟨g, 0, none⟩ x0).setCell ⟨g, 1, none⟩ x1).setCell ⟨g, 2, none⟩ x2).setCell ⟨g, 3, none⟩ x3).heap[g]? = some (.cells #[x0, x1, x2, x3] t (0, 0)) := by
  simp [World.setCell, Array.getElem?_modify, hk]
theorem below_drew_then {w w' : World} (h : Below w.drew.heap.size w.drew w') : Below w.heap.size w w' := (Below.drew (Below.refl _ _)).trans h
theorem set4_2 {W : World} {g : Nat} {y0 y1 y2 y3 : Value} {t : TypeId} (hk : W.heap[g]? = some (.cells #[y0, y1, y2, y3] t (0, 0))) (x2 : Value) :
    (W.setCell ⟨g, 2, none⟩ x2).heap[g]? = some (.cells #[y0, y1, x2, y3] t (0, 0)) := by
  simp [World.setCell, Array.getElem?_modify, hk]
theorem keep_again {B : Nat} {a W : World} {o : Obj} (k : Below B a (W.alloc o)) (hB : B ≤ W.heap.size) (ha : a.heap.size ≤ W.heap.size) (o' : Obj) : Below B a (W.alloc o') :=
  ⟨k.os, k.tape, k.output, by simp; omega, fun i hi => by rw [Below.heap_alloc W o' i (by omega), ← Below.heap_alloc W o i (by omega)]; exact k.block i hi⟩
theorem keep_set4 {B : Nat} {a W : World} {g : Nat} (k : Below B a W) (hg : B ≤ g) (x0 x1 x2 x3 : Value) : Below B a ((((W.setCell ⟨g, 0, none⟩ x0).setCell ⟨g, 1, none⟩ x1).setCell ⟨g, 2, none⟩ x2).setCell ⟨g, 3, none⟩ x3) :=
  (((k.setCell (p := ⟨g, 0, none⟩) hg _).setCell (p := ⟨g, 1, none⟩) hg _).setCell (p := ⟨g, 2, none⟩) hg _).setCell (p := ⟨g, 3, none⟩) hg _
theorem keep_alloc {B : Nat} {a W : World} (k : Below B a W) (ha : B ≤ a.heap.size) (o : Obj) : Below B a (W.alloc o) := k.alloc (Nat.le_trans ha k.size) o
set_option maxHeartbeats 16000000 in
set_option maxRecDepth 100000 in
theorem canon_any (v : Value) (L : LD) (w : World) (hv : LineAt w v L) (hg : L.group.length ≤ 4611686018427387904) (hm : L.name.length ≤ 4611686018427387904) (hnm : ∀ p ∈ L.params, p.name.length ≤ 4611686018427387904) (hn0 : L.params.length ≤ 1099511627776) (hvs : ∀ p ∈ L.params, p.vals.length ≤ 8796093022208) :
    Calls Tryz.prog 85 #[v] w fun e w' => (∃ u, e = .returned u ∧ LOwn w.heap.size u (canL L) w') ∧ Below w.heap.size w w' := by
  obtain ⟨j0, hj, hjz0, hjz1, hjz2⟩ := info_parts infoPrm
  obtain ⟨pv, rfl, A, b, o, c, rfl, h1, h2, h3, h4⟩ := hv
  obtain ⟨n, hn⟩ : ∃ n, L.params.length = n := ⟨_, rfl⟩
  rw [hn] at h1 h3 hn0 ⊢
  obtain ⟨a1, ea1, ha1⟩ := sv_some L.group
  obtain ⟨a2, ea2, ha2⟩ := sv_some L.name
  obtain ⟨a4, ea4, ha4⟩ := sv_some L.value
  rw [ea1, ea2, ea4]
  have hs1 : a1.size ≤ 4611686018427387904 := by rw [Lib.size_eq, ha1]; exact hg
  have hs2 : a2.size ≤ 4611686018427387904 := by rw [Lib.size_eq, ha2]; exact hm
  obtain ⟨g1, hg1⟩ : ∃ g1 : ByteArray, (⟨(Ch.up a1.data.toList).toArray⟩ : ByteArray) = g1 := ⟨_, rfl⟩
  obtain ⟨g2, hg2⟩ : ∃ g2 : ByteArray, (⟨(Ch.up a2.data.toList).toArray⟩ : ByteArray) = g2 := ⟨_, rfl⟩
  have cU1 := fun W => Ch.upper_any a1 W (by omega)
  have cU2 := fun W => Ch.upper_any a2 W (by omega)
  rw [hg1] at cU1
  rw [hg2] at cU2
  have hd1 : g1.data.toList = Ch.up L.group := by rw [← hg1, ha1]
  have hd2 : g2.data.toList = Ch.up L.name := by rw [← hg2, ha2]
  have hd1' := Lib.hid hd1
  have hd2' := Lib.hid hd2
  have hn' := Lib.hid hn
  have h3' := Lib.hid h3
  have h4' := Lib.hid h4
  have hvs' := Lib.hid hvs
  have hnm' := Lib.hid hnm
  have ha4' := Lib.hid ha4
  unfold maxLen at h2
  clear ea1 ea2 ea4 ha1 ha2 ha4 hn h3 h4 hvs hnm hg1 hg2 hd1 hd2 hg hm
  go_enter Tryz.func85, Tryz.ntmps85
  go_upto_region 1 with fail
  obtain ⟨wB, hwB⟩ : ∃ wB, (w.alloc (.cells #[.string a1, .string a2, .slice A n c, .string a4] 41)).alloc (.cells #[.string ⟨#[]⟩, .string ⟨#[]⟩, .slice none 0 0, .string ⟨#[]⟩] 41) = wB := ⟨_, rfl⟩
  have hbB : Below w.heap.size w wB := by rw [← hwB]; exact ((Below.refl _ _).alloc (Nat.le_refl _) _).alloc (by simp) _
  have hxB : wB.heap[w.heap.size]? = some (.cells #[.string a1, .string a2, .slice A n c, .string a4] 41 (0, 0)) := by rw [← hwB]; exact blk_alloc (heap_alloc_new w _) _
  have hyB : wB.heap[w.heap.size + 1]? = some (.cells #[.string ⟨#[]⟩, .string ⟨#[]⟩, .slice none 0 0, .string ⟨#[]⟩] 41 (0, 0)) := by
    rw [← hwB]
    have := heap_alloc_new (w.alloc (.cells #[.string a1, .string a2, .slice A n c, .string a4] 41)) (.cells #[.string ⟨#[]⟩, .string ⟨#[]⟩, .slice none 0 0, .string ⟨#[]⟩] 41)
    simpa using this
  have hzB : wB.heap.size = w.heap.size + 2 := by rw [← hwB]; simp
  rw [hwB]
  obtain ⟨Z, hZ⟩ : ∃ Z, w.heap.size = Z := ⟨_, rfl⟩
  rw [hZ] at hxB hyB hzB hbB ⊢
  clear hwB
  go_cut [3] from 7 to 15 (fun s3 wx => ∃ g : Nat, s3 = .pointer (some ⟨g, 0, none⟩) ∧ Z + 2 ≤ g ∧ Below (Z + 2) wB wx ∧ wx.heap[g]? = some (.cells #[.string g1, .string g2, .slice none 0 0, .string a4] 41 (0, 0)))
  case first =>
    obtain ⟨p0, p1, p2, p3, q0, q1, q2, q3⟩ := res4 hxB
    have hS : ∀ W, Below (Z + 2) wB W → Below (Z + 2) wB W ∧ W.cell? ⟨Z, 0, none⟩ = some (.string a1) ∧ W.cell? ⟨Z, 1, none⟩ = some (.string a2) ∧ W.cell? ⟨Z, 3, none⟩ = some (.string a4) := fun W h =>
      ⟨h, (h.cell (p := ⟨Z, 0, none⟩) (by show Z < Z + 2; omega)).trans p0, (h.cell (p := ⟨Z, 1, none⟩) (by show Z < Z + 2; omega)).trans p1, (h.cell (p := ⟨Z, 3, none⟩) (by show Z < Z + 2; omega)).trans p3⟩
    have hle : Z + 2 ≤ wB.heap.size := by omega
    have hle2 : wB.heap.size ≤ Z + 2 := by omega
    have hxB' := Lib.hid hxB
    have hyB' := Lib.hid hyB
    clear hxB hyB hzB
    go_region_held3 (fun w' => Below (Z + 2) wB w' ∧ w'.cell? ⟨Z, 0, none⟩ = some (.string a1) ∧ w'.cell? ⟨Z, 1, none⟩ = some (.string a2) ∧ w'.cell? ⟨Z, 3, none⟩ = some (.string a4))
      (refine hS _ ?_ <;> first | assumption | exact Below.drew (Below.refl _ _) | exact keep_call (by assumption) (And.left (by assumption)) (by first | exact hle | assumption | omega | (simp; omega)) | exact keep_call (by assumption) (Below.drew (Below.refl _ _)) (by first | exact hle | assumption | omega | (simp; omega)) | exact keep_alloc (And.left (by assumption)) (by assumption) _ | exact keep_alloc (Below.drew (Below.refl _ _)) (by assumption) _ | exact keep_again (And.left (by assumption)) (by assumption) (by omega) _ | exact keep_set4 (And.left (by assumption)) (by omega) _ _ _ _ | exact keep_call (by assumption) (keep_alloc (And.left (by assumption)) (by assumption) _) (by simp; omega) | exact keep_call (by assumption) (keep_alloc (Below.drew (Below.refl _ _)) (by assumption) _) (by simp; omega))
      (first | (go_at_call 47; ((first | (with_reducible refine (cU1 _).mono ?_) | (with_reducible refine (cU2 _).mono ?_)); rintro e wx ⟨rfl, hbx⟩; have hsx : Z + 2 ≤ wx.heap.size := Nat.le_trans (by first | exact hle | assumption | omega | (simp; omega)) hbx.size; have hsy : wB.heap.size ≤ wx.heap.size := (by omega); (first | (have hk := alloc_kept_drew hbx; obtain ⟨k0, k1, k2, k3, k4, k5, k6, k7⟩ := res4 hk) | (have hk : wx.heap[wB.heap.size]? = some (.cells #[.string ⟨#[]⟩, .string ⟨#[]⟩, .slice none 0 0, .string ⟨#[]⟩] 41 (0, 0)) := alloc_kept hbx; obtain ⟨k0, k1, k2, k3, k4, k5, k6, k7⟩ := res4 hk) | (have hk := alloc_kept hbx; obtain ⟨k0, k1, k2, k3, k4, k5, k6, k7⟩ := res4 hk) | (have hk := blk_below hbx (by assumption); obtain ⟨k0, k1, k2, k3, k4, k5, k6, k7⟩ := res4 hk) | skip))))
    all_goals
      go_wp2_with fail
      go_meet
    case rel => exact ⟨_, rfl, by omega, And.left (by assumption), heap_alloc_new _ _⟩
    case rel => exact ⟨_, rfl, by omega, And.left (by assumption), set4_blk (by assumption) _ _ _ _⟩
    case rel => exact ⟨_, rfl, by omega, And.left (by assumption), set4_blk (by assumption) _ _ _ _⟩
  case rest =>
    obtain ⟨g, rfl, hg, hbc, hkg⟩ := hcut
    have hxc : wc.heap[Z]? = some (.cells #[.string a1, .string a2, .slice A n c, .string a4] 41 (0, 0)) := (hbc.block Z (by omega)).trans hxB
    have hyc : wc.heap[Z + 1]? = some (.cells #[.string ⟨#[]⟩, .string ⟨#[]⟩, .slice none 0 0, .string ⟨#[]⟩] 41 (0, 0)) := (hbc.block (Z + 1) (by omega)).trans hyB
    have hbZ : Below Z w wc := hbB.trans (hbc.mono (by omega))
    obtain ⟨p0, p1, p2, p3, q0, q1, q2, q3⟩ := res4 hxc
    have hgc : g < wc.heap.size := (Array.getElem?_eq_some_iff.1 hkg).1
    obtain ⟨B, hB⟩ : ∃ B, wc.heap.size = B := ⟨_, rfl⟩
    rw [hB] at hgc
    have hBc : B ≤ wc.heap.size := by omega
    have hkg' := Lib.hid hkg
    have hyc' := Lib.hid hyc
    clear hxB hyB hzB hbB hbc hB hxc hkg hyc cU1 cU2
    go_wp2_with fail
    go_loopw [19] (fun s19 wr => ∃ (k : Nat) (pv : Value), s19 = .int .i64 (k : Int) ∧ k ≤ n ∧ Below Z w wr ∧ B ≤ wr.heap.size ∧ Hid (wr.heap[Z + 1]? = some (.cells #[.string ⟨#[]⟩, .string ⟨#[]⟩, .slice none 0 0, .string ⟨#[]⟩] 41 (0, 0))) ∧
        Hid (wr.heap[g]? = some (.cells #[.string g1, .string g2, pv, .string a4] 41 (0, 0))) ∧ POwn B pv ((L.params.take k).map canP) wr) (fun s19 wr => n - (RowKit.intOf s19).toNat)
    case atStart => exact ⟨0, _, rfl, Nat.zero_le _, hbZ, hBc, hyc', hkg', POwn.nil _ _⟩
    case round =>
      clear hbZ hBc hyc' hkg' p0 p1 p2 p3 q0 q1 q2 q3
      obtain ⟨k, pv, rfl, hk, hbw, hBr, hy, hkg, hown⟩ := hrel
      by_cases hlt : k < n
      · have hv : L.params[k]? = some (L.params[k]'(by have := hn'.out; omega)) := List.getElem?_eq_getElem _
        obtain ⟨V, hV⟩ : ∃ V, L.params[k]'(by have := hn'.out; omega) = V := ⟨_, rfl⟩
        have hVm : V ∈ L.params := by rw [← hV]; exact List.getElem_mem _
        rw [hV] at hv
        obtain ⟨rfl, hgb⟩ := h3'.out (by omega)
        obtain ⟨hc, u, hu, hsu⟩ := h4'.out k V hv
        rw [← hbw.cell (p := ⟨b, o + k * 2, none⟩) (by show b < Z; omega)] at hc
        rw [← hbw.cell (p := ⟨b, o + k * 2 + 1, none⟩) (by show b < Z; omega)] at hu
        have hVl := hvs'.out V hVm
        obtain ⟨x, ex, hx⟩ := sv_some V.name
        rw [ex] at hc
        have hxs : x.size ≤ 4611686018427387904 := by rw [Lib.size_eq, hx]; exact hnm'.out V hVm
        obtain ⟨A2, c2, rfl⟩ : ∃ A c, u = .slice A V.vals.length c := by
          obtain ⟨A, b, o, c, h, _⟩ := hsu
          exact ⟨A, c, h⟩
        obtain ⟨wP, hwP⟩ : ∃ wP, wr.alloc (.cells #[.string x, .slice A2 V.vals.length c2] 47) = wP := ⟨_, rfl⟩
        have hbP : Below wr.heap.size wr wP := by rw [← hwP]; exact (Below.refl _ _).alloc (Nat.le_refl _) _
        have hkP : wP.heap[wr.heap.size]? = some (.cells #[.string x, .slice A2 V.vals.length c2] 47 (0, 0)) := by rw [← hwP]; exact heap_alloc_new wr _
        have hS : StrsAt wP (.slice A2 V.vals.length c2) V.vals := by
          refine hsu.kept ?_
          rw [hZ]
          exact hbw.trans (hbP.mono (by have := hbw.size; omega))
        obtain ⟨l, hl⟩ : ∃ l, V.vals.length = l := ⟨_, rfl⟩
        rw [hl] at hu hwP hkP hS hVl
        have hv' := Lib.hid hv
        have hx' := Lib.hid hx
        have hl' := Lib.hid hl
        have hkP' := Lib.hid hkP
        have hzP : wr.heap.size < wP.heap.size := (Array.getElem?_eq_some_iff.1 hkP).1
        obtain ⟨e0, e1, e2, e3⟩ := res2 hkP
        clear hv hV hVm hsu ex hx hl hgb hkP
        go_wp2_with (at_builtin; refine wpList_append_strs rfl _ _ rfl wP.heap.size (.slice none 0 0) (.slice A2 l c2) V.vals rfl rfl (World.ownsRow_nil _ _ _ 1) hS ?c1 (by simp) ?_)
        case c1 => have := hl'.out; omega
        intro v2 w2 hO2 hg2
        obtain ⟨ao, cc, rfl⟩ := hO2.form
        rw [hl'.out] at hO2 ⊢
        have hb2 : Below wP.heap.size wP w2 := ⟨hg2.os, hg2.tape, hg2.output, hg2.size, fun i hi => hg2.block i hi (by simp [Value.ownBlock])⟩
        have hb2r : Below wr.heap.size wr w2 := below_then hbP hb2
        have hkg2 := Lib.hid ((hb2r.block g (by omega)).trans hkg.out)
        have hkP2 := Lib.hid ((hb2.block _ hzP).trans hkP'.out)
        have hy2 := Lib.hid ((hb2r.block (Z + 1) (by omega)).trans hy.out)
        obtain ⟨us, hus, hrow, hvals⟩ := hown.kept hb2r
        have hO2B : Own B (.slice ao l cc) V.vals w2 := hO2.less (by omega)
        have hlk : ((L.params.take k).map canP).length = k := by rw [List.length_map, List.length_take]; have := hn'.out; omega
        have hsz2 : wr.heap.size < w2.heap.size := Nat.lt_of_lt_of_le hzP hb2.size
        obtain ⟨gx, hgx⟩ : ∃ gx : ByteArray, (⟨(Ch.up x.data.toList).toArray⟩ : ByteArray) = gx := ⟨_, rfl⟩
        have cU := fun W => Ch.upper_any x W (by omega)
        rw [hgx] at cU
        have hgxd : gx.data.toList = Ch.up V.name := by rw [← hgx, hx'.out]
        have hmore : ∀ (W : World) (v' : Value) (w' : World), Below w2.heap.size w2 W → w'.ownsRow B 47 2 v' (k + 1) (pcells ((L.params.take k).map canP) us ++ [.string gx, .slice ao l cc]) → W.grownBy w' pv.ownBlock → POwn B v' ((L.params.take (k + 1)).map canP) w' := fun W v' w' hW h5 h6 => by
          obtain ⟨hlt2, hve⟩ := List.getElem?_eq_some_iff.1 hv'.out
          rw [List.take_succ_eq_append_getElem hlt2, hve, List.map_append, List.map_singleton]
          refine POwn.more (p := canP V) (u := .slice ao l cc) (W := W) (w' := w') (v := pv) hus (ownsRow_kept hrow hW) (fun j p u hp hu => (hvals j p u hp hu).kept hW) (hO2B.kept hW) ?_ h6
          rw [hlk]
          have e : sv (canP V).name = .string gx := by show sv (Ch.up V.name) = _; rw [← hgxd, sv_data]
          rw [e]; exact h5
        have hrowK : ∀ W, Below w2.heap.size w2 W → W.ownsRow B 47 2 pv k (pcells ((L.params.take k).map canP) us) := fun W hW => by
          have := ownsRow_kept hrow hW
          rwa [hlk] at this
        have hrlt : ∀ q, pv.ownBlock = some q → B ≤ q := fun q hq => (hrow.lt q hq).1
        obtain ⟨m0, m1, m2, m3, m4, m5, m6, m7⟩ := res4 hkg2.out
        obtain ⟨t0, t1, t2, t3⟩ := res2 hkP2.out
        have hone : ∀ u ∈ [Value.string gx, Value.slice ao l cc], u.oneCell' = true := fun u hu => by
          simp at hu
          rcases hu with rfl | rfl <;> rfl
        have hBw : B ≤ w2.heap.size := by omega
        have hk1 : k + 1 ≤ maxLen := by unfold maxLen; omega
        have hk2 : (k + 1) * 40 ≤ 140737488355328 := by omega
        have hmore' := Lib.hid hmore
        have hrowK' := Lib.hid hrowK
        have hrlt' := Lib.hid hrlt
        clear hO2 hg2 hb2 hus hrow hvals hO2B hlk hgx hgxd hmore hrowK hrlt hown hS hbP hkg hy e0 e1 e2 e3 hu hc
        go_wp2_with fail
        go_region_law (first
          | ((refine step_append_lies _ (by rfl) _ _ _ (by rfl) B 47 j0 (.agg #[.string ⟨#[]⟩, .slice none 0 0]) 2 40 Tryz.underlying39 hj hjz0 hjz1 hjz2 rfl (by decide) pv k _ (by rfl) ((hrowK'.out wx hbx2).alloc _) ⟨wx.heap.size, 0, none⟩ 1 1 [.string gx, .slice ao l cc] (by rfl) (by rfl) (World.news_of_block (heap_alloc_new wx _)) hone (by omega) hk1 hk2 (by simp; omega) (wx.heap.size + 1) (by simp) ?_); intro gg cap w5 hown5 hgrow5 hat5 hlt5; have hk5 := blk_grown (blk_alloc hkx _) hgrow5 (fun q hq => by have := hrlt'.out q hq; omega); obtain ⟨x0, x1, x2, x3, x4, x5, x6, x7⟩ := res4 hk5)
          | (go_simp; go_at_call 47; refine (cU _).mono ?_; rintro e wx ⟨rfl, hbx⟩; have hbx2 := below_drew_then hbx; have hkx := blk_below hbx2 hkg2.out; obtain ⟨y0, y1, y2, y3, y4, y5, y6, y7⟩ := res4 hkx; have hszx := hbx2.size; have z2 : (wx.alloc (.cells #[.string gx, .slice ao l cc] 47)).cell? ⟨g, 2, none⟩ = some pv := (res4 (blk_alloc hkx _)).2.2.1))
        all_goals
          have hal := keep_alloc hbx2 (Nat.le_refl _) (.cells #[.string gx, .slice ao l cc] 47)
          have hP5 := hmore'.out _ _ w5 hal hown5 hgrow5
          have hP6 := Lib.hid (hP5.stored (a := ⟨g, 2, none⟩) hgc (.slice (some ⟨gg, 0, none⟩) (k + 1) cap))
          have hk6 := Lib.hid (set4_2 hk5 (.slice (some ⟨gg, 0, none⟩) (k + 1) cap))
          have hy6 := Lib.hid (blk_store (blk_grown (blk_alloc (blk_below hbx2 hy2.out) (.cells #[.string gx, .slice ao l cc] 47)) hgrow5 (fun q hq => by have := hrlt'.out q hq; omega)) (p := ⟨g, 2, none⟩) (by show Z + 1 ≠ g; omega) (.slice (some ⟨gg, 0, none⟩) (k + 1) cap))
          have hb6 : Below Z w (w5.setCell ⟨g, 2, none⟩ (.slice (some ⟨gg, 0, none⟩) (k + 1) cap)) := (((hbw.trans (hb2r.mono (by omega))).trans (hal.mono (by omega))).grown hgrow5 (by simp; omega) (fun q hq => by have := hrlt'.out q hq; omega)).setCell (p := ⟨g, 2, none⟩) (by show Z ≤ g; omega) _
          have hs6 : B ≤ (w5.setCell ⟨g, 2, none⟩ (.slice (some ⟨gg, 0, none⟩) (k + 1) cap)).heap.size := by have := hgrow5.size; simp at this; simp [World.setCell]; omega
          clear hal hP5 hk5 hown5 hgrow5 hat5 hlt5 hbx hbx2 hkx x0 x1 x2 x3 x4 x5 x6 x7 z2 m0 m1 m2 m3 m4 m5 m6 m7 t0 t1 t2 t3
          go_wp2_with fail
          go_roundw
        case rel => exact ⟨k + 1, _, by go_num, by omega, hb6, hs6, hy6, hk6, hP6.out⟩
        case measure => simp [RowKit.intOf]; omega
        case rel => exact ⟨k + 1, _, by go_num, by omega, hb6, hs6, hy6, hk6, hP6.out⟩
        case measure => simp [RowKit.intOf]; omega
        case rel => exact ⟨k + 1, _, by go_num, by omega, hb6, hs6, hy6, hk6, hP6.out⟩
        case measure => simp [RowKit.intOf]; omega
        case rel => exact ⟨k + 1, _, by go_num, by omega, hb6, hs6, hy6, hk6, hP6.out⟩
        case measure => simp [RowKit.intOf]; omega
      · rw [List.take_of_length_le (by have := hn'.out; omega)] at hown
        obtain ⟨x0, x1, x2, x3, r0, r1, r2, r3⟩ := res4 hkg.out
        obtain ⟨y0, y1, y2, y3, f0, f1, f2, f3⟩ := res4 hy.out
        obtain ⟨ag, cg, rfl⟩ := hown.form
        obtain ⟨lg, hlg⟩ : ∃ lg, (L.params.map canP).length = lg := ⟨_, rfl⟩
        rw [hlg] at hown x2
        have hgd1 := hd1'.out
        have hgd2 := hd2'.out
        have hZB : Z + 1 < B := by omega
        have hfin : ∀ W, POwn B (.slice ag lg cg) (L.params.map canP) W → LOwn Z (.agg #[.string g1, .string g2, .slice ag lg cg, .string a4]) (canL L) W := fun W h => ⟨_, by show _ = Value.agg #[sv (Ch.up L.group), sv (Ch.up L.name), _, sv L.value]; rw [← hgd1, ← hgd2, ← ha4'.out, sv_data, sv_data, sv_data], h.less (by omega)⟩
        have hlo := Lib.hid (hfin _ (((((hown.stored (a := ⟨Z + 1, 0, none⟩) hZB (.string g1)).stored (a := ⟨Z + 1, 1, none⟩) hZB (.string g2)).stored (a := ⟨Z + 1, 2, none⟩) hZB (.slice ag lg cg)).stored (a := ⟨Z + 1, 3, none⟩) hZB (.string a4))))
        have hZ1 : Z ≤ Z + 1 := by omega
        have hbf := (((hbw.setCell (p := ⟨Z + 1, 0, none⟩) hZ1 (.string g1)).setCell (p := ⟨Z + 1, 1, none⟩) hZ1 (.string g2)).setCell (p := ⟨Z + 1, 2, none⟩) hZ1 (.slice ag lg cg)).setCell (p := ⟨Z + 1, 3, none⟩) hZ1 (.string a4)
        have hne1 : ¬ g = Z + 1 := by omega
        have hne2 : ¬ Z + 1 = g := by omega
        clear hlg hy hkg hown hfin hgd1 hgd2
        go_wp2
        exact bodyPost_ret (v := .agg #[.string g1, .string g2, .slice ag lg cg, .string a4]) (by simp [results, Tryz.results85, go_sem, y0, y1, y2, y3]) rfl (by rw [hZ]; exact ⟨⟨_, rfl, hlo.out⟩, hbf⟩)
end Go.Proofs.YthnnpnlapjlnoaaGreatDoor.Li

/-
  STORES INTO A ROW OF PARAMETERS OF THE CALL's OWN; canonical lines are a fixed point.
-/
set_option linter.unusedVariables false
namespace Go.Proofs.YthnnpnlapjlnoaaGreatDoor.Li
open Go.Lib Go.RowKit Bu

theorem rowOther {w : World} {B g o : Nat} {e t : TypeId} {size n : Nat} {v u : Value} {xs : List Value} {cs : Array Value} {fr : Nat × Nat} (h : w.ownsRow B e size v n xs) (hg : w.heap[g]? = some (.cells cs t fr)) (hne : t ≠ e) : (w.setCell ⟨g, o, none⟩ u).ownsRow B e size v n xs := by
  refine ⟨h.1, ?_⟩
  rcases h.2 with h | ⟨k, cap, cur, e1, e2, e3, e4⟩
  · exact .inl h
  · refine .inr ⟨k, cap, cur, e1, e2, ?_, e4⟩
    rw [Below.heap_setCell _ _ _ _ (fun ek => by
      have ek : k = g := ek
      subst ek
      rw [hg] at e3
      injection e3 with e3
      injection e3 with _ ht
      exact hne ht)]
    exact e3
theorem up_up (l : Row) : Ch.up (Ch.up l) = Ch.up l := by
  unfold Ch.up
  rw [List.map_map]
  congr 1
  funext c
  exact Ch.byte_all (P := fun c => Ch.upB (Ch.upB c) = Ch.upB c) (by decide +kernel) c
theorem canL_canL (L : LD) : canL (canL L) = canL L := by
  unfold canL canP
  simp [up_up]
theorem LineAt.box' {w : World} {v : Value} {L : LD} (h : LineAt w v L) : ∃ (g n x : ByteArray) (A : Option Addr) (l c : Nat), v = .agg #[.string g, .string n, .slice A l c, .string x] ∧ l = L.params.length ∧ x.data.toList = L.value := by
  obtain ⟨pv, rfl, A, b, o, c, rfl, _⟩ := h
  exact ⟨⟨L.group.toArray⟩, ⟨L.name.toArray⟩, ⟨L.value.toArray⟩, A, _, c, rfl, rfl, rfl⟩
theorem SameP.same' {L : LD} {e : Ending} (h : SameP L L e) : e = .returned (.bool true) := by
  obtain ⟨R, rfl, hR⟩ := h
  rw [hR.2 rfl]
theorem LineAt.parts {w : World} {a b p d : Value} {L : LD} (h : LineAt w (.agg #[a, b, p, d]) L) : a = sv L.group ∧ b = sv L.name ∧ d = sv L.value ∧ PrmsAt w p L.params := by
  obtain ⟨pv, e, hp⟩ := h
  injection e with e
  simp only [Array.mk.injEq, List.cons.injEq, and_true] at e
  obtain ⟨rfl, rfl, rfl, rfl⟩ := e
  exact ⟨rfl, rfl, rfl, hp⟩
theorem PrmsAt.row {w : World} {A : Option Addr} {n c : Nat} {ps : List PD} (h : PrmsAt w (.slice A n c) ps) : n = ps.length ∧ n ≤ c ∧ c ≤ maxLen ∧ ∃ b off, (0 < ps.length → A = some ⟨b, off, none⟩ ∧ b < w.heap.size) ∧ ∀ (j : Nat) (p : PD), ps[j]? = some p → w.cell? ⟨b, off + j * 2, none⟩ = some (sv p.name) := by
  obtain ⟨A', b, off, c', e, h1, h2, h3, h4⟩ := h
  injection e with e1 e2 e3
  subst e1; subst e2; subst e3
  exact ⟨rfl, h1, h2, b, off, h3, fun j p hj => (h4 j p hj).1⟩
theorem set4_10 {W : World} {g : Nat} {y0 y1 y2 y3 : Value} {t : TypeId} (hk : W.heap[g]? = some (.cells #[y0, y1, y2, y3] t (0, 0))) (x0 x1 : Value) :
    (W.setCell ⟨g, 1, none⟩ x1).heap[g]? = some (.cells #[y0, x1, y2, y3] t (0, 0)) ∧ ((W.setCell ⟨g, 1, none⟩ x1).setCell ⟨g, 0, none⟩ x0).heap[g]? = some (.cells #[x0, x1, y2, y3] t (0, 0)) := by
  constructor <;> simp [World.setCell, Array.getElem?_modify, hk]
theorem drew_kept {w w' : World} (h : Below w.heap.size w w') : Below w.heap.size w w'.drew := h.drew
theorem keep_then {a W w' : World} (h : Below W.heap.size W w') (k : Below a.heap.size a W) : Below a.heap.size a w' := below_then k h
/-- lines of which the first k have their names in great letters -/
def mixP (ps : List PD) (k : Nat) : List PD := (ps.take k).map canP ++ ps.drop k
theorem mixP_zero (ps : List PD) : mixP ps 0 = ps := by simp [mixP]
theorem mixP_all (ps : List PD) (n : Nat) (h : ps.length ≤ n) : mixP ps n = ps.map canP := by unfold mixP; rw [List.take_of_length_le h, List.drop_of_length_le h, List.append_nil]
theorem mixP_len (ps : List PD) (k : Nat) : (mixP ps k).length = ps.length := by
  unfold mixP
  rw [List.length_append, List.length_map, List.length_take, List.length_drop]; omega
theorem mixP_step (ps : List PD) (k : Nat) (p : PD) (h : ps[k]? = some p) : mixP ps (k + 1) = (mixP ps k).set k (canP p) := by
  obtain ⟨hl, hv⟩ := List.getElem?_eq_some_iff.1 h
  unfold mixP
  have hk : ((ps.take k).map canP).length = k := by rw [List.length_map, List.length_take]; omega
  rw [List.set_append_right _ _ (by omega), hk, Nat.sub_self, List.take_succ_eq_append_getElem hl, hv, List.map_append, List.map_singleton, List.drop_eq_getElem_cons hl, hv]
  simp
theorem mixP_at (ps : List PD) (k : Nat) (p : PD) (h : ps[k]? = some p) : (mixP ps k)[k]? = some p := by
  obtain ⟨hl, hv⟩ := List.getElem?_eq_some_iff.1 h
  unfold mixP
  have hk : ((ps.take k).map canP).length = k := by rw [List.length_map, List.length_take]; omega
  rw [List.getElem?_append_right (by omega), hk, Nat.sub_self, List.drop_eq_getElem_cons hl, hv]
  rfl

/-- a name stored into a row of parameters of the call's own -/
theorem pcells_set : ∀ (ps : List PD) (vs : List Value) (j : Nat) (p : PD) (n : Row), ps.length = vs.length → ps[j]? = some p → pcells (ps.set j ⟨n, p.vals⟩) vs = (pcells ps vs).set (j * 2) (sv n)
  | q :: ps, u :: vs, 0, p, n, h, h1 => by simp [pcells]
  | q :: ps, u :: vs, j + 1, p, n, h, h1 => by
    have := pcells_set ps vs j p n (by simpa using h) (by simpa using h1)
    rw [show (j + 1) * 2 = j * 2 + 1 + 1 by omega]
    simp [pcells, this]
  | [], _, j, p, n, _, h1 => by simp at h1
  | _ :: _, [], _, _, _, h, _ => by simp at h
theorem POwn.setName {B : Nat} {v : Value} {ps : List PD} {w : World} (h : POwn B v ps w) {j : Nat} {p : PD} (hj : ps[j]? = some p) (x : ByteArray) :
    ∃ g c, v = .slice (some ⟨g, 0, none⟩) ps.length c ∧ B ≤ g ∧ g < w.heap.size ∧ (∀ i cs t fr, w.heap[i]? = some (.cells cs t fr) → t ≠ 47 → i ≠ g) ∧ w.frozen? ⟨g, j * 2, none⟩ = false ∧ w.cell? ⟨g, j * 2, none⟩ = some (sv p.name) ∧
      POwn B v (ps.set j ⟨x.data.toList, p.vals⟩) (w.setCell ⟨g, j * 2, none⟩ (.string x)) := by
  obtain ⟨vs, h1, h2, h3⟩ := h
  have hlt := (List.getElem?_eq_some_iff.1 hj).1
  obtain ⟨h4, h5 | ⟨g, cap, cur, e1, e2, e3, e4, e5, e6, e7⟩⟩ := h2
  · omega
  · have hsz : j * 2 < cur.size := by omega
    have hcur : cur[j * 2]? = some (sv p.name) := by
      have hu : vs[j]? = some (vs[j]'(by omega)) := List.getElem?_eq_getElem (by omega)
      have c1 := (pcells_at ps vs j p _ h1 hj hu).1
      rw [← e7, List.getElem?_take, if_pos (by omega)] at c1
      rw [← Array.getElem?_toList]; exact c1
    have hblk : (w.setCell ⟨g, j * 2, none⟩ (.string x)).heap[g]? = some (.cells (cur.set! (j * 2) (.string x)) 47 (0, 0)) := by
      simp [World.setCell, Array.getElem?_modify, e3, Array.setIfInBounds, hsz]
    refine ⟨g, cap, e1, e2, (Array.getElem?_eq_some_iff.1 e3).1, fun i cs t fr h hne e => by rw [e, e3] at h; injection h with h; injection h with _ ht; exact hne ht.symm, Lib.frozen_of_heap e3 _, by rw [Lib.cell_of_heap e3]; exact hcur, vs, by rw [List.length_set]; exact h1, ⟨?_, .inr ⟨g, cap, cur.set! (j * 2) (.string x), ?_, e2, hblk, ?_, e5, ?_, ?_⟩⟩, fun i q u hq hu => ?_⟩
    · rw [pcells_set ps vs j p _ h1 hj, List.length_set, List.length_set]; exact h4
    · rw [List.length_set]; exact e1
    · rw [List.length_set]; exact e4
    · simpa using e6
    · rw [pcells_set ps vs j p _ h1 hj, ← e7, List.length_set, sv_data]
      simp [Array.set!_eq_setIfInBounds, Array.toList_setIfInBounds, List.take_set]
    · have hv : ∃ q0, ps[i]? = some q0 ∧ q0.vals = q.vals := by
        rw [List.getElem?_set] at hq
        split at hq
        · rename_i hji
          subst hji
          first | rw [if_pos hlt] at hq | skip
          obtain rfl := Option.some.inj hq
          exact ⟨p, hj, rfl⟩
        · exact ⟨q, hq, rfl⟩
      obtain ⟨q0, hq0, he⟩ := hv
      rw [← he]
      exact rowOther (h3 i q0 u hq0 hu) e3 strPrm_ne.symm

end Go.Proofs.YthnnpnlapjlnoaaGreatDoor.Li

/-
  THE CANONICAL LINES OF A CARD (plain): 'can1' of each line, 'srt' of all; which cards are right ('right'), the error ('cerr').
-/
set_option linter.unusedVariables false
namespace Go.Proofs.YthnnpnlapjlnoaaGreatDoor.Ca
open Li (LD PD canL chk)

def nFN : Row := [70, 78]
def nUID : Row := [85, 73, 68]
def nKIND : Row := [75, 73, 78, 68]
def sBAD : Row := [66, 69, 71, 73, 78, 32, 69, 78, 68, 32, 86, 69, 82, 83, 73, 79, 78]
def sKINDS : Row := [105, 110, 100, 105, 118, 105, 100, 117, 97, 108, 32, 103, 114, 111, 117, 112, 32, 111, 114, 103, 32, 108, 111, 99, 97, 116, 105, 111, 110]
def sONCE : Row := [78, 32, 85, 73, 68, 32, 75, 73, 78, 68, 32, 66, 68, 65, 89, 32, 82, 69, 86]
/-- a line, canonical, its texts put anew -/
def can1 (L : LD) : LD := { canL L with value := (anew (canL L).name L.value).1 }
theorem can1_name (L : LD) : (can1 L).name = Ch.up L.name := rfl
/-- a line that no right card has -/
def badL (L : LD) : Bool :=
  !(anew (canL L).name L.value).2 || (among (canL L).name sBAD || ((decide ((canL L).name = nUID) && decide ((can1 L).value = [])) || (decide ((canL L).name = nKIND) && !among (Ch.low (can1 L).value) sKINDS)))
/-- does a line stand among those ahead of it that may be there once? -/
def dupL (ahead : List LD) (C : LD) : Bool := ahead.any fun o => decide (o.name = C.name) && among C.name sONCE
/-- a fault of the first k lines -/
def badTo : List LD → Nat → Bool
  | _, 0 => false
  | Ls, k + 1 => badTo Ls k || match Ls[k]? with
    | none => false
    | some L => badL L || dupL ((Ls.take k).map can1) (can1 L)
theorem badTo_next (Ls : List LD) (k : Nat) (L : LD) (h : Ls[k]? = some L) : badTo Ls (k + 1) = (badTo Ls k || (badL L || dupL ((Ls.take k).map can1) (can1 L))) := by rw [badTo, h]
def keyL (L : LD) : RowB := if L.name = nFN then [] else L.name
/-- the lines named FN first, then the others by name -/
def srt (out : List LD) : List LD := out.filter (fun L => decide (L.name = nFN)) ++ riseF keyL out.length [] out
theorem keyL_fn {L : LD} (h : L.name = nFN) : keyL L = [] := if_pos h
theorem keyL_own {L : LD} (h : L.name ≠ nFN) : keyL L = L.name := if_neg h
theorem srt_spec (out : List LD) (hne : ∀ L ∈ out, L.name ≠ []) : Sorted keyL (srt out) ∧ ∀ m, (srt out).filter (fun L => decide (keyL L = m)) = out.filter (fun L => decide (keyL L = m)) := by
  obtain ⟨i1, i2, i3⟩ := rise_spec keyL out.length [] out List.countP_le_length
  have hk : ∀ L ∈ out.filter (fun L => decide (L.name = nFN)), keyL L = [] := fun L hL => keyL_fn (by simpa using (List.mem_filter.1 hL).2)
  have hiff : ∀ L ∈ out, (keyL L = [] ↔ L.name = nFN) := fun L hL => ⟨fun h => (by
    by_cases hn : L.name = nFN
    · exact hn
    · rw [keyL_own hn] at h; exact absurd h (hne L hL)), keyL_fn⟩
  refine ⟨List.pairwise_append.2 ⟨?_, i1, fun a ha b hb => ?_⟩, fun m => ?_⟩
  · refine List.Pairwise.imp_of_mem (R := fun _ _ => True) (fun {a b} ha hb _ => by rw [hk a ha, hk b hb]; exact lt_irrefl _) ?_
    exact List.pairwise_of_forall (fun _ _ => trivial)
  · rw [hk a ha]; exact lt_nil _
  · unfold srt
    rw [List.filter_append, i3 m, List.filter_filter]
    cases m with
    | nil =>
      rw [if_neg (by rw [lt_nil]; simp), List.append_nil]
      apply List.filter_congr
      intro L hL
      have := hiff L hL
      by_cases hn : L.name = nFN
      · simp [hn, this.2 hn]
      · have : ¬ keyL L = [] := fun e => hn (this.1 e)
        simp [hn, this]
    | cons b m =>
      rw [if_pos (lt_nil_cons b m)]
      have e0 : out.filter (fun L => decide (keyL L = b :: m) && decide (L.name = nFN)) = [] := by
        rw [List.filter_eq_nil_iff]
        intro L _ e
        simp only [Bool.and_eq_true, decide_eq_true_eq] at e
        rw [keyL_fn e.2] at e
        exact absurd e.1 (by simp)
      rw [e0, List.nil_append]
/-- whatever is sorted so and has the same lines of each name in their order is it -/
theorem srt_uniq (out s : List LD) (hne : ∀ L ∈ out, L.name ≠ []) (hs : Sorted keyL s) (h : ∀ m, s.filter (fun L => decide (keyL L = m)) = out.filter (fun L => decide (keyL L = m))) : s = srt out :=
  sorted_uniq keyL s (srt out) hs (srt_spec out hne).1 (fun m => by rw [h m, (srt_spec out hne).2 m])
/-- the first line's error, or whether the card is right -/
def cerr (Ls : List LD) : Nat := match Ls.find? (fun L => decide (chk L ≠ 0)) with
  | some L => chk L
  | none => if (Ls.map can1).filter (fun L => decide (L.name = nFN)) = [] ∨ badTo Ls Ls.length = true then 50 else 0
end Go.Proofs.YthnnpnlapjlnoaaGreatDoor.Ca

/-
  BETWEEN TWO VOCABULARIES: a row of lines of the call's own ('LsOwn') as the sort's row of elements of four cells, there and back; the lines are then 'srt' of what they were.
-/
set_option linter.unusedVariables false
namespace Go.Proofs.YthnnpnlapjlnoaaGreatDoor.Ca
open Go.Shelf Go.RowKit Go.Lib Go.Sort
open Li (LD PD sv POwn)

instance : Inhabited LD := ⟨⟨[], [], [], []⟩⟩
abbrev Hdr : Type := Option Addr × Nat × Nat
abbrev LV : Type := LD × Hdr
instance : Inhabited LV := ⟨(default, (none, 0, 0))⟩
def toV (h : Hdr) : Value := .slice h.1 h.2.1 h.2.2
def hdr : Value → Hdr
  | .slice A n c => (A, n, c)
  | _ => (none, 0, 0)
theorem toV_hdr {v : Value} (h : ∃ A n c, v = .slice A n c) : toV (hdr v) = v := by obtain ⟨A, n, c, rfl⟩ := h; rfl
def encL (p : LV) : List Value := [sv p.1.group, sv p.1.name, toV p.2, sv p.1.value]
def keyV (p : LV) : RowB := keyL p.1
theorem encL_len (x : LV) : (encL x).length = 4 := rfl

theorem flat_get {α : Type} [Inhabited α] (f : α → List Value) (hf : ∀ x, (f x).length = 4) : ∀ (ps : List α) (t : Nat), t < ps.length * 4 → (ps.flatMap f)[t]? = some ((f ps[t / 4]!)[t % 4]!)
  | [], t, h => by simp at h
  | p :: ps, t, h => by
    rw [List.flatMap_cons]
    by_cases h4 : t < 4
    · rw [List.getElem?_append_left (by rw [hf]; exact h4)]
      have e1 : t / 4 = 0 := by omega
      have e2 : t % 4 = t := by omega
      rw [e1, e2]
      have hlt : t < (f p).length := by rw [hf]; exact h4
      rw [List.getElem?_eq_getElem hlt]
      simp [hlt]
    · rw [List.getElem?_append_right (by rw [hf]; omega), hf, flat_get f hf ps (t - 4) (by simp at h; omega)]
      have e1 : t / 4 = (t - 4) / 4 + 1 := by omega
      have e2 : t % 4 = (t - 4) % 4 := by omega
      rw [e1, e2]
      simp
theorem flat_len {α : Type} (f : α → List Value) (hf : ∀ x, (f x).length = 4) (ps : List α) : (ps.flatMap f).length = ps.length * 4 := by
  induction ps with
  | nil => rfl
  | cons p ps ih => rw [List.flatMap_cons, List.length_append, hf, ih, List.length_cons]; omega
theorem flatK_list {α : Type} [Inhabited α] (f : α → List Value) (hf : ∀ x, (f x).length = 4) (ps : List α) : (flatK f 4 ps.toArray).toList = ps.flatMap f := by
  apply List.ext_getElem?
  intro t
  by_cases ht : t < ps.length * 4
  · rw [flat_get f hf ps t ht]
    unfold flatK
    simp only [Array.toList_map, Array.toList_range, List.size_toArray]
    rw [List.getElem?_map, List.getElem?_range ht]
    simp
  · rw [List.getElem?_eq_none (by
      have := size_flatK f 4 ps.toArray
      rw [Array.length_toList, this]; simp; omega), List.getElem?_eq_none (by rw [flat_len f hf]; omega)]
theorem lcells_zip : ∀ (Ls : List LD) (hs : List Hdr), Ls.length = hs.length → lcells Ls (hs.map toV) = (Ls.zip hs).flatMap encL
  | [], [], _ => rfl
  | L :: Ls, v :: vs, h => by
    have := lcells_zip Ls vs (by simpa using h)
    rw [List.map_cons, lcells, this, List.zip_cons_cons, List.flatMap_cons]; rfl
  | [], _ :: _, h => by simp at h
  | _ :: _, [], h => by simp at h
theorem holdsK_block {w : World} {g n : Nat} {cur : Array Value} {e : TypeId} {ps : List LV} (hb : w.heap[g]? = some (.cells cur e (0, 0))) (hn : ps.length = n) (ht : cur.toList.take (n * 4) = ps.flatMap encL) : HoldsK encL 4 w g 0 ps.toArray := by
  subst hn
  intro j hj
  have hj' : j < ps.length * 4 := by rw [size_flatK] at hj; simpa using hj
  refine ⟨?_, by simp [World.frozen?, hb]⟩
  have h1 : (cur.toList.take (ps.length * 4))[j]? = (ps.flatMap encL)[j]? := by rw [ht]
  rw [List.getElem?_take_of_lt hj'] at h1
  simp only [World.cell?, hb, Nat.zero_add]
  simp only [Option.isSome_none, Bool.false_eq_true, if_false]
  rw [← Array.getElem?_toList, h1, flat_get encL encL_len ps j hj', get_flatK encL 4 ps.toArray j (by simpa using hj')]
  simp
theorem heap_srt {w : World} {g m : Nat} {os : Array Obj} {cur : Array Value} {e : TypeId} {fr : Nat × Nat} (d : Array LV) (hb : w.heap[g]? = some (.cells cur e fr)) :
    (sortWorldK encL 4 w g 0 m d os).heap[g]? = some (.cells (putCells id 0 (flatK encL 4 d) cur) e fr) := by
  have hg : g < w.heap.size := (Array.getElem?_eq_some_iff.1 hb).1
  unfold sortWorldK putRowK
  rw [heap_grow_old _ _ (by simpa using hg)]
  simp [putRow, mapBlock, Sort.ahead, Array.getElem?_modify, hb, onCells]
theorem grown_srt {w : World} {g m : Nat} {os : Array Obj} (d : Array LV) : w.grownBy (sortWorldK encL 4 w g 0 m d os) (some g) := by
  unfold sortWorldK putRowK
  refine ⟨rfl, rfl, rfl, by simp, fun k hk hne => ?_⟩
  rw [heap_grow_old _ _ (by simpa using hk)]
  have : g ≠ k := fun e => hne (by rw [e])
  simp [putRow, mapBlock, Sort.ahead, Array.getElem?_modify, this]
theorem take_srt (cur : Array Value) (ps : List LV) (h : ps.length * 4 ≤ cur.size) : (putCells id 0 (flatK encL 4 ps.toArray) cur).toList.take (ps.length * 4) = ps.flatMap encL := by
  rw [← flatK_list encL encL_len ps]
  apply List.ext_getElem?
  intro j
  have hsz : (flatK encL 4 ps.toArray).size = ps.length * 4 := by rw [size_flatK]; simp
  by_cases hj : j < ps.length * 4
  · rw [List.getElem?_take_of_lt hj, Array.getElem?_toList, Array.getElem?_toList]
    simp [putCells, hsz, hj, show j < cur.size by omega]
  · rw [List.getElem?_take_eq_none (by omega), List.getElem?_eq_none (by rw [Array.length_toList, hsz]; omega)]
theorem same_mem {α : Type} {key : α → RowB} {s t : List α} (h : Same key s t) {x : α} (hx : x ∈ s) : x ∈ t := by
  have : x ∈ s.filter (fun y => decide (key y = key x)) := List.mem_filter.2 ⟨hx, by simp⟩
  rw [h (key x)] at this
  exact (List.mem_filter.1 this).1
theorem sorted_fst {ps : List LV} (h : Sorted keyV ps) : Sorted keyL (ps.map Prod.fst) := by
  unfold Sorted at h ⊢
  rw [List.pairwise_map]
  exact h
theorem same_fst {ps qs : List LV} (h : Same keyV ps qs) : ∀ m, (ps.map Prod.fst).filter (fun L => decide (keyL L = m)) = (qs.map Prod.fst).filter (fun L => decide (keyL L = m)) := fun m => by
  rw [List.filter_map, List.filter_map]
  have := h m
  unfold keyV at this
  show (ps.filter fun x => decide (keyL x.1 = m)).map Prod.fst = (qs.filter fun x => decide (keyL x.1 = m)).map Prod.fst
  rw [this]
theorem zip_self {α β : Type} : ∀ qs : List (α × β), (qs.map Prod.fst).zip (qs.map Prod.snd) = qs
  | [] => rfl
  | q :: qs => by rw [List.map_cons, List.map_cons, List.zip_cons_cons, zip_self qs]
/-- a row of the call's own lines, as the sort's row; what the sort makes of it -/
theorem LsOwn.sorts {w : World} {B : Nat} {v : Value} {Ls : List LD} (h : LsOwn B v Ls w) (hne : Ls ≠ []) (hnm : ∀ L ∈ Ls, L.name ≠ []) :
    ∃ (g cap : Nat) (ps : List LV), v = .slice (some ⟨g, 0, none⟩) Ls.length cap ∧ B ≤ g ∧ g < w.heap.size ∧ ps.length = Ls.length ∧ HoldsK encL 4 w g 0 ps.toArray ∧
      ∀ (W : World) (qs : List LV), SWK encL 4 w g 0 qs.toArray W → Sorted keyV qs → Same keyV qs ps → qs.length = Ls.length → LsOwn B v (srt Ls) W ∧ Left w B W := by
  obtain ⟨vs0, hl0, hrow0, hv0⟩ := h
  have hsl : vs0 = (vs0.map hdr).map toV := by
    rw [List.map_map]
    apply List.ext_getElem?
    intro t
    rw [List.getElem?_map]
    cases hu : vs0[t]? with
    | none => rfl
    | some u =>
      have ht := (List.getElem?_eq_some_iff.1 hu).1
      have hp := hv0 t (Ls[t]'(by omega)) u (List.getElem?_eq_getElem _) hu
      obtain ⟨ao, c, hc⟩ := hp.form
      show some u = some (toV (hdr u))
      rw [toV_hdr ⟨_, _, _, hc⟩]
  obtain ⟨vs, hvs⟩ : ∃ vs, vs0.map hdr = vs := ⟨_, rfl⟩
  rw [hvs] at hsl
  have hl : Ls.length = vs.length := by rw [← hvs, List.length_map]; exact hl0
  rw [hsl] at hrow0 hv0
  obtain ⟨h1, h2 | ⟨g, cap, cur, e1, e2, e3, e4, e5, e6, e7⟩⟩ := hrow0
  · exact absurd (List.eq_nil_of_length_eq_zero h2.2) hne
  · have hg := (Array.getElem?_eq_some_iff.1 e3).1
    have hrow : w.ownsRow B 41 4 v Ls.length (lcells Ls (vs.map toV)) := ⟨h1, .inr ⟨g, cap, cur, e1, e2, e3, e4, e5, e6, e7⟩⟩
    have hpl : (Ls.zip vs).length = Ls.length := by rw [List.length_zip, ← hl]; omega
    have hfst : (Ls.zip vs).map Prod.fst = Ls := by rw [List.map_fst_zip]; omega
    rw [lcells_zip Ls vs hl] at e7
    refine ⟨g, cap, Ls.zip vs, e1, e2, hg, hpl, holdsK_block e3 hpl e7, fun W qs hW hs hsm hql => ?_⟩
    obtain ⟨m, os, rfl⟩ := hW
    have hgr := grown_srt (w := w) (g := g) (m := m) (os := os) qs.toArray
    have hsrt : qs.map Prod.fst = srt Ls := srt_uniq Ls _ hnm (sorted_fst hs) (fun k => by rw [same_fst hsm k, hfst])
    have hlen : (srt Ls).length = Ls.length := by rw [← hsrt, List.length_map, hql]
    refine ⟨⟨(qs.map Prod.snd).map toV, by rw [hlen, List.length_map, List.length_map, hql], ⟨?_, ?_⟩, fun j L u hL hu => ?_⟩, fun B' A hb hb1 hb2 => hb.grown hgr hb2 (fun k hk => by cases hk; omega)⟩
    · rw [← hsrt, lcells_zip _ _ (by simp), flat_len encL encL_len]
      simp
    · refine .inr ⟨g, cap, _, by rw [e1, hlen], e2, heap_srt _ e3, by rw [hlen]; exact e4, e5, by simp [putCells, e6], ?_⟩
      rw [hlen, ← hql, take_srt cur qs (by rw [hql, e6]; exact Nat.mul_le_mul_right 4 e4), ← hsrt, lcells_zip _ _ (by simp)]
      rw [zip_self]
    · rw [← hsrt] at hL
      rw [List.map_map] at hu
      rw [List.getElem?_map] at hL hu
      obtain ⟨q, hq, rfl⟩ := Option.map_eq_some_iff.1 hL
      obtain ⟨q', hq', rfl⟩ := Option.map_eq_some_iff.1 hu
      rw [hq] at hq'
      obtain rfl := Option.some.inj hq'
      have hmem := same_mem hsm (List.mem_of_getElem? hq)
      obtain ⟨i, hi, hie⟩ := List.getElem_of_mem hmem
      have hi2 : i < Ls.length := by rw [hpl] at hi; exact hi
      have hL2 : Ls[i]? = some q.1 := by
        rw [← hie, List.getElem_zip, List.getElem?_eq_getElem hi2]
      have hv2 : (vs.map toV)[i]? = some (toV q.2) := by
        rw [List.getElem?_map, ← hie, List.getElem_zip, List.getElem?_eq_getElem (by omega)]; rfl
      have hp := hv0 i q.1 (toV q.2) hL2 hv2
      exact pBeside hp hrow (by rw [e1]; exact hgr)
end Go.Proofs.YthnnpnlapjlnoaaGreatDoor.Ca

/-
  WHAT THE ROWS LIST, in the reading: the tables of unicode/utf8, where utf8.ValidString stands in the dump. The bulk of what is read.
-/
set_option linter.unusedVariables false
namespace Go.Proofs.YthnnpnlapjlnoaaGreatDoor.La
open Go.Lib Go.RowKit Go.Shelf Go.ChangeShapes Go.WideShapes Go.ChangeAt

theorem own : ownKnob Tryz.prog.godebug = none := by kernel_rfl
theorem accept_eq : Rows.laid_unicode_utf8_acceptRanges = Lib.acceptData := by kernel_rfl
theorem first_eq : Rows.laid_unicode_utf8_first = Lib.firstData := Pinned.utf8First_eq
theorem tabs_of {W : World} (h1 : VarReads Tryz.prog W "unicode/utf8.first" Lib.firstData) (h2 : VarReads Tryz.prog W "unicode/utf8.acceptRanges" Lib.acceptData) : Ch.Tabs W :=
  utf8Tabs_of_readsT (U8Types.of196 Tryz.laysValid) ⟨by kernel_rfl, by kernel_rfl, by kernel_rfl, by kernel_rfl, by kernel_rfl, by kernel_rfl, by kernel_rfl⟩ h1 h2

/-! ### bulk -/
theorem bulk_le {H : Type} {d : DataW H} {l : List (DataW H)} (h : d ∈ l) : Rows.uptoBulk d ≤ Rows.uptoBulkAll l := by
  induction l with
  | nil => cases h
  | cons x r ih =>
    rw [Rows.uptoBulkAll]
    rcases List.mem_cons.1 h with rfl | h
    · omega
    · have := ih h; omega
theorem bulk_all {H : Type} {l : List (DataW H)} (hk : Rows.uptoSmall H l = true) : Rows.uptoBulkAll l ≤ 1048576 := of_decide_eq_true hk
theorem bulk_string {H : Type} (b : List UInt8) : Rows.uptoBulk (DataW.lit (H := H) (.string b)) = b.length + 1 := by rw [Rows.uptoBulk]
end Go.Proofs.YthnnpnlapjlnoaaGreatDoor.La

/-
  THE WALK OF line.writeParam.
-/
set_option linter.unusedVariables false
namespace Go.Proofs.YthnnpnlapjlnoaaGreatDoor.Li
open Go.Lib Go.RowKit Bu

def markAt (m : UInt8) (k : Nat) : UInt8 := if k = 0 then m else 44
theorem wvs_snoc : ∀ (vs : List Row) (m : UInt8) (v : Row), wvs m (vs ++ [v]) = wvs m vs ++ (markAt m vs.length :: wval v)
  | [], m, v => by simp [wvs, markAt]
  | u :: vs, m, v => by
    have := wvs_snoc vs 44 v
    rw [List.cons_append, wvs, this, wvs]
    simp [markAt]
theorem wvs_take (vs : List Row) (m : UInt8) (k : Nat) (v : Row) (h : vs[k]? = some v) : wvs m (vs.take (k + 1)) = wvs m (vs.take k) ++ (markAt m k :: wval v) := by
  obtain ⟨hl, hv⟩ := List.getElem?_eq_some_iff.1 h
  rw [List.take_succ_eq_append_getElem hl, hv, wvs_snoc, List.length_take, Nat.min_eq_left (by omega)]
theorem wvs_le : ∀ (a b : List Row) (m : UInt8), (wvs m a).length ≤ (wvs m (a ++ b)).length
  | [], b, m => by simp [wvs]
  | v :: a, b, m => by
    have := wvs_le a b 44
    rw [List.cons_append, wvs, wvs]
    simp only [List.length_cons, List.length_append]
    omega
theorem wvs_take_le (vs : List Row) (m : UInt8) (k : Nat) : (wvs m (vs.take k)).length ≤ (wvs m vs).length := by
  have := wvs_le (vs.take k) (vs.drop k) m
  rwa [List.take_append_drop] at this

set_option maxHeartbeats 8000000 in
set_option maxRecDepth 100000 in
theorem writeParam_any (w0 : World) (B b : Nat) (l : Row) (nm : ByteArray) (vv : Value) (vs : List Row) (w : World) (h : Bd B b l w) (hs0 : StrsAt w0 vv vs) (hw0 : Below w0.heap.size w0 w) (hB0 : w0.heap.size ≤ B)
    (hlen : l.length + (wprm ⟨nm.data.toList, vs⟩).length ≤ 140737488355328) (hBw : B ≤ w.heap.size) (hvs : ∀ v ∈ vs, v.length ≤ 9223372036854775807) :
    Calls Tryz.prog 68 #[.pointer (some ⟨b, 0, none⟩), .agg #[.string nm, vv]] w fun e w' => e = .returned (.tuple #[]) ∧ Bd B b (l ++ wprm ⟨nm.data.toList, vs⟩) w' ∧ Below B w w' ∧ KeptT w w' := by
  obtain ⟨A, g, o, c, rfl, h1, h2, h3, h4⟩ := hs0
  have hwp : wprm ⟨nm.data.toList, vs⟩ = 59 :: (nm.data.toList ++ wvs 61 vs) := rfl
  have hwl : (wprm ⟨nm.data.toList, vs⟩).length = 1 + nm.size + (wvs 61 vs).length := by rw [hwp, List.length_cons, List.length_append, ← Lib.size_eq]; omega
  obtain ⟨n, hn⟩ : ∃ n, vs.length = n := ⟨_, rfl⟩
  rw [hn] at h1 h3 ⊢
  have hal : Below w.heap.size w (w.alloc (.cells #[.string nm, .slice A n c] 47)) := (Below.refl _ _).alloc (Nat.le_refl _) _
  have hbox := heap_alloc_new w (.cells #[.string nm, .slice A n c] 47)
  have hbd0 := h.kept hal
  have hB1 : Below B w (w.alloc (.cells #[.string nm, .slice A n c] 47)) := hal.mono hBw
  have hk1 := KeptT.of_below hal
  have cB := byte_full B b l 59 (w.alloc (.cells #[.string nm, .slice A n c] 47)) hbd0 (by omega) (by simp; omega)
  have hl2 : (l ++ [59]).length + nm.size ≤ 140737488355328 := by rw [List.length_append, List.length_singleton]; omega
  have hbase : ∀ x, (l ++ [59] ++ nm.data.toList).length = l.length + 1 + nm.size + x - x := fun x => by rw [List.length_append, List.length_append, List.length_singleton, ← Lib.size_eq]; omega
  have hstep : ∀ (k : Nat) (v : Row), vs[k]? = some v → (l ++ [59] ++ nm.data.toList ++ wvs 61 (vs.take k)).length + 1 ≤ 140737488355328 ∧
      ((l ++ [59] ++ nm.data.toList ++ wvs 61 (vs.take k)) ++ [markAt 61 k]).length + (wval v).length ≤ 140737488355328 ∧
      ((l ++ [59] ++ nm.data.toList ++ wvs 61 (vs.take k)) ++ [markAt 61 k]) ++ wval v = l ++ [59] ++ nm.data.toList ++ wvs 61 (vs.take (k + 1)) := fun k v hv => by
    have e := wvs_take vs 61 k v hv
    have e2 := wvs_take_le vs 61 (k + 1)
    have e3 := hbase 0
    rw [e, List.length_append, List.length_cons] at e2
    refine ⟨by rw [List.length_append]; omega, by rw [List.length_append, List.length_append, List.length_singleton]; omega, by rw [e]; simp⟩
  have hfin : l ++ [59] ++ nm.data.toList ++ wvs 61 vs = l ++ wprm ⟨nm.data.toList, vs⟩ := by rw [hwp]; simp
  have hstep' := Lib.hid hstep
  have hfin' := Lib.hid hfin
  have hn' := Lib.hid hn
  have h3' := Lib.hid h3
  have h4' := Lib.hid h4
  have hvs' := Lib.hid hvs
  have hbox' := Lib.hid hbox
  unfold maxLen at h2
  clear hwp hwl hn h3 h4 hstep hfin hbase hvs hbox h hbd0 hlen
  go_enter Tryz.func68, Tryz.ntmps68
  go_wp2_with fail
  go_at_call 67
  refine cB.mono ?_
  rintro e w1 ⟨rfl, hbd1, hb1, ht1⟩
  have hx1 := ht1 _ _ _ _ hbox'.out (by decide) (by decide)
  have hB2 := hB1.trans hb1
  have hT2 := hk1.trans ht1
  have p0 : w1.cell? ⟨w.heap.size, 0, none⟩ = some (.string nm) := by rw [Lib.cell_of_heap hx1]; rfl
  have hx1' := Lib.hid hx1
  have hBw1 : B ≤ w1.heap.size := Nat.le_trans hBw hB2.size
  have cW := write_full B b _ nm w1 hbd1 hl2 hBw1
  clear cB hb1 ht1 hx1 hB1 hk1 hal hbd1
  go_wp2_with fail
  go_at_call 66
  refine cW.mono ?_
  rintro e w2 ⟨rfl, hbd2, hb2, ht2⟩
  have hx2 := ht2 _ _ _ _ hx1'.out (by decide) (by decide)
  have hB3 := hB2.trans hb2
  have hT3 := hT2.trans ht2
  have p1 : w2.cell? ⟨w.heap.size, 1, none⟩ = some (.slice A n c) := by rw [Lib.cell_of_heap hx2]; rfl
  have hBw2 : B ≤ w2.heap.size := Nat.le_trans hBw hB3.size
  have hT3' := Lib.hid hT3
  clear cW hb2 ht2 hx2 hB2 hT2 p0 hT3
  go_wp2
  go_loopw [4, 16] (fun s4 s16 wr => ∃ k : Nat, s16 = .int .i64 (k : Int) ∧ s4 = .int .u8 ((markAt 61 k).toNat : Int) ∧ k ≤ n ∧ Bd B b (l ++ [59] ++ nm.data.toList ++ wvs 61 (vs.take k)) wr ∧ Below B w wr ∧ KeptT w wr) (fun s4 s16 wr => n - (RowKit.intOf s16).toNat)
  case atStart => exact ⟨0, rfl, rfl, Nat.zero_le _, by simpa [wvs] using hbd2, hB3, hT3'.out⟩
  case round =>
    obtain ⟨k, rfl, rfl, hk, hbd, hbw, hkt⟩ := hrel
    have hBr : B ≤ wr.heap.size := Nat.le_trans hBw hbw.size
    have hkt' := Lib.hid hkt
    clear hkt
    obtain ⟨m, hm⟩ : ∃ m, markAt 61 k = m := ⟨_, rfl⟩
    have hstepk := hstep'.out k
    rw [hm] at hstepk ⊢
    have hm' := Lib.hid hm
    clear hm
    by_cases hlt : k < n
    · have hv : vs[k]? = some (vs[k]'(by have := hn'.out; omega)) := List.getElem?_eq_getElem _
      obtain ⟨V, hV⟩ : ∃ V, vs[k]'(by have := hn'.out; omega) = V := ⟨_, rfl⟩
      rw [hV] at hv
      have hVm : V.length ≤ 9223372036854775807 := hvs'.out V (by rw [← hV]; exact List.getElem_mem _)
      obtain ⟨rfl, hg⟩ := h3'.out (by omega)
      have hc := h4'.out k V hv
      have hwr0 : Below w0.heap.size w0 wr := hw0.trans (hbw.mono hB0)
      rw [← hwr0.cell (p := ⟨g, o + k, none⟩) hg] at hc
      obtain ⟨x, hx⟩ : ∃ x : ByteArray, (⟨V.toArray⟩ : ByteArray) = x := ⟨_, rfl⟩
      have hxd : x.data.toList = V := by rw [← hx]
      unfold sv at hc
      rw [hx] at hc
      obtain ⟨s1, s2, s3⟩ := hstepk V hv
      have cB := byte_full B b _ m wr hbd s1 hBr
      have hwval : ∀ W, Bd B b ((l ++ [59] ++ nm.data.toList ++ wvs 61 (vs.take k)) ++ [m]) W → B ≤ W.heap.size → Calls Tryz.prog 99 #[.pointer (some ⟨b, 0, none⟩), .string x] W fun e w' => e = .returned (.tuple #[]) ∧ Bd B b (l ++ [59] ++ nm.data.toList ++ wvs 61 (vs.take (k + 1))) w' ∧ Below B W w' ∧ KeptT W w' := fun W hW hBW => by
        have := writeValue_any B b _ x W hW (by rw [hxd]; exact s2) hBW (by rw [Lib.size_eq, hxd]; exact hVm)
        rw [hxd, s3] at this
        exact this
      have hwval' := Lib.hid hwval
      clear hv hV hVm hg hwr0 hx hxd s1 s2 s3 hwval hstepk
      go_wp2_with fail
      go_at_call 67
      refine cB.mono ?_
      rintro e w3 ⟨rfl, hbd3, hb3, ht3⟩
      have hB4 := hbw.trans hb3
      have hT4 := Lib.hid (hkt'.out.trans ht3)
      have cV := hwval'.out w3 hbd3 (Nat.le_trans hBw hB4.size)
      clear cB hb3 ht3 hbd3
      go_wp2_with fail
      go_at_call 99
      refine cV.mono ?_
      rintro e w4 ⟨rfl, hbd4, hb4, ht4⟩
      clear cV
      go_wp2
      go_roundw
      case rel => exact ⟨k + 1, by go_num, rfl, by omega, hbd4, hB4.trans hb4, hT4.out.trans ht4⟩
      case measure => simp [RowKit.intOf]; omega
    · rw [List.take_of_length_le (by have := hn'.out; omega), hfin'.out] at hbd
      clear hstepk
      go_wp2
      go_end0
      exact ⟨rfl, hbd, hbw, hkt'.out⟩
end Go.Proofs.YthnnpnlapjlnoaaGreatDoor.Li

/-
  A PARAMETER OF TYPE api.Line: what its reading gives.
-/
set_option linter.unusedVariables false
namespace Go.Proofs.YthnnpnlapjlnoaaGreatDoor.La
open Go.Lib Go.RowKit Go.Shelf Go.ChangeShapes Go.WideShapes Go.ChangeAt Go.Deep Li

def bulkV (vs : List Row) : Nat := (vs.map fun v => v.length + 1).sum
def bulkP (p : PD) : Nat := p.name.length + 1 + bulkV p.vals
def bulkPs (ps : List PD) : Nat := (ps.map bulkP).sum
def bulkL (L : LD) : Nat := L.group.length + L.name.length + L.value.length + bulkPs L.params

theorem listed {α : Type} (P : Nat → α → Prop) : ∀ n, (∀ i, i < n → ∃ x, P i x) → ∃ xs : List α, xs.length = n ∧ ∀ (i : Nat) (x : α), xs[i]? = some x → P i x
  | 0, _ => ⟨[], rfl, fun i x h => by simp at h⟩
  | n + 1, h => by
    obtain ⟨xs, hl, hx⟩ := listed P n (fun i hi => h i (by omega))
    obtain ⟨x, hxn⟩ := h n (by omega)
    refine ⟨xs ++ [x], by simp [hl], fun i y hy => ?_⟩
    by_cases hi : i < n
    · rw [List.getElem?_append_left (by omega)] at hy
      exact hx i y hy
    · rw [List.getElem?_append_right (by omega)] at hy
      have h0 : i - xs.length = 0 := by have := (List.getElem?_eq_some_iff.1 hy).1; simp at this; omega
      rw [h0] at hy
      simp at hy
      subst hy
      rw [show i = n by omega]
      exact hxn
variable {H : Type} {enc : TypeId × Value → H}
theorem bulk_sum {α : Type} (f : α → Nat) : ∀ (xs : List α) (D : Nat → DataW H), (∀ (i : Nat) (x : α), xs[i]? = some x → f x ≤ Rows.uptoBulk (D i)) → (xs.map f).sum ≤ Rows.uptoBulkAll ((List.range xs.length).map D)
  | [], D, _ => by simp
  | x :: xs, D, h => by
    have h0 := h 0 x rfl
    have ih := bulk_sum f xs (fun i => D (i + 1)) (fun i y hy => h (i + 1) y (by simpa using hy))
    rw [List.length_cons, List.range_succ_eq_map, List.map_cons, List.map_cons, List.map_map, List.sum_cons, Rows.uptoBulkAll]
    have e : (D ∘ Nat.succ) = fun i => D (i + 1) := rfl
    rw [e]
    omega
theorem spot_none {W : World} {a : Addr} {v : Value} (h : W.cell? a = some v) : a.spot = none := by
  cases hs : a.spot with
  | none => rfl
  | some x =>
    exfalso
    unfold World.cell? at h
    rw [hs] at h
    split at h <;> simp at h
theorem add_spot (a : Addr) (h : (a.add 0).spot = none) : a = ⟨a.block, a.off, none⟩ := by
  obtain ⟨b, off, spot⟩ := a
  unfold Addr.add at h
  split at h <;> simp_all
theorem add_is (b off i : Nat) : (⟨b, off, none⟩ : Addr).add i = ⟨b, off + i, none⟩ := by
  unfold Addr.add
  split
  · rename_i h; subst h; rfl
  · rfl

set_option maxRecDepth 100000 in
theorem strs_open {W : World} {fuel : Nat} {v : Value} {x : DataW H × List MemPlace} (h : DataW.trod enc Tryz.prog W 0 (fun _ => true) true fuel 45 [v] = some x) : ∃ ls, StrsAt W v ls ∧ bulkV ls ≤ Rows.uptoBulk x.1 := by
  have hce : Tryz.prog.cellsOf 9 = 1 := by kernel_rfl
  rcases open_slice1 Tryz.underlying45 hce h with ⟨hcs, hx⟩ | ⟨a, len, cap, m, n, V, D, Pl, hcs, _, hl, hm, hmm, hx, hi⟩
  · simp at hcs
    subst hcs
    exact ⟨[], ⟨none, 0, 0, 0, rfl, by simp, by unfold maxLen; omega, fun h => absurd h (by simp), fun j l hj => by simp at hj⟩, Nat.zero_le _⟩
  · simp at hcs
    subst hcs
    simp only [if_true] at hmm
    obtain ⟨ls, hls, hp⟩ := listed (fun i (l : Row) => W.cell? (a.add i) = some (sv l) ∧ l.length + 1 ≤ Rows.uptoBulk (D i)) len (fun i hil => by
      obtain ⟨h1, h2⟩ := hi i (by omega)
      obtain ⟨s, hs, hsx, _⟩ := DataW.trod_string Tryz.underlying9 h2
      simp only [Prod.mk.injEq] at hsx
      simp at hs
      refine ⟨s.data.toList, by rw [h1, hs, sv_data], ?_⟩
      rw [hsx.1, bulk_string]
      exact Nat.le_refl _)
    have key : 0 < ls.length → a = ⟨a.block, a.off, none⟩ ∧ a.block < W.heap.size := fun h0 => by
      have h1 : ls[0]? = some (ls[0]'h0) := List.getElem?_eq_getElem _
      have h2 := (hp 0 _ h1).1
      have h3 := add_spot a (spot_none h2)
      have h4 := World.block_lt_of_cell? W (a.add 0) h2
      rw [h3, add_is] at h4
      exact ⟨h3, h4⟩
    refine ⟨ls, ⟨some a, a.block, a.off, cap, by rw [hls], by omega, hm, fun h0 => ?_, fun j l hj => ?_⟩, ?_⟩
    · obtain ⟨h3, h4⟩ := key h0
      exact ⟨by rw [← h3], h4⟩
    · have h2 := (hp j l hj).1
      obtain ⟨h3, _⟩ := key (by have := (List.getElem?_eq_some_iff.1 hj).1; omega)
      rw [h3, add_is] at h2
      exact h2
    · rw [hx, Rows.uptoBulk]
      have := bulk_sum (fun l : Row => l.length + 1) ls D (fun i l hil => (hp i l hil).2)
      rw [hls] at this
      unfold bulkV
      omega
set_option maxRecDepth 100000 in
theorem prms_open {W : World} {fuel : Nat} {v : Value} {x : DataW H × List MemPlace} (h : DataW.trod enc Tryz.prog W 0 (fun _ => true) true fuel 39 [v] = some x) : ∃ ps, PrmsAt W v ps ∧ bulkPs ps ≤ Rows.uptoBulk x.1 := by
  have hce : Tryz.prog.cellsOf 47 = 2 := by kernel_rfl
  have h1s : Tryz.prog.cellsOf 9 = 1 := by kernel_rfl
  have h1v : Tryz.prog.cellsOf 45 = 1 := by kernel_rfl
  rcases open_slice Tryz.underlying39 h with ⟨hcs, hx⟩ | ⟨a, len, cap, m, n, D, Pl, hcs, _, hl, hm, hmm, hx, hi⟩
  · simp at hcs
    subst hcs
    exact ⟨[], ⟨none, 0, 0, 0, rfl, by simp, by unfold maxLen; omega, fun h => absurd h (by simp), fun j l hj => by simp at hj⟩, Nat.zero_le _⟩
  · simp at hcs
    subst hcs
    simp only [if_true] at hmm
    rw [hce] at hi
    obtain ⟨ps, hps, hp⟩ := listed (fun i (p : PD) => W.cell? (a.add (i * 2)) = some (sv p.name) ∧ (∃ u, W.cell? ((a.add (i * 2)).add 1) = some u ∧ StrsAt W u p.vals) ∧ bulkP p ≤ Rows.uptoBulk (D i)) len (fun i hil => by
      obtain ⟨cs', hc, ht⟩ := hi i (by omega)
      obtain ⟨_, hcl, hat⟩ := World.cells?_some hc
      obtain ⟨y0, y1, n', hy, _, ht0, ht1⟩ := trod_struct2 Tryz.underlying47 ht
      match cs', hcl with
      | [c0, c1], _ =>
        have e0 := hat 0 (by omega)
        have e1 := hat 1 (by omega)
        simp only [h1s, h1v, List.drop_zero, List.take_succ_cons, List.take_zero, List.drop_succ_cons] at ht0 ht1
        obtain ⟨s, hs, hsx, _⟩ := DataW.trod_string Tryz.underlying9 ht0
        obtain ⟨ls, hls, hb⟩ := strs_open ht1
        simp at hs
        subst hs
        simp only [Prod.mk.injEq] at hy
        refine ⟨⟨s.data.toList, ls⟩, ?_, ⟨c1, by simpa using e1, hls⟩, ?_⟩
        · rw [sv_data]
          have : (a.add (i * 2)).add 0 = a.add (i * 2) := by unfold Addr.add; simp
          rw [this] at e0
          simpa using e0
        · rw [hy.1, Rows.uptoBulk, Rows.uptoBulkAll, Rows.uptoBulkAll, Rows.uptoBulkAll, hsx]
          dsimp only
          rw [bulk_string]
          unfold bulkP
          dsimp only
          omega)
    have key : 0 < ps.length → a = ⟨a.block, a.off, none⟩ ∧ a.block < W.heap.size := fun h0 => by
      have h1 : ps[0]? = some (ps[0]'h0) := List.getElem?_eq_getElem _
      have h2 := (hp 0 _ h1).1
      rw [Nat.zero_mul] at h2
      have h3 := add_spot a (spot_none h2)
      have h4 := World.block_lt_of_cell? W (a.add 0) h2
      rw [h3, add_is] at h4
      exact ⟨h3, h4⟩
    refine ⟨ps, ⟨some a, a.block, a.off, cap, by rw [hps], by omega, hm, fun h0 => ?_, fun j p hj => ?_⟩, ?_⟩
    · obtain ⟨h3, h4⟩ := key h0
      exact ⟨by rw [← h3], h4⟩
    · obtain ⟨h2, ⟨u, h5, h6⟩, _⟩ := hp j p hj
      obtain ⟨h3, _⟩ := key (by have := (List.getElem?_eq_some_iff.1 hj).1; omega)
      rw [h3, add_is] at h2
      rw [h3, add_is, add_is] at h5
      exact ⟨h2, u, h5, h6⟩
    · rw [hx, Rows.uptoBulk]
      have := bulk_sum bulkP ps D (fun i p hip => (hp i p hip).2.2)
      rw [hps] at this
      unfold bulkPs
      omega
set_option maxRecDepth 100000 in
theorem line_open {base : Nat} {W : World} {v : Value} {d : DataW H} {ps : List MemPlace} (hval : Value.okWide Tryz.prog W .any base 41 v) (h : DataW.Trod enc Tryz.prog W 0 (fun _ => true) true 41 v d ps) :
    ∃ L, LineAt W v L ∧ bulkL L ≤ Rows.uptoBulk d := by
  obtain ⟨v0, v1, v2, v3, y0, y1, y2, y3, n, rfl, rfl, rfl, h0, h1, h2, h3⟩ := Go.Joins.open_agg4 Tryz.underlying41 (by kernel_rfl) (by kernel_rfl) hval h
  obtain ⟨s0, e0, x0, _⟩ := DataW.trod_string Tryz.underlying9 h0
  obtain ⟨s1, e1, x1, _⟩ := DataW.trod_string Tryz.underlying9 h1
  obtain ⟨s3, e3, x3, _⟩ := DataW.trod_string Tryz.underlying9 h3
  obtain ⟨ps, hp, hb⟩ := prms_open h2
  simp at e0 e1 e3
  subst e0; subst e1; subst e3
  refine ⟨⟨s0.data.toList, s1.data.toList, ps, s3.data.toList⟩, ⟨v2, by simp only [sv_data], hp⟩, ?_⟩
  rw [Rows.uptoBulk, Rows.uptoBulkAll, Rows.uptoBulkAll, Rows.uptoBulkAll, Rows.uptoBulkAll, Rows.uptoBulkAll, x0, x1, x3]
  dsimp only
  rw [bulk_string, bulk_string, bulk_string]
  unfold bulkL
  dsimp only
  omega

/-! ### bounds that the bulk gives -/
theorem bulkV_mem {vs : List Row} {v : Row} (h : v ∈ vs) : v.length + 1 ≤ bulkV vs := by
  induction vs with
  | nil => cases h
  | cons u vs ih =>
    unfold bulkV
    rw [List.map_cons, List.sum_cons]
    rcases List.mem_cons.1 h with rfl | h
    · omega
    · have := ih h; unfold bulkV at this; omega
theorem bulkV_len (vs : List Row) : vs.length ≤ bulkV vs := by
  induction vs with
  | nil => simp [bulkV]
  | cons u vs ih => unfold bulkV at ih ⊢; rw [List.map_cons, List.sum_cons, List.length_cons]; omega
theorem bulkPs_mem {ps : List PD} {p : PD} (h : p ∈ ps) : bulkP p ≤ bulkPs ps := by
  induction ps with
  | nil => cases h
  | cons u ps ih =>
    unfold bulkPs
    rw [List.map_cons, List.sum_cons]
    rcases List.mem_cons.1 h with rfl | h
    · omega
    · have := ih h; unfold bulkPs at this; omega
theorem bulkPs_len (ps : List PD) : ps.length ≤ bulkPs ps := by
  induction ps with
  | nil => simp [bulkPs]
  | cons u ps ih => have : 1 ≤ bulkP u := by unfold bulkP; omega
                    unfold bulkPs at ih ⊢; rw [List.map_cons, List.sum_cons, List.length_cons]; omega
theorem wvs_bulk : ∀ (vs : List Row) (m : UInt8), (wvs m vs).length ≤ 3 * bulkV vs
  | [], m => by simp [wvs]
  | v :: vs, m => by
    have := wvs_bulk vs 44
    have := wval_len v
    unfold bulkV at *
    rw [List.map_cons, List.sum_cons, wvs, List.length_cons, List.length_append]
    omega
theorem wprms_bulk : ∀ (ps : List PD), (wprms ps).length ≤ 3 * bulkPs ps
  | [] => by simp [wprms]
  | p :: ps => by
    have := wprms_bulk ps
    have := wvs_bulk p.vals 61
    have e : (wprm p).length = 1 + (p.name.length + (wvs 61 p.vals).length) := by unfold wprm; rw [List.length_cons, List.length_append]; omega
    unfold bulkPs at *
    rw [List.map_cons, List.sum_cons, wprms_cons, List.length_append, e]
    unfold bulkP at *
    omega
theorem pr_bulk (L : LD) : (pr L).length ≤ 3 * bulkL L + 2 := by
  have := wprms_bulk L.params
  unfold pr bulkL
  split
  · rw [List.length_append, List.length_append, List.length_cons]; omega
  · rw [List.length_append, List.length_append, List.length_append, List.length_cons, List.length_cons]; omega
end Go.Proofs.YthnnpnlapjlnoaaGreatDoor.La
