/-
  THE WALK OF line.Canon.
-/
import Derived.Test.YthkcjfoihieooaaDoorLineCopy
import Derived.Test.YthkcjfoihieooaaDoorLineScanMem
import Derived.Test.YthkcjfoihieooaaDoorLineSame
import Derived.Deep.RegionHeld3
import Derived.Deep.CutRange
import Derived.Deep.AppendLies
set_option linter.unusedVariables false
namespace Go.Proofs.YthkcjfoihieooaaDoor.Li
open Go.Lib Go.RowKit Bu

def canP (p : PD) : PD := ⟨Ch.up p.name, p.vals⟩
/-- a line with its names in great letters -/
def canL (L : LD) : LD := ⟨Ch.up L.group, Ch.up L.name, L.params.map canP, L.value⟩
theorem Below.cells {w w' : World} (h : Below w.heap.size w w') : ∀ b o, b < w.heap.size → w'.cell? ⟨b, o, none⟩ = w.cell? ⟨b, o, none⟩ := fun b o hb => h.cell (p := ⟨b, o, none⟩) hb
theorem Below.frozens {w w' : World} (h : Below w.heap.size w w') : ∀ b o, b < w.heap.size → w'.frozen? ⟨b, o, none⟩ = w.frozen? ⟨b, o, none⟩ := fun b o hb => h.frozen (p := ⟨b, o, none⟩) hb

theorem keep_call {B b : Nat} {a W w' : World} (h : Below b W w') (k : Below B a W) (hb : B ≤ b) : Below B a w' := k.trans (h.mono hb)
theorem alloc_kept {W w' : World} {o : Obj} (h : Below (W.alloc o).heap.size (W.alloc o) w') : w'.heap[W.heap.size]? = some o := (h.block _ (by simp)).trans (heap_alloc_new W o)
theorem alloc_kept_drew {W w' : World} {o : Obj} (h : Below (W.alloc o).drew.heap.size (W.alloc o).drew w') : w'.heap[W.heap.size]? = some o := (h.block _ (by show W.heap.size < (W.alloc o).heap.size; simp)).trans (heap_alloc_new W o)
theorem blk_below {w w' : World} {i : Nat} {o : Obj} (hb : Below w.heap.size w w') (h : w.heap[i]? = some o) : w'.heap[i]? = some o := (hb.block i (Array.getElem?_eq_some_iff.1 h).1).trans h
theorem set4_blk {W : World} {g : Nat} {y0 y1 y2 y3 : Value} {t : TypeId} (hk : W.heap[g]? = some (.cells #[y0, y1, y2, y3] t (0, 0))) (x0 x1 x2 x3 : Value) :
    ((((W.setCell ⟨g, 0, none⟩ x0).setCell ⟨g, 1, none⟩ x1).setCell ⟨g, 2, none⟩ x2).setCell ⟨g, 3, none⟩ x3).heap[g]? = some (.cells #[x0, x1, x2, x3] t (0, 0)) := by
  simp [World.setCell, Array.getElem?_modify, hk]
theorem below_drew_then {w w' : World} (h : Below w.drew.heap.size w.drew w') : Below w.heap.size w w' := (Below.drew (Below.refl _ _)).trans h
theorem set4_2 {W : World} {g : Nat} {y0 y1 y2 y3 : Value} {t : TypeId} (hk : W.heap[g]? = some (.cells #[y0, y1, y2, y3] t (0, 0))) (x2 : Value) :
    (W.setCell ⟨g, 2, none⟩ x2).heap[g]? = some (.cells #[y0, y1, x2, y3] t (0, 0)) := by
  simp [World.setCell, Array.getElem?_modify, hk]
theorem keep_again {B : Nat} {a W : World} {o : Obj} (k : Below B a (W.alloc o)) (hB : B ≤ W.heap.size) (ha : a.heap.size ≤ W.heap.size) (o' : Obj) : Below B a (W.alloc o') :=
  ⟨k.os, k.tape, k.output, by simp; omega, fun i hi => by rw [Below.heap_alloc W o' i (by omega), ← Below.heap_alloc W o i (by omega)]; exact k.block i hi⟩
theorem keep_set4 {B : Nat} {a W : World} {g : Nat} (k : Below B a W) (hg : B ≤ g) (x0 x1 x2 x3 : Value) : Below B a ((((W.setCell ⟨g, 0, none⟩ x0).setCell ⟨g, 1, none⟩ x1).setCell ⟨g, 2, none⟩ x2).setCell ⟨g, 3, none⟩ x3) :=
  (((k.setCell (p := ⟨g, 0, none⟩) hg _).setCell (p := ⟨g, 1, none⟩) hg _).setCell (p := ⟨g, 2, none⟩) hg _).setCell (p := ⟨g, 3, none⟩) hg _
theorem keep_alloc {B : Nat} {a W : World} (k : Below B a W) (ha : B ≤ a.heap.size) (o : Obj) : Below B a (W.alloc o) := k.alloc (Nat.le_trans ha k.size) o
set_option maxHeartbeats 16000000 in
set_option maxRecDepth 100000 in
theorem canon_any (v : Value) (L : LD) (w : World) (hv : LineAt w v L) (hg : L.group.length ≤ 4611686018427387904) (hm : L.name.length ≤ 4611686018427387904) (hnm : ∀ p ∈ L.params, p.name.length ≤ 4611686018427387904) (hn0 : L.params.length ≤ 1099511627776) (hvs : ∀ p ∈ L.params, p.vals.length ≤ 8796093022208) :
    Calls Tryd.prog 18 #[v] w fun e w' => (∃ u, e = .returned u ∧ LOwn w.heap.size u (canL L) w') ∧ Below w.heap.size w w' := by
  obtain ⟨j0, hj, hjz0, hjz1, hjz2⟩ := info_parts infoPrm
  obtain ⟨pv, rfl, A, b, o, c, rfl, h1, h2, h3, h4⟩ := hv
  obtain ⟨n, hn⟩ : ∃ n, L.params.length = n := ⟨_, rfl⟩
  rw [hn] at h1 h3 hn0 ⊢
  obtain ⟨a1, ea1, ha1⟩ := sv_some L.group
  obtain ⟨a2, ea2, ha2⟩ := sv_some L.name
  obtain ⟨a4, ea4, ha4⟩ := sv_some L.value
  rw [ea1, ea2, ea4]
  have hs1 : a1.size ≤ 4611686018427387904 := by rw [Lib.size_eq, ha1]; exact hg
  have hs2 : a2.size ≤ 4611686018427387904 := by rw [Lib.size_eq, ha2]; exact hm
  obtain ⟨g1, hg1⟩ : ∃ g1 : ByteArray, (⟨(Ch.up a1.data.toList).toArray⟩ : ByteArray) = g1 := ⟨_, rfl⟩
  obtain ⟨g2, hg2⟩ : ∃ g2 : ByteArray, (⟨(Ch.up a2.data.toList).toArray⟩ : ByteArray) = g2 := ⟨_, rfl⟩
  have cU1 := fun W => Ch.upper_any a1 W (by omega)
  have cU2 := fun W => Ch.upper_any a2 W (by omega)
  rw [hg1] at cU1
  rw [hg2] at cU2
  have hd1 : g1.data.toList = Ch.up L.group := by rw [← hg1, ha1]
  have hd2 : g2.data.toList = Ch.up L.name := by rw [← hg2, ha2]
  have hd1' := Lib.hid hd1
  have hd2' := Lib.hid hd2
  have hn' := Lib.hid hn
  have h3' := Lib.hid h3
  have h4' := Lib.hid h4
  have hvs' := Lib.hid hvs
  have hnm' := Lib.hid hnm
  have ha4' := Lib.hid ha4
  unfold maxLen at h2
  clear ea1 ea2 ea4 ha1 ha2 ha4 hn h3 h4 hvs hnm hg1 hg2 hd1 hd2 hg hm
  go_enter Tryd.func18, Tryd.ntmps18
  go_upto_region 1 with fail
  obtain ⟨wB, hwB⟩ : ∃ wB, (w.alloc (.cells #[.string a1, .string a2, .slice A n c, .string a4] 25)).alloc (.cells #[.string ⟨#[]⟩, .string ⟨#[]⟩, .slice none 0 0, .string ⟨#[]⟩] 25) = wB := ⟨_, rfl⟩
  have hbB : Below w.heap.size w wB := by rw [← hwB]; exact ((Below.refl _ _).alloc (Nat.le_refl _) _).alloc (by simp) _
  have hxB : wB.heap[w.heap.size]? = some (.cells #[.string a1, .string a2, .slice A n c, .string a4] 25 (0, 0)) := by rw [← hwB]; exact blk_alloc (heap_alloc_new w _) _
  have hyB : wB.heap[w.heap.size + 1]? = some (.cells #[.string ⟨#[]⟩, .string ⟨#[]⟩, .slice none 0 0, .string ⟨#[]⟩] 25 (0, 0)) := by
    rw [← hwB]
    have := heap_alloc_new (w.alloc (.cells #[.string a1, .string a2, .slice A n c, .string a4] 25)) (.cells #[.string ⟨#[]⟩, .string ⟨#[]⟩, .slice none 0 0, .string ⟨#[]⟩] 25)
    simpa using this
  have hzB : wB.heap.size = w.heap.size + 2 := by rw [← hwB]; simp
  rw [hwB]
  obtain ⟨Z, hZ⟩ : ∃ Z, w.heap.size = Z := ⟨_, rfl⟩
  rw [hZ] at hxB hyB hzB hbB ⊢
  clear hwB
  go_cut [3] from 7 to 15 (fun s3 wx => ∃ g : Nat, s3 = .pointer (some ⟨g, 0, none⟩) ∧ Z + 2 ≤ g ∧ Below (Z + 2) wB wx ∧ wx.heap[g]? = some (.cells #[.string g1, .string g2, .slice none 0 0, .string a4] 25 (0, 0)))
  case first =>
    obtain ⟨p0, p1, p2, p3, q0, q1, q2, q3⟩ := res4 hxB
    have hS : ∀ W, Below (Z + 2) wB W → Below (Z + 2) wB W ∧ W.cell? ⟨Z, 0, none⟩ = some (.string a1) ∧ W.cell? ⟨Z, 1, none⟩ = some (.string a2) ∧ W.cell? ⟨Z, 3, none⟩ = some (.string a4) := fun W h =>
      ⟨h, (h.cell (p := ⟨Z, 0, none⟩) (by show Z < Z + 2; omega)).trans p0, (h.cell (p := ⟨Z, 1, none⟩) (by show Z < Z + 2; omega)).trans p1, (h.cell (p := ⟨Z, 3, none⟩) (by show Z < Z + 2; omega)).trans p3⟩
    have hle : Z + 2 ≤ wB.heap.size := by omega
    have hle2 : wB.heap.size ≤ Z + 2 := by omega
    have hxB' := Lib.hid hxB
    have hyB' := Lib.hid hyB
    clear hxB hyB hzB
    go_region_held3 (fun w' => Below (Z + 2) wB w' ∧ w'.cell? ⟨Z, 0, none⟩ = some (.string a1) ∧ w'.cell? ⟨Z, 1, none⟩ = some (.string a2) ∧ w'.cell? ⟨Z, 3, none⟩ = some (.string a4))
      (refine hS _ ?_ <;> first | assumption | exact Below.drew (Below.refl _ _) | exact keep_call (by assumption) (And.left (by assumption)) (by first | exact hle | assumption | omega | (simp; omega)) | exact keep_call (by assumption) (Below.drew (Below.refl _ _)) (by first | exact hle | assumption | omega | (simp; omega)) | exact keep_alloc (And.left (by assumption)) (by assumption) _ | exact keep_alloc (Below.drew (Below.refl _ _)) (by assumption) _ | exact keep_again (And.left (by assumption)) (by assumption) (by omega) _ | exact keep_set4 (And.left (by assumption)) (by omega) _ _ _ _ | exact keep_call (by assumption) (keep_alloc (And.left (by assumption)) (by assumption) _) (by simp; omega) | exact keep_call (by assumption) (keep_alloc (Below.drew (Below.refl _ _)) (by assumption) _) (by simp; omega))
      (first | (go_at_call 40; ((first | (with_reducible refine (cU1 _).mono ?_) | (with_reducible refine (cU2 _).mono ?_)); rintro e wx ⟨rfl, hbx⟩; have hsx : Z + 2 ≤ wx.heap.size := Nat.le_trans (by first | exact hle | assumption | omega | (simp; omega)) hbx.size; have hsy : wB.heap.size ≤ wx.heap.size := (by omega); (first | (have hk := alloc_kept_drew hbx; obtain ⟨k0, k1, k2, k3, k4, k5, k6, k7⟩ := res4 hk) | (have hk : wx.heap[wB.heap.size]? = some (.cells #[.string ⟨#[]⟩, .string ⟨#[]⟩, .slice none 0 0, .string ⟨#[]⟩] 25 (0, 0)) := alloc_kept hbx; obtain ⟨k0, k1, k2, k3, k4, k5, k6, k7⟩ := res4 hk) | (have hk := alloc_kept hbx; obtain ⟨k0, k1, k2, k3, k4, k5, k6, k7⟩ := res4 hk) | (have hk := blk_below hbx (by assumption); obtain ⟨k0, k1, k2, k3, k4, k5, k6, k7⟩ := res4 hk) | skip))))
    all_goals
      go_wp2_with fail
      go_meet
    case rel => exact ⟨_, rfl, by omega, And.left (by assumption), heap_alloc_new _ _⟩
    case rel => exact ⟨_, rfl, by omega, And.left (by assumption), set4_blk (by assumption) _ _ _ _⟩
    case rel => exact ⟨_, rfl, by omega, And.left (by assumption), set4_blk (by assumption) _ _ _ _⟩
  case rest =>
    obtain ⟨g, rfl, hg, hbc, hkg⟩ := hcut
    have hxc : wc.heap[Z]? = some (.cells #[.string a1, .string a2, .slice A n c, .string a4] 25 (0, 0)) := (hbc.block Z (by omega)).trans hxB
    have hyc : wc.heap[Z + 1]? = some (.cells #[.string ⟨#[]⟩, .string ⟨#[]⟩, .slice none 0 0, .string ⟨#[]⟩] 25 (0, 0)) := (hbc.block (Z + 1) (by omega)).trans hyB
    have hbZ : Below Z w wc := hbB.trans (hbc.mono (by omega))
    obtain ⟨p0, p1, p2, p3, q0, q1, q2, q3⟩ := res4 hxc
    have hgc : g < wc.heap.size := (Array.getElem?_eq_some_iff.1 hkg).1
    obtain ⟨B, hB⟩ : ∃ B, wc.heap.size = B := ⟨_, rfl⟩
    rw [hB] at hgc
    have hBc : B ≤ wc.heap.size := by omega
    have hkg' := Lib.hid hkg
    have hyc' := Lib.hid hyc
    clear hxB hyB hzB hbB hbc hB hxc hkg hyc cU1 cU2
    go_wp2_with fail
    go_loopw [19] (fun s19 wr => ∃ (k : Nat) (pv : Value), s19 = .int .i64 (k : Int) ∧ k ≤ n ∧ Below Z w wr ∧ B ≤ wr.heap.size ∧ Hid (wr.heap[Z + 1]? = some (.cells #[.string ⟨#[]⟩, .string ⟨#[]⟩, .slice none 0 0, .string ⟨#[]⟩] 25 (0, 0))) ∧
        Hid (wr.heap[g]? = some (.cells #[.string g1, .string g2, pv, .string a4] 25 (0, 0))) ∧ POwn B pv ((L.params.take k).map canP) wr) (fun s19 wr => n - (RowKit.intOf s19).toNat)
    case atStart => exact ⟨0, _, rfl, Nat.zero_le _, hbZ, hBc, hyc', hkg', POwn.nil _ _⟩
    case round =>
      clear hbZ hBc hyc' hkg' p0 p1 p2 p3 q0 q1 q2 q3
      obtain ⟨k, pv, rfl, hk, hbw, hBr, hy, hkg, hown⟩ := hrel
      by_cases hlt : k < n
      · have hv : L.params[k]? = some (L.params[k]'(by have := hn'.out; omega)) := List.getElem?_eq_getElem _
        obtain ⟨V, hV⟩ : ∃ V, L.params[k]'(by have := hn'.out; omega) = V := ⟨_, rfl⟩
        have hVm : V ∈ L.params := by rw [← hV]; exact List.getElem_mem _
        rw [hV] at hv
        obtain ⟨rfl, hgb⟩ := h3'.out (by omega)
        obtain ⟨hc, u, hu, hsu⟩ := h4'.out k V hv
        rw [← hbw.cell (p := ⟨b, o + k * 2, none⟩) (by show b < Z; omega)] at hc
        rw [← hbw.cell (p := ⟨b, o + k * 2 + 1, none⟩) (by show b < Z; omega)] at hu
        have hVl := hvs'.out V hVm
        obtain ⟨x, ex, hx⟩ := sv_some V.name
        rw [ex] at hc
        have hxs : x.size ≤ 4611686018427387904 := by rw [Lib.size_eq, hx]; exact hnm'.out V hVm
        obtain ⟨A2, c2, rfl⟩ : ∃ A c, u = .slice A V.vals.length c := by
          obtain ⟨A, b, o, c, h, _⟩ := hsu
          exact ⟨A, c, h⟩
        obtain ⟨wP, hwP⟩ : ∃ wP, wr.alloc (.cells #[.string x, .slice A2 V.vals.length c2] 40) = wP := ⟨_, rfl⟩
        have hbP : Below wr.heap.size wr wP := by rw [← hwP]; exact (Below.refl _ _).alloc (Nat.le_refl _) _
        have hkP : wP.heap[wr.heap.size]? = some (.cells #[.string x, .slice A2 V.vals.length c2] 40 (0, 0)) := by rw [← hwP]; exact heap_alloc_new wr _
        have hS : StrsAt wP (.slice A2 V.vals.length c2) V.vals := by
          refine hsu.kept ?_
          rw [hZ]
          exact hbw.trans (hbP.mono (by have := hbw.size; omega))
        obtain ⟨l, hl⟩ : ∃ l, V.vals.length = l := ⟨_, rfl⟩
        rw [hl] at hu hwP hkP hS hVl
        have hv' := Lib.hid hv
        have hx' := Lib.hid hx
        have hl' := Lib.hid hl
        have hkP' := Lib.hid hkP
        have hzP : wr.heap.size < wP.heap.size := (Array.getElem?_eq_some_iff.1 hkP).1
        obtain ⟨e0, e1, e2, e3⟩ := res2 hkP
        clear hv hV hVm hsu ex hx hl hgb hkP
        go_wp2_with (at_builtin; refine wpList_append_strs rfl _ _ rfl wP.heap.size (.slice none 0 0) (.slice A2 l c2) V.vals rfl rfl (World.ownsRow_nil _ _ _ 1) hS ?c1 (by simp) ?_)
        case c1 => have := hl'.out; omega
        intro v2 w2 hO2 hg2
        obtain ⟨ao, cc, rfl⟩ := hO2.form
        rw [hl'.out] at hO2 ⊢
        have hb2 : Below wP.heap.size wP w2 := ⟨hg2.os, hg2.tape, hg2.output, hg2.size, fun i hi => hg2.block i hi (by simp [Value.ownBlock])⟩
        have hb2r : Below wr.heap.size wr w2 := below_then hbP hb2
        have hkg2 := Lib.hid ((hb2r.block g (by omega)).trans hkg.out)
        have hkP2 := Lib.hid ((hb2.block _ hzP).trans hkP'.out)
        have hy2 := Lib.hid ((hb2r.block (Z + 1) (by omega)).trans hy.out)
        obtain ⟨us, hus, hrow, hvals⟩ := hown.kept hb2r
        have hO2B : Own B (.slice ao l cc) V.vals w2 := hO2.less (by omega)
        have hlk : ((L.params.take k).map canP).length = k := by rw [List.length_map, List.length_take]; have := hn'.out; omega
        have hsz2 : wr.heap.size < w2.heap.size := Nat.lt_of_lt_of_le hzP hb2.size
        obtain ⟨gx, hgx⟩ : ∃ gx : ByteArray, (⟨(Ch.up x.data.toList).toArray⟩ : ByteArray) = gx := ⟨_, rfl⟩
        have cU := fun W => Ch.upper_any x W (by omega)
        rw [hgx] at cU
        have hgxd : gx.data.toList = Ch.up V.name := by rw [← hgx, hx'.out]
        have hmore : ∀ (W : World) (v' : Value) (w' : World), Below w2.heap.size w2 W → w'.ownsRow B 40 2 v' (k + 1) (pcells ((L.params.take k).map canP) us ++ [.string gx, .slice ao l cc]) → W.grownBy w' pv.ownBlock → POwn B v' ((L.params.take (k + 1)).map canP) w' := fun W v' w' hW h5 h6 => by
          obtain ⟨hlt2, hve⟩ := List.getElem?_eq_some_iff.1 hv'.out
          rw [List.take_succ_eq_append_getElem hlt2, hve, List.map_append, List.map_singleton]
          refine POwn.more (p := canP V) (u := .slice ao l cc) (W := W) (w' := w') (v := pv) hus (ownsRow_kept hrow hW) (fun j p u hp hu => (hvals j p u hp hu).kept hW) (hO2B.kept hW) ?_ h6
          rw [hlk]
          have e : sv (canP V).name = .string gx := by show sv (Ch.up V.name) = _; rw [← hgxd, sv_data]
          rw [e]; exact h5
        have hrowK : ∀ W, Below w2.heap.size w2 W → W.ownsRow B 40 2 pv k (pcells ((L.params.take k).map canP) us) := fun W hW => by
          have := ownsRow_kept hrow hW
          rwa [hlk] at this
        have hrlt : ∀ q, pv.ownBlock = some q → B ≤ q := fun q hq => (hrow.lt q hq).1
        obtain ⟨m0, m1, m2, m3, m4, m5, m6, m7⟩ := res4 hkg2.out
        obtain ⟨t0, t1, t2, t3⟩ := res2 hkP2.out
        have hone : ∀ u ∈ [Value.string gx, Value.slice ao l cc], u.oneCell' = true := fun u hu => by
          simp at hu
          rcases hu with rfl | rfl <;> rfl
        have hBw : B ≤ w2.heap.size := by omega
        have hk1 : k + 1 ≤ maxLen := by unfold maxLen; omega
        have hk2 : (k + 1) * 40 ≤ 140737488355328 := by omega
        have hmore' := Lib.hid hmore
        have hrowK' := Lib.hid hrowK
        have hrlt' := Lib.hid hrlt
        clear hO2 hg2 hb2 hus hrow hvals hO2B hlk hgx hgxd hmore hrowK hrlt hown hS hbP hkg hy e0 e1 e2 e3 hu hc
        go_wp2_with fail
        go_region_law (first
          | ((refine step_append_lies _ (by rfl) _ _ _ (by rfl) B 40 j0 (.agg #[.string ⟨#[]⟩, .slice none 0 0]) 2 40 Tryd.underlying23 hj hjz0 hjz1 hjz2 rfl (by decide) pv k _ (by rfl) ((hrowK'.out wx hbx2).alloc _) ⟨wx.heap.size, 0, none⟩ 1 1 [.string gx, .slice ao l cc] (by rfl) (by rfl) (World.news_of_block (heap_alloc_new wx _)) hone (by omega) hk1 hk2 (by simp; omega) (wx.heap.size + 1) (by simp) ?_); intro gg cap w5 hown5 hgrow5 hat5 hlt5; have hk5 := blk_grown (blk_alloc hkx _) hgrow5 (fun q hq => by have := hrlt'.out q hq; omega); obtain ⟨x0, x1, x2, x3, x4, x5, x6, x7⟩ := res4 hk5)
          | (go_simp; go_at_call 40; refine (cU _).mono ?_; rintro e wx ⟨rfl, hbx⟩; have hbx2 := below_drew_then hbx; have hkx := blk_below hbx2 hkg2.out; obtain ⟨y0, y1, y2, y3, y4, y5, y6, y7⟩ := res4 hkx; have hszx := hbx2.size; have z2 : (wx.alloc (.cells #[.string gx, .slice ao l cc] 40)).cell? ⟨g, 2, none⟩ = some pv := (res4 (blk_alloc hkx _)).2.2.1))
        all_goals
          have hal := keep_alloc hbx2 (Nat.le_refl _) (.cells #[.string gx, .slice ao l cc] 40)
          have hP5 := hmore'.out _ _ w5 hal hown5 hgrow5
          have hP6 := Lib.hid (hP5.stored (a := ⟨g, 2, none⟩) hgc (.slice (some ⟨gg, 0, none⟩) (k + 1) cap))
          have hk6 := Lib.hid (set4_2 hk5 (.slice (some ⟨gg, 0, none⟩) (k + 1) cap))
          have hy6 := Lib.hid (blk_store (blk_grown (blk_alloc (blk_below hbx2 hy2.out) (.cells #[.string gx, .slice ao l cc] 40)) hgrow5 (fun q hq => by have := hrlt'.out q hq; omega)) (p := ⟨g, 2, none⟩) (by show Z + 1 ≠ g; omega) (.slice (some ⟨gg, 0, none⟩) (k + 1) cap))
          have hb6 : Below Z w (w5.setCell ⟨g, 2, none⟩ (.slice (some ⟨gg, 0, none⟩) (k + 1) cap)) := (((hbw.trans (hb2r.mono (by omega))).trans (hal.mono (by omega))).grown hgrow5 (by simp; omega) (fun q hq => by have := hrlt'.out q hq; omega)).setCell (p := ⟨g, 2, none⟩) (by show Z ≤ g; omega) _
          have hs6 : B ≤ (w5.setCell ⟨g, 2, none⟩ (.slice (some ⟨gg, 0, none⟩) (k + 1) cap)).heap.size := by have := hgrow5.size; simp at this; simp [World.setCell]; omega
          clear hal hP5 hk5 hown5 hgrow5 hat5 hlt5 hbx hbx2 hkx x0 x1 x2 x3 x4 x5 x6 x7 z2 m0 m1 m2 m3 m4 m5 m6 m7 t0 t1 t2 t3
          go_wp2_with fail
          go_roundw
        case rel => exact ⟨k + 1, _, by go_num, by omega, hb6, hs6, hy6, hk6, hP6.out⟩
        case measure => simp [RowKit.intOf]; omega
        case rel => exact ⟨k + 1, _, by go_num, by omega, hb6, hs6, hy6, hk6, hP6.out⟩
        case measure => simp [RowKit.intOf]; omega
        case rel => exact ⟨k + 1, _, by go_num, by omega, hb6, hs6, hy6, hk6, hP6.out⟩
        case measure => simp [RowKit.intOf]; omega
        case rel => exact ⟨k + 1, _, by go_num, by omega, hb6, hs6, hy6, hk6, hP6.out⟩
        case measure => simp [RowKit.intOf]; omega
      · rw [List.take_of_length_le (by have := hn'.out; omega)] at hown
        obtain ⟨x0, x1, x2, x3, r0, r1, r2, r3⟩ := res4 hkg.out
        obtain ⟨y0, y1, y2, y3, f0, f1, f2, f3⟩ := res4 hy.out
        obtain ⟨ag, cg, rfl⟩ := hown.form
        obtain ⟨lg, hlg⟩ : ∃ lg, (L.params.map canP).length = lg := ⟨_, rfl⟩
        rw [hlg] at hown x2
        have hgd1 := hd1'.out
        have hgd2 := hd2'.out
        have hZB : Z + 1 < B := by omega
        have hfin : ∀ W, POwn B (.slice ag lg cg) (L.params.map canP) W → LOwn Z (.agg #[.string g1, .string g2, .slice ag lg cg, .string a4]) (canL L) W := fun W h => ⟨_, by show _ = Value.agg #[sv (Ch.up L.group), sv (Ch.up L.name), _, sv L.value]; rw [← hgd1, ← hgd2, ← ha4'.out, sv_data, sv_data, sv_data], h.less (by omega)⟩
        have hlo := Lib.hid (hfin _ (((((hown.stored (a := ⟨Z + 1, 0, none⟩) hZB (.string g1)).stored (a := ⟨Z + 1, 1, none⟩) hZB (.string g2)).stored (a := ⟨Z + 1, 2, none⟩) hZB (.slice ag lg cg)).stored (a := ⟨Z + 1, 3, none⟩) hZB (.string a4))))
        have hZ1 : Z ≤ Z + 1 := by omega
        have hbf := (((hbw.setCell (p := ⟨Z + 1, 0, none⟩) hZ1 (.string g1)).setCell (p := ⟨Z + 1, 1, none⟩) hZ1 (.string g2)).setCell (p := ⟨Z + 1, 2, none⟩) hZ1 (.slice ag lg cg)).setCell (p := ⟨Z + 1, 3, none⟩) hZ1 (.string a4)
        have hne1 : ¬ g = Z + 1 := by omega
        have hne2 : ¬ Z + 1 = g := by omega
        clear hlg hy hkg hown hfin hgd1 hgd2
        go_wp2
        exact bodyPost_ret (v := .agg #[.string g1, .string g2, .slice ag lg cg, .string a4]) (by simp [results, Tryd.results18, go_sem, y0, y1, y2, y3]) rfl (by rw [hZ]; exact ⟨⟨_, rfl, hlo.out⟩, hbf⟩)
end Go.Proofs.YthkcjfoihieooaaDoor.Li
