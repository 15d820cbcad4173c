import Derived.Test.YtjeagjleolmibaaGreatDoorMg7
import Derived.Tactics
import Derived.Tactics2
import Derived.Defers
import Derived.Laws.Pointers
import Derived.Laws.LoneSync
import Derived.Laws.NewBlocks
import Derived.RegionTactic
import Derived.RegionCalls
import Derived.ChangeAlike
import Derived.Test.YtjeagjleolmibaaGreatDoorMg6
import Derived.Test.YtjeagjleolmibaaGreatDoorMg2
import Derived.Laws.CopyOwn
import Derived.Lib.SliceRun
import Derived.Lib.SmallJoins
import Derived.Test.YtjeagjleolmibaaGreatDoorMg1
import Derived.Test.YtjeagjleolmibaaGreatDoorMg15
import Derived.Test.YtjeagjleolmibaaGreatDoorMg16
import Derived.Laws.MakeOwn
import Derived.WalkSpells
import Derived.Deep.QuietTactic
import Derived.Deep.RegionHeld3

/-
  WALKS OF sync.Once AT THIS DUMP (one goroutine; a Once that is not yet done, its lock free), in which strings.(*Replacer).buildOnce is called.
-/
set_option linter.unusedVariables false
namespace Go.Proofs.YtjeagjleolmibaaGreatDoor.Xm
open Go.Lib Go.RowKit

theorem oDisable (w : World) : (callFunc 124 #[]).run Tryz.prog w = .ok (.value (.tuple #[])) w := run_call_mark0 Tryz.func124 (by kernel_rfl) (by kernel_rfl) (by kernel_rfl) .disable (by kernel_rfl) w
theorem oEnable (w : World) : (callFunc 126 #[]).run Tryz.prog w = .ok (.value (.tuple #[])) w := run_call_mark0 Tryz.func126 (by kernel_rfl) (by kernel_rfl) (by kernel_rfl) .enable (by kernel_rfl) w
theorem oAcquire (a : Addr) (w : World) : (callFunc 127 #[.pointer (some a)]).run Tryz.prog w = .ok (.value (.tuple #[])) w := run_call_marked Tryz.func127 (by kernel_rfl) (by kernel_rfl) (by kernel_rfl) .acquire (by kernel_rfl) a w
theorem oRelease (a : Addr) (w : World) : (callFunc 129 #[.pointer (some a)]).run Tryz.prog w = .ok (.value (.tuple #[])) w := run_call_marked Tryz.func129 (by kernel_rfl) (by kernel_rfl) (by kernel_rfl) .releaseMerge (by kernel_rfl) a w

/-- atomic.Bool's Store(true), as a deferred call: the cell holds 1 -/
theorem store_deferred (a : Addr) (x : Value) (u : FrameMode) (w : World) (hc : w.cell? a = some x) (hz : w.frozen? a = false) :
    CallsD Tryz.prog 103 #[.pointer (some a), .bool true] u w fun e u' w' => u' = u ∧ (e = .returned (.tuple #[]) ∧ w' = w.drew.setCell a (.int .u32 1)) := by
  have hc' : w.drew.cell? a = some x := by go_simp
  have hz' : w.drew.frozen? a = false := by go_simp
  have hst := run_call_store (P := Tryz.prog) Tryz.func116 (by kernel_rfl) (by kernel_rfl) (by kernel_rfl) (by kernel_rfl) (k := .u32) (y := 1) hc' hz'
  go_enter_d Tryz.func103, Tryz.ntmps103
  go_wp2
  go_region_calls
  all_goals (go_end0; exact ⟨rfl, rfl⟩)

set_option maxRecDepth 100000 in
/-- the lock let go, as a deferred call -/
theorem unlock_deferred (a : Addr) (u : FrameMode) (w : World) (hc : w.cell? a = some (.int .i32 1)) (hz : w.frozen? a = false) :
    CallsD Tryz.prog 102 #[.pointer (some a)] u w fun e u' w' => u' = u ∧ (e = .returned (.tuple #[]) ∧ w' = w.setCell a (.int .i32 0)) := by
  have hd := oDisable
  have he := oEnable
  have hr := oRelease
  have hadd := run_call_add (P := Tryz.prog) Tryz.func130 (by kernel_rfl) (by kernel_rfl) (by kernel_rfl) .i32 (by kernel_rfl) (y := -1) (s := 0) hc hz (by simp [go_sem]; rfl)
  have hcv := run_convert_to_unsafe (P := Tryz.prog) (src := 170) (dst := 74) Tryz.underlying170 Tryz.underlying74 (by kernel_rfl) hc
  go_enter_d Tryz.func102, Tryz.ntmps102
  go_wp2
  go_end0
  go_wp2
  go_end0
  exact ⟨rfl, rfl⟩

set_option maxRecDepth 100000 in
/-- the lock taken, which was free -/
theorem lock_free (a : Addr) (w : World) (hc : w.cell? a = some (.int .i32 0)) (hz : w.frozen? a = false) :
    Calls Tryz.prog 101 #[.pointer (some a)] w fun e w' => e = .returned (.tuple #[]) ∧ w' = w.setCell a (.int .i32 1) := by
  have hd := oDisable
  have he := oEnable
  have ha := oAcquire
  have hcas := run_call_cas_hit (P := Tryz.prog) Tryz.func125 (by kernel_rfl) (by kernel_rfl) (by kernel_rfl) .i32 (by kernel_rfl) (y := 1) hc hz
  have hc' : (w.setCell a (.int .i32 1)).cell? a = some (.int .i32 1) := World.cell?_setCell_same w a _ hc
  have hcv := run_convert_to_unsafe (P := Tryz.prog) (src := 170) (dst := 74) Tryz.underlying170 Tryz.underlying74 (by kernel_rfl) hc'
  go_enter Tryz.func101, Tryz.ntmps101
  go_wp2
  first | go_end0 | (simp only [Exit.inBlock, Exit.then]; refine bodyPost_ret (results_none rfl _ _ _) rfl ?_) | refine bodyPost_ret (results_none rfl _ _ _) rfl ?_
  go_wp2
  go_end0
  exact ⟨rfl, rfl⟩

/-- what buildOnce makes of the world in which the lock is taken -/
structure Made (b : Nat) (R : World → Prop) (w1 : World) : Prop where
  r : R w1
  c0 : w1.cell? ⟨b, 0, none⟩ = some (.int .u32 0)
  c1 : w1.cell? ⟨b, 1, none⟩ = some (.int .i32 1)
  f0 : w1.frozen? ⟨b, 0, none⟩ = false
  f1 : w1.frozen? ⟨b, 1, none⟩ = false

set_option maxRecDepth 100000 in
set_option maxHeartbeats 1600000 in
theorem slow_any (b : Nat) (R : World → Prop) (w : World)
    (h0 : w.cell? ⟨b, 0, none⟩ = some (.int .u32 0)) (h1 : w.cell? ⟨b, 1, none⟩ = some (.int .i32 0)) (f0 : w.frozen? ⟨b, 0, none⟩ = false) (f1 : w.frozen? ⟨b, 1, none⟩ = false)
    (hB : Calls Tryz.prog 72 #[.pointer (some ⟨b, 0, none⟩)] (w.setCell ⟨b, 1, none⟩ (.int .i32 1)) fun e w' => e = .returned (.tuple #[]) ∧ Made b R w') :
    Calls Tryz.prog 89 #[.pointer (some ⟨b, 0, none⟩), .func (.func 72) #[.pointer (some ⟨b, 0, none⟩)] #[]] w fun e w' => e = .returned (.tuple #[]) ∧
      ∃ w1, R w1 ∧ w' = ((w1.drew.setCell ⟨b, 0, none⟩ (.int .u32 1)).setCell ⟨b, 1, none⟩ (.int .i32 0)) := by
  have hl := run_call_load (P := Tryz.prog) Tryz.func100 (by kernel_rfl) (by kernel_rfl) (by kernel_rfl) .u32 (by kernel_rfl) (w := w.setCell ⟨b, 1, none⟩ (.int .i32 1)) (a := ⟨b, 0, none⟩) (x := 0) ((World.cell?_setCell_other _ ⟨b, 1, none⟩ ⟨b, 0, none⟩ _ (by simp)).trans h0)
  have hnot : ∀ (x : Bool) (w : World), (Op.unary .not (.bool x)).run Tryz.prog w = .ok (.bool (!x)) w := fun _ _ => rfl
  go_enter_defers Tryz.func89, Tryz.ntmps89
  go_wp2_with (go_at_call 101; refine (lock_free ⟨b, 1, none⟩ _ (by go_simp) (by go_simp)).mono ?_; rintro e w' ⟨rfl, rfl⟩)
  go_wp2_with (first | (go_at_call 72; refine hB.mono ?_; rintro e w1 ⟨rfl, hM⟩) | (go_at_call 88; go_in))
  go_wp2
  refine leaves_cons (f := 103) (args := #[.pointer (some ⟨b, 0, none⟩), .bool true]) (by simp) (by simp [go_sem]) ?_
  refine (store_deferred ⟨b, 0, none⟩ (.int .u32 0) .returning _ hM.c0 hM.f0).mono ?_
  rintro e u' w'' ⟨rfl, rfl, rfl⟩
  refine leaves_cons (f := 102) (args := #[.pointer (some ⟨b, 1, none⟩)]) (by simp [settle]) (by simp [go_sem]) ?_
  refine (unlock_deferred ⟨b, 1, none⟩ _ _ ?_ (by simp [hM.f1])).mono ?_
  · refine (World.cell?_setCell_other _ ⟨b, 0, none⟩ ⟨b, 1, none⟩ _ (by simp)).trans ?_
    rw [World.cell?_drew]
    exact hM.c1
  rintro e u' w'' ⟨rfl, rfl, rfl⟩
  simp [Leaves, settle, results, Tryz.results89]
  exact ⟨_, hM.r, rfl⟩

set_option maxRecDepth 100000 in
set_option maxHeartbeats 1600000 in
/-- Do, not yet done, the lock free -/
theorem do_first (b : Nat) (R : World → Prop) (w : World)
    (h0 : w.cell? ⟨b, 0, none⟩ = some (.int .u32 0)) (h1 : w.cell? ⟨b, 1, none⟩ = some (.int .i32 0)) (f0 : w.frozen? ⟨b, 0, none⟩ = false) (f1 : w.frozen? ⟨b, 1, none⟩ = false)
    (hB : Calls Tryz.prog 72 #[.pointer (some ⟨b, 0, none⟩)] (w.setCell ⟨b, 1, none⟩ (.int .i32 1)) fun e w' => e = .returned (.tuple #[]) ∧ Made b R w') :
    Calls Tryz.prog 71 #[.pointer (some ⟨b, 0, none⟩), .func (.func 72) #[.pointer (some ⟨b, 0, none⟩)] #[]] w fun e w' => e = .returned (.tuple #[]) ∧
      ∃ w1, R w1 ∧ w' = ((w1.drew.setCell ⟨b, 0, none⟩ (.int .u32 1)).setCell ⟨b, 1, none⟩ (.int .i32 0)) := by
  have hl := run_call_load (P := Tryz.prog) Tryz.func100 (by kernel_rfl) (by kernel_rfl) (by kernel_rfl) .u32 (by kernel_rfl) h0
  have hnot : ∀ (x : Bool) (w : World), (Op.unary .not (.bool x)).run Tryz.prog w = .ok (.bool (!x)) w := fun _ _ => rfl
  go_enter Tryz.func71, Tryz.ntmps71
  go_wp2_with (first | (go_at_call 89; refine (slow_any b R _ h0 h1 f0 f1 hB).mono ?_; rintro e w' ⟨rfl, w1, hR, rfl⟩) | (go_at_call 88; go_in))
  go_end0
  exact ⟨rfl, w1, hR, rfl⟩
end Go.Proofs.YtjeagjleolmibaaGreatDoor.Xm

/-
  WALKS OF strings.NewReplacer AT THIS DUMP, AND HOW STRINGS LIE IN ROWS OF THE CALL's OWN.
-/
set_option linter.unusedVariables false
namespace Go.Proofs.YtjeagjleolmibaaGreatDoor.Xm
open Go.Lib Go.RowKit

theorem infoStr : (Tryz.prog.info? 9).map (fun i => (i.zero, i.size, i.bytes)) = some (some (.string ⟨#[]⟩), 1, 16) := by kernel_rfl
/-- a slice of the call's own that reads as these strings -/
def SOwn (B : Nat) (v : Value) (ls : List Row) (w : World) : Prop := w.ownsRow B 9 1 v ls.length (ls.map sv)
theorem SOwn.nil (B : Nat) (w : World) : SOwn B (.slice none 0 0) [] w := World.ownsRow_nil w B _ 1
theorem SOwn.kept {w w' : World} {B : Nat} {v : Value} {ls : List Row} (h : SOwn B v ls w) (hb : Below w.heap.size w w') : SOwn B v ls w' := ownsRow_kept h hb
/-- strings, wherever they read -/
def StrsIn (w : World) (b : Nat) (ls : List Row) : Prop := b < w.heap.size ∧ ∀ (j : Nat) (l : Row), ls[j]? = some l → w.cell? ⟨b, j, none⟩ = some (sv l)
theorem StrsIn.kept {w w' : World} {b : Nat} {ls : List Row} (h : StrsIn w b ls) (hb : Below w.heap.size w w') : StrsIn w' b ls :=
  ⟨Nat.lt_of_lt_of_le h.1 hb.size, fun j l hj => (hb.cell (p := ⟨b, j, none⟩) h.1).trans (h.2 j l hj)⟩
theorem SOwn.in {B : Nat} {v : Value} {l : Row} {ls : List Row} {w : World} (h : SOwn B v (l :: ls) w) : ∃ g c, v = .slice (some ⟨g, 0, none⟩) (l :: ls).length c ∧ B ≤ g ∧ StrsIn w g (l :: ls) := by
  obtain ⟨h1, h2 | ⟨g, cap, cur, e1, e2, e3, e4, e5, e6, e7⟩⟩ := h
  · exact absurd h2.2 (by simp)
  · refine ⟨g, cap, e1, e2, (Array.getElem?_eq_some_iff.1 e3).1, fun j x hj => ?_⟩
    have hlt := (List.getElem?_eq_some_iff.1 hj).1
    rw [Lib.cell_of_heap e3]
    have : (cur.toList.take ((l :: ls).length * 1))[j]? = ((l :: ls).map sv)[j]? := by rw [e7]
    rw [List.getElem?_take, if_pos (by omega), List.getElem?_map, hj] at this
    rw [← Array.getElem?_toList, this]; rfl
/-- the strings that escape replaces, each with what stands for it -/
def e8 : List Row := [[38], [38, 97, 109, 112, 59], [60], [38, 108, 116, 59], [62], [38, 103, 116, 59], [13], [38, 35, 49, 51, 59]]
/-- a new Replacer -/
def NewR (B : Nat) (e : Ending) (w w' : World) : Prop := ∃ b g c, e = .returned (.pointer (some ⟨b, 0, none⟩)) ∧ B ≤ b ∧ w'.heap[b]? = some (.cells #[.int .u32 0, .int .i32 0, .int .u32 0, .nilIface, .slice (some ⟨g, 0, none⟩) 8 c] 120 (0, 0)) ∧ StrsIn w' g e8 ∧ Below B w w'
set_option maxHeartbeats 2000000 in
set_option maxRecDepth 100000 in
theorem newR_any (w : World) (z : Nat) (hS : StrsIn w z e8) : Calls Tryz.prog 50 #[.slice (some ⟨z, 0, none⟩) 8 8] w fun e w' => NewR w.heap.size e w w' := by
  obtain ⟨i0, hi, hz0, hz1, hz2⟩ := info_parts infoStr
  have hrow : w.ownsRow w.heap.size 9 1 (.slice none 0 0) 0 [] := World.ownsRow_nil w _ _ 1
  have hS' := Lib.hid hS
  clear hS
  go_enter Tryz.func50, Tryz.ntmps50
  go_wp2_with (at_builtin; refine wpList_append_own _ rfl _ _ 104 rfl w.heap.size 9 i0 (.string ⟨#[]⟩) 1 16 Tryz.underlying104 hi hz0 hz1 hz2 rfl (by decide) _ 0 [] rfl hrow ⟨z, 0, none⟩ 8 8 (e8.map sv) rfl rfl (fun j u hj => ?c1) (fun u hu => ?c2) (by decide) (by decide) (Nat.le_refl _) ?c3)
  case c1 =>
    rw [List.getElem?_map] at hj
    obtain ⟨l, hl, rfl⟩ := Option.map_eq_some_iff.1 hj
    have := hS'.out.2 j l hl
    unfold Addr.add
    by_cases hj0 : j = 0
    · subst hj0; simpa using this
    · rw [if_neg hj0]; simpa using this
  case c2 =>
    obtain ⟨l, _, rfl⟩ := List.mem_map.1 hu
    rfl
  case c3 =>
    intro v' w' hown hg _
    have hown : SOwn w.heap.size v' e8 w' := hown
    obtain ⟨g, c, rfl, hBg, hIn⟩ := hown.in
    have hb : Below w.heap.size w w' := (Below.refl _ _).grown hg (Nat.le_refl _) (fun k hk => by cases hk)
    have hb' := Lib.hid hb
    have hIn' := Lib.hid hIn
    clear hb hIn hown hg
    go_wp2
    go_ret
    exact ⟨w'.heap.size, g, c, rfl, hb'.out.size, heap_alloc_new w' _, hIn'.out.kept ((Below.refl _ _).alloc (Nat.le_refl _) _), hb'.out.alloc hb'.out.size _⟩
/-! ### what is replaced -/
/-- what stands for a byte in a byteStringReplacer's table -/
def RepAt (w : World) (v : Value) (l : Option Row) : Prop := match l with
  | none => v = .slice none 0 0
  | some l => ∃ g cap bs fr, v = .slice (some ⟨g, 0, none⟩) l.length cap ∧ w.heap[g]? = some (.cells bs 5 fr) ∧ ∀ (j : Nat) (x : UInt8), l[j]? = some x → bs[j]? = some (.int .u8 (x.toNat : Int))
theorem RepAt.kept {w w' : World} {v : Value} {l : Option Row} (h : RepAt w v l) (hb : ∀ (g : Nat) (bs : Array Value) (fr : Nat × Nat), w.heap[g]? = some (.cells bs 5 fr) → w'.heap[g]? = some (.cells bs 5 fr)) : RepAt w' v l := by
  cases l with
  | none => exact h
  | some l =>
    obtain ⟨g, cap, bs, fr, h1, h2, h3⟩ := h
    exact ⟨g, cap, bs, fr, h1, hb g bs fr h2, h3⟩
/-- the pairs, the last one first -/
def rpO (k : Nat) : UInt8 := ([13, 62, 60, 38] : Row).getD k 0
def rpN (k : Nat) : Row := esc (rpO k)
/-- what the table says of c when k pairs are done -/
def rpT (k : Nat) (c : UInt8) : Option Row := if c ∈ ([13, 62, 60, 38] : Row).take k then some (esc c) else none
theorem rpT_zero (c : UInt8) : rpT 0 c = none := rfl
theorem rpT_at (k : Nat) (hk : k < 4) : rpT k (rpO k) = none := by
  match k, hk with
  | 0, _ => rfl
  | 1, _ => rfl
  | 2, _ => rfl
  | 3, _ => rfl
theorem rpT_own (k : Nat) (hk : k < 4) : rpT (k + 1) (rpO k) = some (esc (rpO k)) := by
  match k, hk with
  | 0, _ => rfl
  | 1, _ => rfl
  | 2, _ => rfl
  | 3, _ => rfl
theorem rpT_other (k : Nat) (hk : k < 4) (c : UInt8) (hc : c ≠ rpO k) : rpT (k + 1) c = rpT k c := by
  have : ([13, 62, 60, 38] : Row).take (k + 1) = ([13, 62, 60, 38] : Row).take k ++ [rpO k] := by
    match k, hk with
    | 0, _ => rfl
    | 1, _ => rfl
    | 2, _ => rfl
    | 3, _ => rfl
  unfold rpT
  rw [this]
  simp [hc]
theorem rpT_all (c : UInt8) : rpT 4 c = if esc c = [c] then none else some (esc c) := Ch.byte_all (P := fun c => rpT 4 c = if esc c = [c] then none else some (esc c)) (by decide +kernel) c
def rpS : List Row := [[13], [62], [60], [38]]
theorem rpS_take (k : Nat) (hk : k < 4) : rpS.take (k + 1) = rpS.take k ++ [[rpO k]] := by
  match k, hk with
  | 0, _ => rfl
  | 1, _ => rfl
  | 2, _ => rfl
  | 3, _ => rfl
theorem e8_old (k : Nat) (hk : k < 4) : e8[6 - 2 * k]? = some [rpO k] := by
  match k, hk with
  | 0, _ => rfl
  | 1, _ => rfl
  | 2, _ => rfl
  | 3, _ => rfl
theorem e8_new (k : Nat) (hk : k < 4) : e8[7 - 2 * k]? = some (esc (rpO k)) := by
  match k, hk with
  | 0, _ => decide
  | 1, _ => decide
  | 2, _ => decide
  | 3, _ => decide
/-- a byteStringReplacer in block z when k pairs are done -/
def BR (B z k : Nat) (w : World) : Prop := ∃ (cs : Array Value) (q : Value), w.heap[z]? = some (.cells cs 146 (0, 0)) ∧ cs.size = 257 ∧ cs[256]? = some q ∧ SOwn B q (rpS.take k) w ∧ ∀ c : UInt8, ∃ v, cs[c.toNat]? = some v ∧ RepAt w v (rpT k c)
theorem BR.kept {B z k : Nat} {w w' : World} (h : BR B z k w) (hb : Below w.heap.size w w') : BR B z k w' := by
  obtain ⟨cs, q, h1, h2, h3, h4, h5⟩ := h
  refine ⟨cs, q, (hb.block z (Array.getElem?_eq_some_iff.1 h1).1).trans h1, h2, h3, h4.kept hb, fun c => ?_⟩
  obtain ⟨v, h6, h7⟩ := h5 c
  exact ⟨v, h6, h7.kept fun g bs fr hg => (hb.block g (Array.getElem?_eq_some_iff.1 hg).1).trans hg⟩
theorem zeroBsr : Tryz.zeroCells146 = (Array.replicate 256 (.slice none 0 0)).push (.slice none 0 0) := by kernel_rfl
theorem bsr_size : Tryz.zeroCells146.size = 257 := by rw [zeroBsr, Array.size_push, Array.size_replicate]
theorem bsr_at (q : Value) (c : Nat) (hc : c < 256) : (Tryz.zeroCells146.toList.set 256 q).toArray[c]? = some (.slice none 0 0) := by
  rw [List.getElem?_toArray, List.getElem?_set_ne (by omega), Array.getElem?_toList, zeroBsr, Array.getElem?_push, if_neg (by rw [Array.size_replicate]; omega), Array.getElem?_replicate, if_pos hc]
theorem bsr_last (q : Value) : (Tryz.zeroCells146.toList.set 256 q).toArray[256]? = some q := by
  rw [List.getElem?_toArray, List.getElem?_set_self (by rw [Array.length_toList, bsr_size]; decide)]
theorem bsr_one : ∀ v ∈ Tryz.zeroCells146, v.oneCell' = true := fun v hv => by
  rw [zeroBsr, Array.mem_push, Array.mem_replicate] at hv
  rcases hv with ⟨_, rfl⟩ | rfl <;> rfl
/-- a byteStringReplacer made, nothing replaced yet -/
theorem bsr_new (w : World) (A : Option Addr) (n c : Nat) (B : Nat) (hB : B ≤ w.heap.size) (hq : SOwn B (.slice A n c) [] w) : ∃ w', (storeCells ⟨w.heap.size, 0, none⟩ (Tryz.zeroCells146.toList.set 256 (.slice A n c))).run Tryz.prog (w.alloc (.cells Tryz.zeroCells146 146)) = .ok () w' ∧ BR B w.heap.size 0 w' ∧ Below w.heap.size w w' := by
  have hg : (w.alloc (.cells Tryz.zeroCells146 146)).heap[w.heap.size]? = some (.cells Tryz.zeroCells146 146 (0, 0)) := heap_alloc_new w _
  have hb : Below w.heap.size w ((w.alloc (.cells Tryz.zeroCells146 146)).setRow w.heap.size ((Tryz.zeroCells146.toList.take 0 ++ Tryz.zeroCells146.toList.set 256 (.slice A n c)).toArray)) := below_setRow ((Below.refl _ _).alloc (Nat.le_refl _) _) (Nat.le_refl _) _
  refine ⟨_, run_storeCells_from w.heap.size 146 _ 0 _ _ hg (by rw [Nat.zero_add, List.length_set, Array.length_toList]) (fun v hv => ?_), ⟨_, .slice A n c, setRow_heap _ _ _ _ _ _ hg, ?_, ?_, hq.kept hb, fun x => ⟨.slice none 0 0, ?_, rfl⟩⟩, hb⟩
  · rcases List.mem_or_eq_of_mem_set hv with h | h
    · exact bsr_one v (by simpa using h)
    · rw [h]; rfl
  · rw [List.take_zero, List.nil_append, List.size_toArray, List.length_set, Array.length_toList, bsr_size]
  · rw [List.take_zero, List.nil_append]; exact bsr_last _
  · rw [List.take_zero, List.nil_append]; exact bsr_at _ _ x.toNat_lt
theorem ownsRow_keep {w w' : World} {B : Nat} {e : TypeId} {size : Nat} {v : Value} {n : Nat} {xs : List Value} (h : w.ownsRow B e size v n xs) (hb : ∀ (i : Nat) (cs : Array Value) (fr : Nat × Nat), w.heap[i]? = some (.cells cs e fr) → w'.heap[i]? = some (.cells cs e fr)) : w'.ownsRow B e size v n xs := by
  refine ⟨h.1, ?_⟩
  rcases h.2 with h | ⟨g, cap, cur, e1, e2, e3, e4⟩
  · exact .inl h
  · exact .inr ⟨g, cap, cur, e1, e2, hb g _ _ e3, e4⟩
theorem bsr_ne_str : (146 : TypeId) ≠ 9 := by decide
theorem bsr_ne_u8 : (146 : TypeId) ≠ 5 := by decide
theorem u8_ne_str : (5 : TypeId) ≠ 9 := by decide
/-- what is of another type than string is left where a row of strings grows -/
theorem grown_type {w w' : World} {B n : Nat} {v : Value} {xs : List Value} (h : w.ownsRow B 9 1 v n xs) (hg : w.grownBy w' v.ownBlock) {i : Nat} {cs : Array Value} {t : TypeId} {fr : Nat × Nat} (hi : w.heap[i]? = some (.cells cs t fr)) (ht : t ≠ 9) : w'.heap[i]? = some (.cells cs t fr) := by
  rw [hg.block i (Array.getElem?_eq_some_iff.1 hi).1 (fun e => ?_)]
  · exact hi
  · rcases h.2 with ⟨hv, _⟩ | ⟨g, cap, cur, hv, _, hh, _⟩
    · rw [hv] at e; cases e
    · rw [hv] at e
      have e : i = g := by simpa [Value.ownBlock] using e
      subst e
      rw [hi] at hh
      injection hh with hh
      injection hh with _ ht'
      exact ht ht'
theorem alloc_kept {w : World} {i : Nat} {x : Obj} (h : w.heap[i]? = some x) (o : Obj) : (w.alloc o).heap[i]? = some x := (((Below.refl w.heap.size w).alloc (Nat.le_refl _) o).block i (Array.getElem?_eq_some_iff.1 h).1).trans h
/-- a byte as a string -/
theorem byte_str (c : UInt8) (w : World) : (convert 49 9 (.slice (some ⟨w.heap.size, 0, none⟩) 1 1)).run Tryz.prog (w.alloc (.cells #[.int .u8 (c.toNat : Int)] 5)) = .ok (.string ⟨#[c]⟩) (w.alloc (.cells #[.int .u8 (c.toNat : Int)] 5)) :=
  run_convert_bytes_back (P := Tryz.prog) (w.alloc (.cells #[.int .u8 (c.toNat : Int)] 5)) 49 9 5 ⟨w.heap.size, 0, none⟩ 1 [c] Tryz.underlying49 Tryz.underlying5 Tryz.underlying9 (fun j hj => by
    obtain rfl : j = 0 := by simp at hj; omega
    exact Lib.cell_of_heap (heap_alloc_new w (.cells #[.int .u8 (c.toNat : Int)] 5)) 0)
theorem BR.step {B Z k G cap : Nat} {wr w' w6 : World} {cs C : Array Value} {v' : Value} {fr : Nat × Nat} (hlt : k < 4) (hZ : w'.heap[Z]? = some (.cells cs 146 (0, 0))) (hsz : cs.size = 257) (hown : SOwn B v' (rpS.take (k + 1)) w')
    (g5 : ∀ c : UInt8, ∃ v, cs[c.toNat]? = some v ∧ RepAt wr v (rpT k c)) (hkeep : ∀ (g : Nat) (bs : Array Value) (fr : Nat × Nat), wr.heap[g]? = some (.cells bs 5 fr) → w'.heap[g]? = some (.cells bs 5 fr))
    (hb6 : Below (w'.setCell ⟨Z, 256, none⟩ v').heap.size (w'.setCell ⟨Z, 256, none⟩ v') w6) (hG : w6.heap[G]? = some (.cells C 5 fr)) (hC : ∀ (j : Nat) (x : UInt8), (esc (rpO k))[j]? = some x → C[j]? = some (.int .u8 (x.toNat : Int))) :
    BR B Z (k + 1) (w6.setCell ⟨Z, (rpO k).toNat, none⟩ (.slice (some ⟨G, 0, none⟩) (esc (rpO k)).length cap)) := by
  have h5 : (w'.setCell ⟨Z, 256, none⟩ v').heap[Z]? = some (.cells (cs.setIfInBounds 256 v') 146 (0, 0)) := Joins.block_setCell hZ v'
  have h6 : w6.heap[Z]? = some (.cells (cs.setIfInBounds 256 v') 146 (0, 0)) := (hb6.block Z (Array.getElem?_eq_some_iff.1 h5).1).trans h5
  have h7 : (w6.setCell ⟨Z, (rpO k).toNat, none⟩ (.slice (some ⟨G, 0, none⟩) (esc (rpO k)).length cap)).heap[Z]? = _ := Joins.block_setCell h6 _
  have keep : ∀ (i : Nat) (bs : Array Value) (t : TypeId) (fr : Nat × Nat), t ≠ 146 → w'.heap[i]? = some (.cells bs t fr) → (w6.setCell ⟨Z, (rpO k).toNat, none⟩ (.slice (some ⟨G, 0, none⟩) (esc (rpO k)).length cap)).heap[i]? = some (.cells bs t fr) := fun i bs t fr ht hi => by
    have hiZ : i ≠ Z := fun e => by
      subst e
      rw [hZ] at hi
      injection hi with hi
      injection hi with _ ht'
      exact ht ht'.symm
    rw [Below.heap_setCell w6 _ _ i hiZ, hb6.block i (by simpa using (Array.getElem?_eq_some_iff.1 hi).1), Below.heap_setCell w' _ _ i hiZ]
    exact hi
  have hG7 : (w6.setCell ⟨Z, (rpO k).toNat, none⟩ (.slice (some ⟨G, 0, none⟩) (esc (rpO k)).length cap)).heap[G]? = some (.cells C 5 fr) := by
    rw [Below.heap_setCell w6 _ _ G (fun e => by
      have e : G = Z := e
      subst e
      rw [h6] at hG
      injection hG with hG
      injection hG with _ ht'
      exact bsr_ne_u8 ht')]
    exact hG
  refine ⟨_, v', h7, by rw [Array.size_setIfInBounds, Array.size_setIfInBounds]; exact hsz, ?_, ownsRow_keep hown fun i bs fr hi => keep i bs _ fr (fun e => bsr_ne_str e.symm) hi, fun c => ?_⟩
  · have := (rpO k).toNat_lt
    rw [Array.getElem?_setIfInBounds_ne (by omega), Array.getElem?_setIfInBounds_self_of_lt (by omega)]
  · by_cases hc : c = rpO k
    · subst hc
      have hl := (rpO k).toNat_lt
      refine ⟨_, Array.getElem?_setIfInBounds_self_of_lt (by rw [Array.size_setIfInBounds]; omega), ?_⟩
      rw [rpT_own k hlt]
      exact ⟨G, cap, C, fr, rfl, hG7, hC⟩
    · obtain ⟨v, hv, hr⟩ := g5 c
      have hl := c.toNat_lt
      refine ⟨v, ?_, ?_⟩
      · rw [Array.getElem?_setIfInBounds_ne (fun e => hc (UInt8.toNat_inj.1 e.symm)), Array.getElem?_setIfInBounds_ne (by omega)]
        exact hv
      · rw [rpT_other k hlt c hc]
        exact hr.kept fun g bs fr hg => keep g bs _ fr (fun e => bsr_ne_u8 e.symm) (hkeep g bs fr hg)
set_option maxHeartbeats 4000000 in
set_option maxRecDepth 100000 in
theorem build_any (b s c : Nat) (w : World) (h4 : w.cell? ⟨b, 4, none⟩ = some (.slice (some ⟨s, 0, none⟩) 8 c)) (hS : StrsIn w s e8) : Calls Tryz.prog 90 #[.pointer (some ⟨b, 0, none⟩)] w fun e w' => ∃ z, e = .returned (.iface 147 (.pointer (some ⟨z, 0, none⟩))) ∧ w.heap.size ≤ z ∧ BR w.heap.size z 4 w' ∧ Below w.heap.size w w' := by
  have s0 := hS.2 0 _ rfl
  have s1 := hS.2 1 _ rfl
  have s2 := hS.2 2 _ rfl
  have s3 := hS.2 3 _ rfl
  have s4 := hS.2 4 _ rfl
  have s5 := hS.2 5 _ rfl
  have s6 := hS.2 6 _ rfl
  have s7 := hS.2 7 _ rfl
  unfold sv at s0 s1 s2 s3 s4 s5 s6 s7
  simp only [List.toArray] at s0 s1 s2 s3 s4 s5 s6 s7
  have hS' := Lib.hid hS
  clear hS
  go_enter Tryz.func90, Tryz.ntmps90
  go_wp2
  go_loopw [4, 5] (fun s4 s5 wr => wr = w ∧ ∃ k : Int, s5 = .int .i64 k ∧ ((k = 0 ∧ s4 = .bool true) ∨ (k = 2 ∧ s4 = .bool false) ∨ (k = 4 ∧ s4 = .bool false) ∨ (k = 6 ∧ s4 = .bool false) ∨ (k = 8 ∧ s4 = .bool false))) (fun s4 s5 wr => 8 - (RowKit.intOf s5).toNat)
  case atStart => exact ⟨rfl, 0, rfl, .inl ⟨rfl, rfl⟩⟩
  case round =>
    obtain ⟨rfl, k, rfl, hk⟩ := hrel
    rcases hk with ⟨rfl, rfl⟩ | ⟨rfl, rfl⟩ | ⟨rfl, rfl⟩ | ⟨rfl, rfl⟩ | ⟨rfl, rfl⟩
    all_goals try
      go_wp2
      go_roundw
      case rel => first | exact ⟨by trivial, 2, rfl, .inr (.inl ⟨rfl, rfl⟩)⟩ | exact ⟨by trivial, 4, rfl, .inr (.inr (.inl ⟨rfl, rfl⟩))⟩ | exact ⟨by trivial, 6, rfl, .inr (.inr (.inr (.inl ⟨rfl, rfl⟩)))⟩ | exact ⟨by trivial, 8, rfl, .inr (.inr (.inr (.inr ⟨rfl, rfl⟩)))⟩
      case measure => simp [RowKit.intOf]
    have hS2 := hS'.out
    clear s0 s1 s2 s3 s4 s5 s6 s7
    obtain ⟨i0, hi, hz0, hz1, hz2⟩ := info_parts infoStr
    obtain ⟨w1, hmk, hrow, hg⟩ := run_make_own (P := Tryz.prog) wr wr.heap.size 104 9 i0 (.string ⟨#[]⟩) 1 Tryz.underlying104 hi hz0 hz1 .i64 .i64 4 (by rw [hz2]; decide) (by decide) (Nat.le_refl _)
    have hmk : (Instr.makeSlice 104 (.int .i64 0) (.int .i64 4)).run Tryz.prog wr = .ok (.slice (some ⟨wr.heap.size, 0, none⟩) 0 4) w1 := hmk
    have hb1 : Below wr.heap.size wr w1 := (Below.refl _ _).grown hg (Nat.le_refl _) (fun k hk => by cases hk)
    obtain ⟨w2, hst, hbr, hb2⟩ := bsr_new w1 _ _ _ wr.heap.size hb1.size hrow
    have hb2' := Lib.hid (hb1.trans (hb2.mono hb1.size))
    have hbr' := Lib.hid hbr
    have hZ1 : wr.heap.size ≤ w1.heap.size := hb1.size
    clear hbr hb2 hb1 hg hrow hi hz0 hz1 hz2
    obtain ⟨W0, rfl⟩ : ∃ W, W = wr := ⟨_, rfl⟩
    go_wp2_with fail
    clear hst h4 hmk
    obtain ⟨B, hB⟩ : ∃ B, W0.heap.size = B := ⟨_, rfl⟩
    obtain ⟨Z, hZ⟩ : ∃ Z, w1.heap.size = Z := ⟨_, rfl⟩
    rw [hB] at hbr' hb2' hZ1
    rw [hZ] at hbr' hZ1
    rw [hZ, hB]
    have hB' := Lib.hid hB
    clear hB hZ
    go_loopw [12] (fun s12 wq => ∃ k : Nat, k ≤ 4 ∧ s12 = .int .i64 (6 - 2 * (k : Int)) ∧ BR B Z k wq ∧ Below B W0 wq) (fun s12 wq => (RowKit.intOf s12 + 2).toNat)
    case atStart => exact ⟨0, by decide, rfl, hbr'.out, hb2'.out⟩
    case round =>
      obtain ⟨k, hk, rfl, hbr, hbw⟩ := hrel
      have hbr' := Lib.hid hbr
      have hbw' := Lib.hid hbw
      clear hbr hbw
      by_cases hlt : k < 4
      · obtain ⟨j, hj⟩ : ∃ j, 6 - 2 * k = j := ⟨_, rfl⟩
        have hji : 6 - 2 * (k : Int) = (j : Int) := by omega
        have hj7 : 7 - 2 * k = j + 1 := by omega
        have hj6 : j ≤ 6 := by omega
        have hIn := hS'.out.kept (show Below W0.heap.size W0 wr by rw [hB'.out]; exact hbw'.out)
        have o1 := hIn.2 j _ (by rw [← hj]; exact e8_old k hlt)
        have o2 := hIn.2 (j + 1) _ (by rw [← hj7]; exact e8_new k hlt)
        obtain ⟨c, hc⟩ : ∃ c, rpO k = c := ⟨_, rfl⟩
        rw [hc] at o1 o2
        obtain ⟨N, hN⟩ : ∃ N : ByteArray, (⟨(esc c).toArray⟩ : ByteArray) = N := ⟨_, rfl⟩
        unfold sv at o1 o2
        rw [hN] at o2
        obtain ⟨O, hO⟩ : ∃ O : ByteArray, (⟨#[c]⟩ : ByteArray) = O := ⟨_, rfl⟩
        have o1 : wr.cell? ⟨s, j, none⟩ = some (.string O) := by rw [← hO]; exact o1
        have hO1 : O.size = 1 := by rw [← hO]; rfl
        have hO2 : ∀ h, O[0]'h = c := by rw [← hO]; intro h; rfl
        obtain ⟨cs, q, g1, g2, g3, g4, g5⟩ := hbr'.out
        have hqf := ownsRow_form g4
        obtain ⟨ao, co, rfl⟩ := hqf
        obtain ⟨nq, hnq⟩ : ∃ nq, (rpS.take k).length = nq := ⟨_, rfl⟩
        have hnq4 : nq ≤ 4 := by rw [← hnq]; exact Nat.le_trans (List.length_take_le _ _) (by omega)
        rw [hnq] at g3 g4
        obtain ⟨v, hv, hrv⟩ := g5 c
        have hvn : v = .slice none 0 0 := by
          have := rpT_at k hlt
          rw [hc] at this
          rw [this] at hrv
          exact hrv
        subst hvn
        have z1 : wr.cell? ⟨Z, c.toNat, none⟩ = some (.slice none 0 0) := by rw [Lib.cell_of_heap g1]; exact hv
        have z2 : wr.cell? ⟨Z, 256, none⟩ = some (.slice ao nq co) := by rw [Lib.cell_of_heap g1]; exact g3
        have hc1 : (0 : Int) ≤ (c.toNat : Int) := by omega
        have hc2 : (c.toNat : Int) < 256 := by have := c.toNat_lt; omega
        have hjj : (0 : Int) ≤ (j : Int) := by omega
        have hj8 : (j : Int) < 8 := by omega
        have hj9 : (j : Int) + 1 < 8 := by omega
        have qT : ∀ (w : World) (a : Option Addr) (n c n' c' : Nat), (binOp .eql 49 (.slice a n c) (.slice none n' c')).run Tryz.prog w = .ok (.bool a.isNone) w := fun w a n c n' c' => Lib.run_eql_slice_nil w _ _ a n c n' c' Tryz.underlying49
        have hcv := byte_str c
        rw [hO] at hcv
        obtain ⟨i0, hi, hz0, hz1, hz2⟩ := info_parts infoStr
        have g1' := Lib.hid g1
        have g2' := Lib.hid g2
        have g5' := Lib.hid g5
        have hN' := Lib.hid hN
        have hc' := Lib.hid hc
        have hrow : ((wr.alloc (.cells #[.int .u8 (c.toNat : Int)] 5)).alloc (.cells #[.string O] 9)).ownsRow B 9 1 (.slice ao nq co) nq ((rpS.take k).map sv) := (World.ownsRow.alloc (World.ownsRow.alloc (by rw [← hnq]; rw [hnq]; exact hnq ▸ g4) _) _)
        have g3' := Lib.hid g3
        have hv' := Lib.hid hv
        have hBw : B ≤ wr.heap.size := by have := hbw'.out.size; rw [hB'.out] at this; exact this
        clear g1 g2 g3 g4 g5 hrv hv hIn hN hc
        rw [hji]
        go_wp2_with (at_builtin; refine wpList_append_own _ rfl _ _ 104 rfl B 9 i0 (.string ⟨#[]⟩) 1 16 Tryz.underlying104 hi hz0 hz1 hz2 rfl (by decide) _ nq _ rfl hrow ⟨wr.heap.size + 1, 0, none⟩ 1 1 [.string O] rfl rfl (fun jj u hj => ?c1) (fun u hu => ?c2) ?c4 ?c5 ?c6 ?c3)
        case c1 =>
          have hj0 : jj = 0 ∧ u = .string O := by
            match jj, hj with
            | 0, hj => simp at hj; exact ⟨rfl, hj.symm⟩
          obtain ⟨rfl, rfl⟩ := hj0
          have h := Lib.cell_of_heap (heap_alloc_new (wr.alloc (.cells #[.int .u8 (c.toNat : Int)] 5)) (.cells #[.string O] 9)) 0
          rw [show (wr.alloc (.cells #[.int .u8 (c.toNat : Int)] 5)).heap.size = wr.heap.size + 1 by simp] at h
          exact h
        case c2 => simp at hu; rw [hu]; rfl
        case c4 => unfold maxLen; omega
        case c5 => omega
        case c6 => simp; omega
        case c3 =>
          intro v' w' hown' hg' _
          have g1w : w'.heap[Z]? = some (.cells cs 146 (0, 0)) := grown_type hrow hg' (alloc_kept (alloc_kept g1'.out _) _) bsr_ne_str
          have hkeep : ∀ (g : Nat) (bs : Array Value) (fr : Nat × Nat), wr.heap[g]? = some (.cells bs 5 fr) → w'.heap[g]? = some (.cells bs 5 fr) := fun g bs fr hgg => grown_type hrow hg' (alloc_kept (alloc_kept hgg _) _) u8_ne_str
          have hownS : SOwn B v' (rpS.take (k + 1)) w' := by
            unfold SOwn
            rw [rpS_take k hlt, List.length_append, List.length_singleton, List.map_append, hnq, hc'.out]
            have : [sv [c]] = [Value.string O] := by rw [← hO]; rfl
            rw [List.map_cons, List.map_nil, this, List.map_take]
            exact hown'
          have hbw2 : Below B W0 w' := ((hbw'.out.alloc hBw _).alloc (by simp; omega) _).grown hg' (by simp; omega) (fun i hi => by
            obtain ⟨h1, _⟩ := hrow.lt i hi
            exact h1)
          have f0 : ∀ i, w'.frozen? ⟨Z, i, none⟩ = false := fun i => Lib.frozen_of_heap g1w i
          have f1 : w'.frozen? ⟨Z, 256, none⟩ = false := f0 _
          have y1 : w'.cell? ⟨Z, 256, none⟩ = some (.slice ao nq co) := by rw [Lib.cell_of_heap g1w]; exact g3'.out
          have y2 : w'.cell? ⟨Z, c.toNat, none⟩ = some (.slice none 0 0) := by rw [Lib.cell_of_heap g1w]; exact hv'.out
          obtain ⟨ao', co', rfl⟩ := ownsRow_form hown'
          obtain ⟨cap, C, hconv, hC, hCs⟩ := Ch.bytes_new (w'.setCell ⟨Z, 256, none⟩ (.slice ao' (nq + 1) co')) N
          obtain ⟨w6, hw6⟩ : ∃ w6, (w'.setCell ⟨Z, 256, none⟩ (.slice ao' (nq + 1) co')).drew.alloc (.cells C 5 (C.size, C.size + 1)) = w6 := ⟨_, rfl⟩
          have hb6 : Below (w'.setCell ⟨Z, 256, none⟩ (.slice ao' (nq + 1) co')).heap.size (w'.setCell ⟨Z, 256, none⟩ (.slice ao' (nq + 1) co')) w6 := by
            rw [← hw6]
            exact Below.alloc (Below.drew (Below.refl _ _)) (by simp) _
          have hG : w6.heap[w'.heap.size]? = some (.cells C 5 (C.size, C.size + 1)) := by
            rw [← hw6]
            have := heap_alloc_new (w'.setCell ⟨Z, 256, none⟩ (.slice ao' (nq + 1) co')).drew (.cells C 5 (C.size, C.size + 1))
            rw [show (w'.setCell ⟨Z, 256, none⟩ (.slice ao' (nq + 1) co')).drew.heap.size = w'.heap.size by simp] at this
            exact this
          have hstep := Lib.hid (BR.step (cap := cap) (G := w'.heap.size) hlt g1w g2'.out hownS g5'.out hkeep hb6 hG (fun jj x hx => by
            rw [hc'.out] at hx
            have hd : N.data.toList = esc c := by rw [← hN'.out]
            rw [← hd, Array.getElem?_toList] at hx
            obtain ⟨h1, h2⟩ := Array.getElem?_eq_some_iff.1 hx
            rw [hC jj h1, h2]))
          rw [hw6] at hconv
          rw [show (w'.setCell ⟨Z, 256, none⟩ (.slice ao' (nq + 1) co')).heap.size = w'.heap.size by simp] at hconv
          have h6Z : w6.heap[Z]? = _ := (hb6.block Z (by simpa using (Array.getElem?_eq_some_iff.1 g1w).1)).trans (Joins.block_setCell g1w _)
          have hb66 := Lib.hid hb6
          have f6 : w6.frozen? ⟨Z, c.toNat, none⟩ = false := Lib.frozen_of_heap h6Z _
          have y6 : w6.cell? ⟨Z, c.toNat, none⟩ = some (.slice none 0 0) := by
            rw [Lib.cell_of_heap h6Z, Array.getElem?_setIfInBounds_ne (by omega)]; exact hv'.out
          have hbw2' := Lib.hid hbw2
          clear hw6 hG h6Z hb6 hownS hown' hg' hkeep hC hCs hbw2 hi hz0 hz1 hz2 hrow g1w
          go_wp2_with fail
          go_roundw
          case rel =>
            refine ⟨k + 1, by omega, ?_, ?_, ?_⟩
            · rw [show (j : Int) - 2 = 6 - 2 * ((k + 1 : Nat) : Int) by omega]
            · have h := hstep.out
              have hl : (esc (rpO k)).length = N.size := by rw [← hN'.out, hc'.out]; rfl
              rw [hl, hc'.out] at h
              exact h
            · refine Below.setCell (p := ⟨Z, c.toNat, none⟩) ?_ hZ1 _
              exact (hbw2'.out.setCell (p := ⟨Z, 256, none⟩) hZ1 _).trans (hb66.out.mono (by have := hbw2'.out.size; rw [hB'.out] at this; simpa using this))
          case measure => simp [RowKit.intOf]; omega
      · have hk4 : k = 4 := by omega
        subst hk4
        go_wp2
        go_ret
        exact ⟨Z, rfl, by rw [hB'.out]; exact hZ1, by rw [hB'.out]; exact hbr'.out, by rw [hB'.out]; exact hbw'.out⟩
end Go.Proofs.YtjeagjleolmibaaGreatDoor.Xm

/-
  WALKS OF A byteStringReplacer's Replace AT THIS DUMP: what escape makes of a text.
-/
set_option linter.unusedVariables false
namespace Go.Proofs.YtjeagjleolmibaaGreatDoor.Xm
open Go.Lib Go.RowKit

/-! ### plain -/
def cntK (t : Row) (k : Nat) : Nat := t.count (rpO k) * ((esc (rpO k)).length - 1)
def sumK (t : Row) : Nat → Nat
  | 0 => 0
  | k + 1 => sumK t k + cntK t k
def anyK (t : Row) : Nat → Bool
  | 0 => false
  | k + 1 => anyK t k || decide (t.count (rpO k) ≠ 0)
theorem escT_cons (c : UInt8) (t : Row) : escT (c :: t) = esc c ++ escT t := by simp [escT]
theorem cnt_cons (c : UInt8) (t : Row) (k : Nat) : cntK (c :: t) k = cntK t k + (if c = rpO k then (esc (rpO k)).length - 1 else 0) := by
  unfold cntK
  rw [List.count_cons, Nat.add_mul]
  by_cases h : c = rpO k
  · rw [if_pos h, if_pos (beq_iff_eq.2 h), Nat.one_mul]
  · rw [if_neg h, if_neg (fun e => h (beq_iff_eq.1 e)), Nat.zero_mul]
theorem esc_sum (c : UInt8) : (esc c).length = 1 + ((if c = rpO 0 then (esc (rpO 0)).length - 1 else 0) + (if c = rpO 1 then (esc (rpO 1)).length - 1 else 0) + (if c = rpO 2 then (esc (rpO 2)).length - 1 else 0) + (if c = rpO 3 then (esc (rpO 3)).length - 1 else 0)) :=
  Ch.byte_all (P := fun c => (esc c).length = 1 + ((if c = rpO 0 then (esc (rpO 0)).length - 1 else 0) + (if c = rpO 1 then (esc (rpO 1)).length - 1 else 0) + (if c = rpO 2 then (esc (rpO 2)).length - 1 else 0) + (if c = rpO 3 then (esc (rpO 3)).length - 1 else 0))) (by decide +kernel) c
theorem sum_all : ∀ (t : Row), (escT t).length = t.length + sumK t 4
  | [] => by
    show 0 = 0 + sumK [] 4
    simp [sumK, cntK]
  | c :: t => by
    have ih := sum_all t
    have h1 := esc_sum c
    have h2 := cnt_cons c t 0
    have h3 := cnt_cons c t 1
    have h4 := cnt_cons c t 2
    have h5 := cnt_cons c t 3
    rw [escT_cons, List.length_append, List.length_cons]
    simp only [sumK] at ih ⊢
    omega
theorem esc_same (c : UInt8) (h : ∀ k, k < 4 → c ≠ rpO k) : esc c = [c] := by
  have h0 := h 0 (by decide)
  have h1 := h 1 (by decide)
  have h2 := h 2 (by decide)
  have h3 := h 3 (by decide)
  have e0 : rpO 0 = 13 := rfl
  have e1 : rpO 1 = 62 := rfl
  have e2 : rpO 2 = 60 := rfl
  have e3 : rpO 3 = 38 := rfl
  unfold esc
  rw [if_neg (by rw [← e3]; exact h3), if_neg (by rw [← e2]; exact h2), if_neg (by rw [← e1]; exact h1), if_neg (by rw [← e0]; exact h0)]
theorem escT_same : ∀ (t : Row), (∀ c ∈ t, esc c = [c]) → escT t = t
  | [], _ => rfl
  | c :: t, h => by
    rw [escT_cons, h c (by simp), escT_same t (fun x hx => h x (by simp [hx]))]; rfl
theorem any_none (t : Row) (h : anyK t 4 = false) : escT t = t := by
  simp only [anyK, Bool.false_or, Bool.or_eq_false_iff, decide_eq_false_iff_not, Classical.not_not] at h
  obtain ⟨⟨⟨h0, h1⟩, h2⟩, h3⟩ := h
  refine escT_same t fun c hc => esc_same c fun k hk e => ?_
  have : t.count (rpO k) ≠ 0 := by
    rw [← e]
    exact Nat.ne_of_gt (List.count_pos_iff.2 hc)
  match k, hk with
  | 0, _ => exact this h0
  | 1, _ => exact this h1
  | 2, _ => exact this h2
  | 3, _ => exact this h3
theorem sum_le (t : Row) (k : Nat) : sumK t k ≤ t.length * 4 * k := by
  induction k with
  | zero => exact Nat.zero_le _
  | succ k ih =>
    have h1 : t.count (rpO k) ≤ t.length := List.count_le_length
    have h2 : (esc (rpO k)).length - 1 ≤ 4 := by have := esc_len (rpO k); omega
    have h3 : cntK t k ≤ t.length * 4 := Nat.mul_le_mul h1 h2
    rw [Nat.mul_succ]
    show sumK t k + cntK t k ≤ _
    omega
theorem rpS_at (k : Nat) (hk : k < 4) : rpS[k]? = some [rpO k] := by
  match k, hk with
  | 0, _ => rfl
  | 1, _ => rfl
  | 2, _ => rfl
  | 3, _ => rfl
theorem rpT_old (k : Nat) (hk : k < 4) : rpT 4 (rpO k) = some (esc (rpO k)) := by
  match k, hk with
  | 0, _ => rfl
  | 1, _ => rfl
  | 2, _ => rfl
  | 3, _ => rfl
/-- the table, as it is read -/
structure Tab (w : World) (z : Nat) : Prop where
  q : ∃ g c, w.cell? ⟨z, 256, none⟩ = some (.slice (some ⟨g, 0, none⟩) 4 c) ∧ StrsIn w g rpS
  v : ∀ c : UInt8, (esc c = [c] ∧ w.cell? ⟨z, c.toNat, none⟩ = some (.slice none 0 0)) ∨ (esc c ≠ [c] ∧ ∃ g cap, w.cell? ⟨z, c.toNat, none⟩ = some (.slice (some ⟨g, 0, none⟩) (esc c).length cap) ∧ g < w.heap.size ∧ ∀ (j : Nat) (x : UInt8), (esc c)[j]? = some x → w.cell? ⟨g, j, none⟩ = some (.int .u8 (x.toNat : Int)))
  lt : z < w.heap.size
theorem Tab.kept {w w' : World} {z : Nat} (h : Tab w z) (hb : Below w.heap.size w w') : Tab w' z := by
  obtain ⟨⟨g, c, h1, h2⟩, hv, hl⟩ := h
  refine ⟨⟨g, c, (hb.cell (p := ⟨z, 256, none⟩) hl).trans h1, h2.kept hb⟩, fun x => ?_, Nat.lt_of_lt_of_le hl hb.size⟩
  rcases hv x with ⟨e, hx⟩ | ⟨ne, g, cap, hx, hg, hc⟩
  · exact .inl ⟨e, (hb.cell (p := ⟨z, x.toNat, none⟩) hl).trans hx⟩
  · exact .inr ⟨ne, g, cap, (hb.cell (p := ⟨z, x.toNat, none⟩) hl).trans hx, Nat.lt_of_lt_of_le hg hb.size, fun j y hj => (hb.cell (p := ⟨g, j, none⟩) hg).trans (hc j y hj)⟩
theorem BR.tab {B z : Nat} {w : World} (h : BR B z 4 w) : Tab w z := by
  obtain ⟨cs, q, h1, h2, h3, h4, h5⟩ := h
  refine ⟨?_, fun c => ?_, (Array.getElem?_eq_some_iff.1 h1).1⟩
  · obtain ⟨g, c, rfl, _, hs⟩ := SOwn.in h4
    exact ⟨g, c, by rw [Lib.cell_of_heap h1]; exact h3, hs⟩
  · obtain ⟨v, hv, hr⟩ := h5 c
    rw [rpT_all] at hr
    by_cases he : esc c = [c]
    · rw [if_pos he] at hr
      have hr : v = .slice none 0 0 := hr
      subst hr
      exact .inl ⟨he, by rw [Lib.cell_of_heap h1]; exact hv⟩
    · rw [if_neg he] at hr
      obtain ⟨g, cap, bs, fr, rfl, hg, hc⟩ := hr
      exact .inr ⟨he, g, cap, by rw [Lib.cell_of_heap h1]; exact hv, (Array.getElem?_eq_some_iff.1 hg).1, fun j x hj => by rw [Lib.cell_of_heap hg]; exact hc j x hj⟩
theorem take_cons {t : Row} {i : Nat} (h : i < t.length) : t.take (i + 1) = t.take i ++ [t[i]] := by
  rw [List.take_add_one, List.getElem?_eq_getElem h]; rfl
/-- how long what is told of a text is, and whether it is the text, byte by byte -/
def lenI (t : Row) (i : Nat) : Nat := (escT (t.take i)).length
theorem lenI_ge (t : Row) (i : Nat) (h : i ≤ t.length) : i ≤ lenI t i := by
  unfold lenI
  rw [sum_all, List.length_take]; omega
theorem lenI_succ {t : Row} {i : Nat} (h : i < t.length) : lenI t (i + 1) = lenI t i + (esc t[i]).length := by
  unfold lenI
  rw [escT_take t i h, List.length_append]
theorem lenI_le (t : Row) (i : Nat) : lenI t i ≤ (escT t).length := escT_len_take t i
theorem lenI_all (t : Row) : lenI t t.length = (escT t).length := by unfold lenI; rw [List.take_length]
/-- what escape's text is made of -/
def RepP (s : ByteArray) (e : Ending) : Prop := e = .returned (.string ⟨(escT s.data.toList).toArray⟩)

end Go.Proofs.YtjeagjleolmibaaGreatDoor.Xm
