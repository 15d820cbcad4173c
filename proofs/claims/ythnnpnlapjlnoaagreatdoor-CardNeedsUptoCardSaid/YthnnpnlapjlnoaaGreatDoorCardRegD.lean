/-
  THE LAW CardNeeds' REGION THAT DRAWS ITS ORDER: what holds while its operations come up (for RegInv).
-/
import Derived.Test.YthnnpnlapjlnoaaGreatDoorRegRow
import Derived.Test.YthnnpnlapjlnoaaGreatDoorMg23
import Derived.Test.YthnnpnlapjlnoaaGreatDoorCardStep
import Derived.Test.YthnnpnlapjlnoaaGreatDoorCardPlainN
set_option linter.unusedVariables false
namespace Go.Proofs.YthnnpnlapjlnoaaGreatDoor.Ca
open Go.Lib Go.RowKit Rg
open Li (LD PD sv LineAt PrmsAt)

theorem one_cells {w : World} {g : Nat} {x0 x1 x2 x3 : Value} (h : w.heap[g]? = some (.cells #[x0, x1, x2, x3] 41 (0, 0))) : ∀ t x, ([x0, x1, x2, x3] : List Value)[t]? = some x → w.cell? ⟨g, 0 + t, none⟩ = some x := fun t x hx => by
  rw [Lib.cell_of_heap h, Nat.zero_add]
  match t, hx with
  | 0, hx => simpa using hx
  | 1, hx => simpa using hx
  | 2, hx => simpa using hx
  | 3, hx => simpa using hx
theorem prms_nil (w : World) : PrmsAt w (.slice none 0 0) [] := ⟨none, 0, 0, 0, rfl, Nat.le_refl _, by unfold maxLen; omega, fun h => absurd h (by simp), fun j p hj => by simp at hj⟩
theorem Mix.storedNe {B : Nat} {v : Value} {Ls : List LD} {wp w : World} (h : Mix B v Ls wp w) {a : Addr} (ha : ∀ g, v.ownBlock = some g → g ≠ a.block) (hw : wp.heap.size ≤ a.block) (u : Value) : Mix B v Ls wp (w.setCell a u) := by
  obtain ⟨vs, h1, ⟨h2, h2'⟩, h3, h4, h5⟩ := h
  refine ⟨vs, h1, ⟨h2, ?_⟩, h3, h4.setCell hw _, h5⟩
  rcases h2' with h | ⟨g, cap, cur, e1, e2, e3, e4⟩
  · exact .inl h
  · refine .inr ⟨g, cap, cur, e1, e2, ?_, e4⟩
    rw [Below.heap_setCell _ _ _ _ (ha g (by rw [e1]; rfl))]
    exact e3

def slots15 : List Nat := [66, 67, 68, 69, 70, 71, 72, 73, 74, 75, 76, 77, 78, 79, 11]
def m15 (q : Row) : Value := .agg #[.string ⟨#[]⟩, sv q, .slice none 0 0, sv v40]
structure N15 (q : Row) (bx b off n c : Nat) (z : Int) (r : Nat) (Ls : List LD) (w9 : World) (g70 g77 g11 : Nat) (rv : Value) (d : Nat → Bool) (u : Nat → Value) (w : World) : Prop where
  bel : Below w9.heap.size w9 w
  c3 : d 3 = true → d 0 = true
  c8 : d 8 = true → d 4 = true
  c10 : d 10 = true → d 9 = true
  c11 : d 11 = true → d 10 = true
  c12 : d 12 = true → d 3 = true ∧ d 11 = true
  c13 : d 13 = true → d 12 = true
  c15 : d 15 = true → d 13 = true
  c15b : d 15 = true → d 14 = true
  f1 : d 1 = true → u 67 = .pointer (some ⟨bx, 0, none⟩)
  f2 : d 2 = true → u 68 = .slice (some ⟨b, off, none⟩) n c
  f4 : d 4 = true → u 70 = .slice (some ⟨g70, 0, none⟩) 3 3
  m4 : d 4 = true → d 9 = false → w9.heap.size ≤ g70 ∧ w.heap[g70]? = some (.cells #[.string ⟨#[66, 69, 71, 73, 78]⟩, .string ⟨#[101, 110, 100]⟩, .string ⟨#[86, 101, 114, 115, 105, 111, 110]⟩] 9 (0, 0)) ∧ (d 0 = true → rv.ownBlock ≠ some g70)
  f5 : d 5 = true → u 71 = .int .i64 z
  f6 : d 6 = true → u 72 = .int .u64 (IntKind.u64.wrap z)
  f7 : d 7 = true → u 73 = .int .u64 (r : Int)
  f8 : d 8 = true → u 74 = .pointer (some ⟨g70, r, none⟩)
  f9 : d 9 = true → u 75 = sv q
  f10 : d 10 = true → u 76 = m15 q
  f11 : d 11 = true → d 12 = false → u 77 = .slice (some ⟨g77, 0, none⟩) 1 1 ∧ w9.heap.size ≤ g77 ∧ w.heap[g77]? = some (.cells #[.string ⟨#[]⟩, sv q, .slice none 0 0, sv v40] 41 (0, 0)) ∧ (d 0 = true → rv.ownBlock ≠ some g77)
  f0 : d 0 = true → d 3 = false → u 66 = rv ∧ Mix w9.heap.size rv [] w9 w
  f3 : d 3 = true → d 12 = false → u 69 = rv ∧ Mix w9.heap.size rv Ls w9 w
  f12 : d 12 = true → u 78 = rv ∧ Mix w9.heap.size rv (Ls ++ [bare q v40]) w9 w
  f13 : d 13 = true → u 79 = .agg #[rv]
  f14 : d 14 = true → u 11 = .pointer (some ⟨g11, 0, none⟩) ∧ w9.heap.size ≤ g11 ∧ w.heap[g11]? = some (.cells #[bif d 15 then rv else .slice none 0 0] 25 (0, 0)) ∧ (d 0 = true → rv.ownBlock ≠ some g11)
def I15 (q : Row) (bx b off n c : Nat) (z : Int) (r : Nat) (Ls : List LD) (w9 : World) (d : Nat → Bool) (u : Nat → Value) (w : World) : Prop := ∃ g70 g77 g11 rv, N15 q bx b off n c z r Ls w9 g70 g77 g11 rv d u w

section
variable {q : Row} {bx b off n c : Nat} {z : Int} {r : Nat} {Ls : List LD} {w9 : World} {g70 g77 g11 : Nat} {rv : Value} {d : Nat → Bool} {u : Nat → Value} {w : World}
theorem N15.kept (h : N15 q bx b off n c z r Ls w9 g70 g77 g11 rv d u w) {w' : World} (hb : Below w.heap.size w w') : N15 q bx b off n c z r Ls w9 g70 g77 g11 rv d u w' :=
  { h with
    bel := belowThen h.bel hb
    m4 := fun h1 h2 => have k := h.m4 h1 h2; ⟨k.1, Li.blk_below hb k.2.1, k.2.2⟩
    f11 := fun h1 h2 => have k := h.f11 h1 h2; ⟨k.1, k.2.1, Li.blk_below hb k.2.2.1, k.2.2.2⟩
    f0 := fun h1 h2 => have k := h.f0 h1 h2; ⟨k.1, k.2.kept hb⟩
    f3 := fun h1 h2 => have k := h.f3 h1 h2; ⟨k.1, k.2.kept hb⟩
    f12 := fun h1 => have k := h.f12 h1; ⟨k.1, k.2.kept hb⟩
    f14 := fun h1 => have k := h.f14 h1; ⟨k.1, k.2.1, Li.blk_below hb k.2.2.1, k.2.2.2⟩ }
theorem N15.row (h : N15 q bx b off n c z r Ls w9 g70 g77 g11 rv d u w) (h0 : d 0 = true) : ∀ g, rv.ownBlock = some g → g < w.heap.size := by
  intro g hg
  have key : ∀ Ms, Mix w9.heap.size rv Ms w9 w → g < w.heap.size := fun Ms hm => by
    obtain ⟨vs, _, h2, _⟩ := hm
    exact (h2.lt g hg).2
  cases h3 : d 3 with
  | false => exact key _ (h.f0 h0 h3).2
  | true =>
    cases h12 : d 12 with
    | false => exact key _ (h.f3 h3 h12).2
    | true => exact key _ (h.f12 h12).2
theorem N15.start (h : Below w9.heap.size w9 w) : N15 q bx b off n c z r Ls w9 g70 g77 g11 rv (fun _ => false) u w :=
  ⟨h, nofun, nofun, nofun, nofun, nofun, nofun, nofun, nofun, nofun, nofun, nofun, nofun, nofun, nofun, nofun, nofun, nofun, nofun, nofun, nofun, nofun, nofun, nofun, nofun⟩
theorem row_new {rv : Value} {W : World} {Ms : List LD} {B : Nat} {wp : World} (h : Mix B rv Ms wp W) {g : Nat} (hg : rv.ownBlock = some g) : g < W.heap.size := by
  obtain ⟨vs, _, h2, _⟩ := h
  exact (h2.lt g hg).2
end

end Go.Proofs.YthnnpnlapjlnoaaGreatDoor.Ca
