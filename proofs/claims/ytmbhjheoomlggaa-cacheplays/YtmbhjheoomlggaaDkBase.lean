/-
  What a disk is in memory, and what a step may leave untouched: plain definitions and laws on worlds; nothing of the program is named but its types' numbers.
-/
import Derived.Test.YtmbhjheoomlggaaAll
import Derived.WalkKit
import Derived.OneCell
import Derived.Lib.SliceRun
import Derived.Laws.CopyOwn
import Derived.ArgAppend
import Derived.Deep.RegionLaw
import Derived.Shelf.Abstract
namespace Go.RowKit
end Go.RowKit
namespace Go.Proofs.Ytmbhjheoomlggaa
open Go Go.RowKit
namespace Dk
/-! blocks of cells -/
/-! the disk -/
structure DS where
  img : List Int
  log : List (Int × List Int)
  dead : Bool
  cut : Bool
  left : Int
/-- The cells of a log: a sector's number and its bytes in a row of its own. -/
def LogCells (G : Nat → Prop) (W : World) : List Value → List (Int × List Int) → Prop
  | [], [] => True
  | a :: b :: r, x :: l => a = .int .i64 x.1 ∧ b ≠ .slice none 0 0 ∧ W.ownsRow 0 5 1 b x.2.length (By x.2) ∧ (∀ k, b.ownBlock = some k → G k) ∧ LogCells G W r l
  | _, _ => False
def LogAt (G : Nat → Prop) (W : World) (lv : Value) (log : List (Int × List Int)) : Prop :=
  ∃ cells, W.ownsRow 0 81 2 lv log.length cells ∧ (∀ k, lv.ownBlock = some k → G k) ∧ LogCells (fun k => G k ∧ lv.ownBlock ≠ some k) W cells log
def DiskRest (G : Nat → Prop) (W : World) (bi : Nat) (lv : Value) (s : DS) : Prop :=
  G bi ∧ W.heap[bi]? = some (.cells (By s.img).toArray 5 (0, 0)) ∧ LogAt (fun k => G k ∧ k ≠ bi) W lv s.log
def DiskAt (F : Nat → Prop) (W : World) (d : Nat) (s : DS) : Prop :=
  F d ∧ ∃ bi lv, W.heap[d]? = some (.cells #[.slice (some ⟨bi, 0, none⟩) s.img.length s.img.length, lv, .bool s.dead, .bool s.cut, .int .i64 s.left] 55 (0, 0)) ∧
    DiskRest (fun k => F k ∧ k ≠ d) W bi lv s
set_option maxRecDepth 100000 in
theorem LogCells.at {G : Nat → Prop} {W W' : World} : ∀ {cells : List Value} {log : List (Int × List Int)}, LogCells G W cells log → (∀ k, G k → W'.heap[k]? = W.heap[k]?) → LogCells G W' cells log
  | [], [], _, _ => trivial
  | _ :: _ :: _, _ :: _, h, hk => ⟨h.1, h.2.1, owns_at h.2.2.1 (fun k e => hk k (h.2.2.2.1 k e)), h.2.2.2.1, LogCells.at h.2.2.2.2 hk⟩
  | [_], _, h, _ => by simp [LogCells] at h
  | [], _ :: _, h, _ => by simp [LogCells] at h
  | _ :: _ :: _, [], h, _ => by simp [LogCells] at h
set_option maxRecDepth 100000 in
theorem LogCells.mono {G H : Nat → Prop} {W : World} : ∀ {cells : List Value} {log : List (Int × List Int)}, LogCells G W cells log → (∀ k, IsC W k → G k → H k) → LogCells H W cells log
  | [], [], _, _ => trivial
  | _ :: _ :: _, _ :: _, h, hk => ⟨h.1, h.2.1, h.2.2.1, fun k e => hk k (owns_isC h.2.2.1 k e) (h.2.2.2.1 k e), LogCells.mono h.2.2.2.2 hk⟩
  | [_], _, h, _ => by simp [LogCells] at h
  | [], _ :: _, h, _ => by simp [LogCells] at h
  | _ :: _ :: _, [], h, _ => by simp [LogCells] at h
set_option maxRecDepth 100000 in
theorem LogCells.snoc {G : Nat → Prop} {W : World} {a b : Value} {x : Int × List Int} (ha : a = .int .i64 x.1) (hn : b ≠ .slice none 0 0) (hb : W.ownsRow 0 5 1 b x.2.length (By x.2)) (hk : ∀ k, b.ownBlock = some k → G k) :
    ∀ {cells : List Value} {log : List (Int × List Int)}, LogCells G W cells log → LogCells G W (cells ++ [a, b]) (log ++ [x])
  | [], [], _ => ⟨ha, hn, hb, hk, trivial⟩
  | _ :: _ :: _, _ :: _, h => ⟨h.1, h.2.1, h.2.2.1, h.2.2.2.1, LogCells.snoc ha hn hb hk h.2.2.2.2⟩
  | [_], _, h => by simp [LogCells] at h
  | [], _ :: _, h => by simp [LogCells] at h
  | _ :: _ :: _, [], h => by simp [LogCells] at h
set_option maxRecDepth 100000 in
theorem LogAt.at {G : Nat → Prop} {W W' : World} {lv : Value} {log : List (Int × List Int)} (h : LogAt G W lv log) (hk : ∀ k, G k → W'.heap[k]? = W.heap[k]?) : LogAt G W' lv log := by
  obtain ⟨cells, h1, h2, h3⟩ := h
  exact ⟨cells, owns_at h1 (fun k e => hk k (h2 k e)), h2, h3.at (fun k e => hk k e.1)⟩
set_option maxRecDepth 100000 in
theorem LogAt.mono {G H : Nat → Prop} {W : World} {lv : Value} {log : List (Int × List Int)} (h : LogAt G W lv log) (hk : ∀ k, IsC W k → G k → H k) : LogAt H W lv log := by
  obtain ⟨cells, h1, h2, h3⟩ := h
  exact ⟨cells, h1, fun k e => hk k (owns_isC h1 k e) (h2 k e), h3.mono (fun k hs e => ⟨hk k hs e.1, e.2⟩)⟩
theorem DiskRest.at {G : Nat → Prop} {W W' : World} {bi : Nat} {lv : Value} {s : DS} (h : DiskRest G W bi lv s) (hk : ∀ k, G k → W'.heap[k]? = W.heap[k]?) : DiskRest G W' bi lv s :=
  ⟨h.1, (hk bi h.1).trans h.2.1, h.2.2.at (fun k e => hk k e.1)⟩
theorem DiskRest.mono {G H : Nat → Prop} {W : World} {bi : Nat} {lv : Value} {s : DS} (h : DiskRest G W bi lv s) (hk : ∀ k, IsC W k → G k → H k) : DiskRest H W bi lv s :=
  ⟨hk bi ⟨_, _, _, h.2.1⟩ h.1, h.2.1, h.2.2.mono (fun k hs e => ⟨hk k hs e.1, e.2⟩)⟩
theorem DiskAt.at {F : Nat → Prop} {W W' : World} {d : Nat} {s : DS} (h : DiskAt F W d s) (hk : ∀ k, F k → W'.heap[k]? = W.heap[k]?) : DiskAt F W' d s := by
  obtain ⟨h0, bi, lv, h1, h2⟩ := h
  exact ⟨h0, bi, lv, (hk d h0).trans h1, h2.at (fun k e => hk k e.1)⟩
theorem DiskAt.mono {F H : Nat → Prop} {W : World} {d : Nat} {s : DS} (h : DiskAt F W d s) (hk : ∀ k, IsC W k → F k → H k) : DiskAt H W d s := by
  obtain ⟨h0, bi, lv, h1, h2⟩ := h
  exact ⟨hk d ⟨_, _, _, h1⟩ h0, bi, lv, h1, h2.mono (fun k hs e => ⟨hk k hs e.1, e.2⟩)⟩
set_option maxRecDepth 100000 in
/-- A disk abides whatever leaves its blocks alone. -/
theorem DiskAt.only {F S : Nat → Prop} {W W' : World} {d : Nat} {s : DS} (h : DiskAt F W d s) (ho : Only S W W') (hd : ∀ k, k < W.heap.size → F k → ¬ S k) : DiskAt F W' d s := by
  have h' : DiskAt (fun k => F k ∧ k < W.heap.size) W d s := h.mono (fun k hs e => ⟨e, hs.lt⟩)
  exact (h'.at (fun k e => ho.block k e.2 (hd k e.2 e.1))).mono (fun k _ e => e.1)
theorem DiskAt.lt {F : Nat → Prop} {W : World} {d : Nat} {s : DS} (h : DiskAt F W d s) : d < W.heap.size := by
  obtain ⟨h0, bi, lv, h1, h2⟩ := h
  exact lt_of_block h1
end Dk
end Go.Proofs.Ytmbhjheoomlggaa
