/-
  A cache and its disk, told by what they hold alone.
-/
import Derived.Test.YtmbhjheoomlggaaCaHeld
namespace Go.Proofs.Ytmbhjheoomlggaa
open Go Go.Proofs Go.RowKit Go.Shelf
structure Kb where
  num : Int
  pins : Nat
  dirty : Bool
  dat : List Int
def Pl.kb (x : Pl) : Kb := ⟨x.num, x.pins, x.dirty, x.dat⟩
def Kb.idle (x : Kb) : Bool := decide (x.pins = 0) && !x.dirty
def shkN : Nat → List Kb → List Kb
  | 0, L => L
  | _ + 1, [] => []
  | n + 1, x :: r => if x.idle = true then shkN n r else x :: shkN (n + 1) r
def shk (size : Nat) (L : List Kb) : List Kb := shkN (L.length - size) L
theorem shk_map (size : Nat) (L : List Pl) : (shrL size L).map Pl.kb = shk size (L.map Pl.kb) := by
  have h : ∀ (L : List Pl) (n : Nat), (shrN n L).map Pl.kb = shkN n (L.map Pl.kb) := by
    intro L
    induction L with
    | nil => intro n; cases n <;> rfl
    | cons x L ih =>
      intro n
      cases n with
      | zero => rfl
      | succ n =>
        rw [List.map_cons, shrN, shkN]
        have e : x.kb.idle = x.idle := rfl
        rw [e]
        split
        · exact ih n
        · rw [List.map_cons, ih]
  unfold shrL shk
  rw [h, List.length_map]
theorem shkN_sub (n : Nat) (L : List Kb) : (shkN n L).Sublist L := by
  induction L generalizing n with
  | nil => cases n <;> exact List.Sublist.refl _
  | cons x L ih =>
    cases n with
    | zero => exact List.Sublist.refl _
    | succ n =>
      rw [shkN]
      split
      · exact (ih n).cons x
      · exact (ih (n + 1)).cons_cons x
theorem shk_sub (size : Nat) (L : List Kb) : (shk size L).Sublist L := shkN_sub _ _
/-- A cache lies at c, its disk at dd, all their blocks in F. -/
def CdAt (F : Nat → Prop) (W : World) (c dd size : Nat) (reads : Int) (ks : List Kb) (s : Dk.DS) : Prop :=
  ∃ (Fc Fd : Nat → Prop) (m : Nat) (L : List Pl), CaAt Fc W c m (ptV dd) size reads L ∧ Dk.DiskAt Fd W dd s ∧ L.map Pl.kb = ks ∧ (∀ k, Fc k → ¬ Fd k) ∧ (∀ k, Fc k → F k ∧ k < W.heap.size) ∧ (∀ k, Fd k → F k ∧ k < W.heap.size)
section
variable {F : Nat → Prop} {w W W' : World} {c dd size : Nat} {reads : Int} {ks : List Kb} {s : Dk.DS}
theorem CdAt.only {S : Nat → Prop} (h : CdAt F W c dd size reads ks s) (ho : Only S W W') (hS : ∀ k, k < W.heap.size → F k → ¬ S k) : CdAt F W' c dd size reads ks s := by
  obtain ⟨Fc, Fd, m, L, h1, h2, h3, h4, h5, h6⟩ := h
  exact ⟨Fc, Fd, m, L, h1.only ho (fun k hk hf => hS k hk (h5 k hf).1), h2.only ho (fun k hk hf => hS k hk (h6 k hf).1), h3, h4, fun k hk => ⟨(h5 k hk).1, Nat.lt_of_lt_of_le (h5 k hk).2 ho.size⟩, fun k hk => ⟨(h6 k hk).1, Nat.lt_of_lt_of_le (h6 k hk).2 ho.size⟩⟩
theorem CdAt.below (h : CdAt F W c dd size reads ks s) (hb : Below W.heap.size W W') : CdAt F W' c dd size reads ks s := h.only (Only.of_new (fun _ => False) hb) (fun _ _ _ h => h)
theorem CdAt.drew (h : CdAt F W c dd size reads ks s) : CdAt F W.drew c dd size reads ks s := h.only (Only.refl (fun _ => False) W).drew (fun _ _ _ h => h)
theorem CdAt.mono {H : Nat → Prop} (h : CdAt F W c dd size reads ks s) (hk : ∀ k, k < W.heap.size → F k → H k) : CdAt H W c dd size reads ks s := by
  obtain ⟨Fc, Fd, m, L, h1, h2, h3, h4, h5, h6⟩ := h
  exact ⟨Fc, Fd, m, L, h1, h2, h3, h4, fun k h => ⟨hk k (h5 k h).2 (h5 k h).1, (h5 k h).2⟩, fun k h => ⟨hk k (h6 k h).2 (h6 k h).1, (h6 k h).2⟩⟩
theorem CdAt.trim (h : CdAt F W c dd size reads ks s) : CdAt (fun k => F k ∧ k < W.heap.size) W c dd size reads ks s := h.mono (fun _ hl h => ⟨h, hl⟩)
theorem CdAt.nums (h : CdAt F W c dd size reads ks s) : (ks.map (·.num)).Nodup := by
  obtain ⟨Fc, Fd, m, L, h1, _, rfl, _⟩ := h
  have := h1.nn
  rw [List.map_map]
  exact this
theorem CdAt.dats (h : CdAt F W c dd size reads ks s) : ∀ x ∈ ks, x.dat.length = 1024 := by
  obtain ⟨Fc, Fd, m, L, h1, _, rfl, _⟩ := h
  intro x hx
  obtain ⟨y, hy, rfl⟩ := List.mem_map.1 hx
  exact (h1.held y hy).len
end
/-! the calls, told by what is held -/
def fndK (ks : List Kb) (n : Int) : Option Kb := ks.find? (fun x => x.num == n)
def gotK (s : Dk.DS) (ks : List Kb) (n : Int) : Option Kb := match fndK ks n with
  | some x => some x
  | none => if (Dk.hasB s n && !s.dead) = true then some ⟨n, 0, false, blkL s n⟩ else none
def rdK (ks : List Kb) (reads : Int) (n : Int) : Int := if (fndK ks n).isSome = true then reads else reads + 1
def Kb.by (x : Kb) (pins : Nat) (dirty : Bool) : Kb := { x with pins := pins, dirty := dirty }
def getL (size : Nat) (ks : List Kb) (x : Kb) : List Kb := shk size (ks.filter (fun y => y.num != x.num) ++ [x.by (x.pins + 1) x.dirty])
def updK (ks : List Kb) (x : Kb) : List Kb := ks.map (fun y => if y.num = x.num then x else y)
theorem split_kb {L : List Pl} {n : Int} : (fndK (L.map Pl.kb) n = none ∧ ∀ y ∈ L, y.num ≠ n) ∨ ∃ A x B, L = A ++ x :: B ∧ x.num = n ∧ ((L.map (·.num)).Nodup → fndK (L.map Pl.kb) n = some x.kb) := by
  rcases find_split (L := L) (n := n) with ⟨h1, h2⟩ | ⟨A, x, B, rfl, rfl⟩
  · left
    refine ⟨?_, h2⟩
    unfold fndK
    rw [List.find?_map, show ((fun x : Kb => x.num == n) ∘ Pl.kb) = (fun y : Pl => y.num == n) from rfl, h1]
    rfl
  · right
    refine ⟨A, x, B, rfl, rfl, fun hn => ?_⟩
    unfold fndK
    rw [List.find?_map, show ((fun y : Kb => y.num == x.num) ∘ Pl.kb) = (fun y : Pl => y.num == x.num) from rfl, find_at hn]
    rfl
theorem num_ne {A B : List Pl} {x : Pl} (hn : ((A ++ x :: B).map (·.num)).Nodup) : ∀ y ∈ A ++ B, y.num ≠ x.num := by
  simp only [List.map_append, List.map_cons, List.nodup_append, List.nodup_cons] at hn
  intro y hy
  rcases List.mem_append.1 hy with hy | hy
  · exact hn.2.2 y.num (List.mem_map.2 ⟨y, hy, rfl⟩) x.num (by simp)
  · exact fun e => hn.2.1.1 (e ▸ List.mem_map.2 ⟨y, hy, rfl⟩)
theorem filter_kb {A B : List Pl} {x : Pl} (hn : ((A ++ x :: B).map (·.num)).Nodup) : ((A ++ x :: B).map Pl.kb).filter (fun y => y.num != x.kb.num) = (A ++ B).map Pl.kb := by
  have h := num_ne hn
  have h2 : ∀ M : List Pl, (∀ y ∈ M, y.num ≠ x.num) → (M.map Pl.kb).filter (fun y => y.num != x.kb.num) = M.map Pl.kb := fun M hM => by
    rw [List.filter_eq_self]
    intro y hy
    obtain ⟨z, hz, rfl⟩ := List.mem_map.1 hy
    simpa [Pl.kb] using hM z hz
  rw [List.map_append, List.map_cons, List.filter_append, List.filter_cons, List.map_append, h2 A (fun y hy => h y (by simp [hy])), h2 B (fun y hy => h y (by simp [hy]))]
  simp
theorem upd_kb {A B : List Pl} {x x' : Pl} (hn : ((A ++ x :: B).map (·.num)).Nodup) (hx : x'.num = x.num) : updK ((A ++ x :: B).map Pl.kb) x'.kb = (A ++ x' :: B).map Pl.kb := by
  have h := num_ne hn
  have h2 : ∀ M : List Pl, (∀ y ∈ M, y.num ≠ x.num) → updK (M.map Pl.kb) x'.kb = M.map Pl.kb := fun M hM => by
    unfold updK
    rw [List.map_map]
    refine List.map_congr_left (fun y hy => ?_)
    have := hM y hy
    simp [Pl.kb, hx, this]
  unfold updK at h2 ⊢
  rw [List.map_append, List.map_cons, List.map_append, List.map_cons, List.map_append, List.map_cons, h2 A (fun y hy => h y (by simp [hy])), h2 B (fun y hy => h y (by simp [hy])), if_pos (show x.kb.num = x'.kb.num from hx.symm)]
section
variable {F : Nat → Prop} {w : World} {c dd size : Nat} {reads : Int} {ks : List Kb} {s : Dk.DS}
structure Fine (reads : Int) (ks : List Kb) (s : Dk.DS) : Prop where
  img : s.img.length ≤ 20480000
  r0 : 0 ≤ reads
  r1 : reads ≤ 1000000
  len : ks.length < 1000000
  pins : ∀ x ∈ ks, x.pins ≤ 1000000
theorem cd_get_yes (h : CdAt F w c dd size reads ks s) (n : Int) (hw : (Lit.int .i64 n).wf = true) (hf : Fine reads ks s) (x : Kb) (hx : gotK s ks n = some x) :
    Calls Try.prog 12 #[ptV c, .int .i64 n] w fun e w' => ∃ g cap, e = .returned (.tuple #[.slice (some ⟨g, 0, none⟩) 1024 cap, .bool true]) ∧ w.heap.size ≤ g ∧ w'.ownsRow w.heap.size 5 1 (.slice (some ⟨g, 0, none⟩) 1024 cap) 1024 (By x.dat) ∧
      CdAt (fun k => (F k ∨ w.heap.size ≤ k) ∧ k ≠ g) w' c dd size (rdK ks reads n) (getL size ks x) s ∧ Only F w w' := by
  obtain ⟨Fc, Fd, m, L, h1, h2, rfl, h4, h5, h6⟩ := h
  have fin : ∀ (e : Ending) (w' : World) (r : Int), (∃ F' r' A B y, (r' = r ∧ (∀ k, F' k → Fc k ∨ w.heap.size ≤ k) ∧ y.kb = x ∧ (L.map Pl.kb).filter (fun z => z.num != x.num) = (A ++ B).map Pl.kb) ∧ GotP c m (ptV dd) size w Fc F' r' A B y e w') →
      ∃ g cap, e = .returned (.tuple #[.slice (some ⟨g, 0, none⟩) 1024 cap, .bool true]) ∧ w.heap.size ≤ g ∧ w'.ownsRow w.heap.size 5 1 (.slice (some ⟨g, 0, none⟩) 1024 cap) 1024 (By x.dat) ∧ CdAt (fun k => (F k ∨ w.heap.size ≤ k) ∧ k ≠ g) w' c dd size r (getL size (L.map Pl.kb) x) s ∧ Only F w w' := by
    rintro e w' r ⟨F', r', A, B, y, ⟨rfl, hF, rfl, hfl⟩, g, cap, b, rfl, hb, hg, hown, hC, ho⟩
    have hgl := (hown.lt g rfl).2
    have hs := ho.size
    refine ⟨g, cap, rfl, by omega, owns_base hown hb, ⟨fun k => F' k ∧ k < b, Fd, m, _, hC, h2.only ho (fun k _ hk hf => h4 k hf hk), ?_, ?_, ?_, ?_⟩, ho.mono (fun k _ hk => (h5 k hk).1)⟩
    · rw [shk_map]
      unfold getL
      rw [hfl, List.map_append]
      rfl
    · intro k hk hd
      rcases hF k hk.1 with h | h
      · exact h4 k h hd
      · have := (h6 k hd).2; omega
    · intro k hk
      have hlt := hk.2
      refine ⟨⟨(hF k hk.1).imp (fun h => (h5 k h).1) id, by omega⟩, by omega⟩
    · intro k hk
      have := (h6 k hk).2
      exact ⟨⟨.inl (h6 k hk).1, by omega⟩, by omega⟩
  have hlen := hf.len
  rw [List.length_map] at hlen
  have hpins := hf.pins
  rcases split_kb (L := L) (n := n) with ⟨q1, q2⟩ | ⟨A, y, B, rfl, rfl, q⟩
  · unfold gotK at hx
    rw [q1] at hx
    simp only at hx
    split at hx
    · rename_i hyes
      have hxx : x = ⟨n, 0, false, blkL s n⟩ := by simpa using hx.symm
      have hr : rdK (L.map Pl.kb) reads n = reads + 1 := by unfold rdK; rw [q1]; rfl
      rw [hr]
      refine (get_rest (m := m) (d := ptV dd) size n Fc (fun F' r' A B y => r' = reads + 1 ∧ (∀ k, F' k → Fc k ∨ w.heap.size ≤ k) ∧ y.kb = x ∧ (L.map Pl.kb).filter (fun z => z.num != x.num) = (A ++ B).map Pl.kb) ?_).mono (fun e w' he => fin e w' _ he)
      refine (find_yes Fd dd s L n hw q2 (by omega) h1 h2 h4 hf.img hf.r0 hf.r1 hyes).mono ?_
      rintro e w' ⟨y, rfl, y1, y2, y3, y4, hC, ho⟩
      refine ⟨_, _, L, [], y, ⟨rfl, fun k hk => hk, ?_, ?_⟩, rfl, hC, ho, fun k hk => hk, by simp; omega, by omega⟩
      · rw [hxx]; simp [Pl.kb, y1, y2, y3, y4]
      · rw [hxx, List.append_nil, List.filter_eq_self]
        intro z hz
        obtain ⟨z', hz', rfl⟩ := List.mem_map.1 hz
        simpa [Pl.kb] using q2 z' hz'
    · cases hx
  · have q := q h1.nn
    unfold gotK at hx
    rw [q] at hx
    have hxx : y.kb = x := by simpa using hx
    have hr : rdK ((A ++ y :: B).map Pl.kb) reads y.num = reads := by unfold rdK; rw [q]; rfl
    rw [hr]
    refine (get_rest (m := m) (d := ptV dd) size y.num Fc (fun F' r' A' B' y' => r' = reads ∧ (∀ k, F' k → Fc k ∨ w.heap.size ≤ k) ∧ y'.kb = x ∧ ((A ++ y :: B).map Pl.kb).filter (fun z => z.num != x.num) = (A' ++ B').map Pl.kb) ?_).mono (fun e w' he => fin e w' _ he)
    refine (find_kept A B y h1).mono ?_
    rintro e w' ⟨rfl, rfl⟩
    exact ⟨Fc, reads, A, B, y, ⟨rfl, fun k hk => .inl hk, hxx, by rw [← hxx]; exact filter_kb h1.nn⟩, rfl, h1, Only.refl _ _, fun k hk => .inl hk, by omega, hpins y.kb (List.mem_map.2 ⟨y, by simp, rfl⟩)⟩
set_option maxRecDepth 100000 in
set_option maxHeartbeats 4000000 in
theorem get_none {R : World → Prop} (n : Int) (hfind : Calls Try.prog 28 #[ptV c, .int .i64 n] w fun e w' => e = .returned niV ∧ R w') :
    Calls Try.prog 12 #[ptV c, .int .i64 n] w fun e w' => e = .returned (.tuple #[.slice none 0 0, .bool false]) ∧ R w' := by
  have HFIND := Hid.mk hfind
  clear hfind
  go_enter Try.func12, Try.ntmps12
  go_wp2_with (go_at_call 28; refine HFIND.out.mono ?_; rintro e w1 ⟨rfl, hR⟩; have HR := Hid.mk hR; clear hR HFIND)
  go_ret2
  exact ⟨rfl, HR.out⟩
theorem cd_get_no (h : CdAt F w c dd size reads ks s) (n : Int) (hw : (Lit.int .i64 n).wf = true) (hf : Fine reads ks s) (hx : gotK s ks n = none) :
    Calls Try.prog 12 #[ptV c, .int .i64 n] w fun e w' => e = .returned (.tuple #[.slice none 0 0, .bool false]) ∧ CdAt F w' c dd size (reads + 1) ks s ∧ Only F w w' := by
  obtain ⟨Fc, Fd, m, L, h1, h2, rfl, h4, h5, h6⟩ := h
  rcases split_kb (L := L) (n := n) with ⟨q1, q2⟩ | ⟨A, y, B, rfl, rfl, q⟩
  · unfold gotK at hx
    rw [q1] at hx
    simp only at hx
    split at hx
    · cases hx
    · rename_i hno
      refine (get_none (R := fun w' => CaAt Fc w' c m (ptV dd) size (reads + 1) L ∧ Only Fc w w') n (find_no Fd dd s L n hw q2 h1 h2 h4 hf.img hf.r0 hf.r1 (by simpa using hno))).mono ?_
      rintro e w' ⟨rfl, hC, ho⟩
      have hs := ho.size
      exact ⟨rfl, ⟨Fc, Fd, m, L, hC, h2.only ho (fun k _ hk hf => h4 k hf hk), rfl, h4, fun k hk => ⟨(h5 k hk).1, Nat.lt_of_lt_of_le (h5 k hk).2 hs⟩, fun k hk => ⟨(h6 k hk).1, Nat.lt_of_lt_of_le (h6 k hk).2 hs⟩⟩, ho.mono (fun k _ hk => (h5 k hk).1)⟩
  · have q := q h1.nn
    unfold gotK at hx
    rw [q] at hx
    cases hx
end
end Go.Proofs.Ytmbhjheoomlggaa
