/-
  The buffers that have a Next: Ready.
-/
import Derived.Test.YthmbhcmicebcpaaDpWritten
import Derived.Maps.RangeWalk
namespace Go.Proofs.Ythmbhcmicebcpaa
open Go Go.Proofs Go.RowKit Go.Shelf Go.Sort
theorem ranges_at {H : Type} {w w' : World} {P : Program} {k : TypeId} {R : Value → Option (DataW H × List MemPlace)} {b r n : Nat} {D : DataW H} {left : Lit → Bool} {cnt : Nat} (h : w.ranges P k R b r n D left cnt) (hb : w'.heap[b]? = w.heap[b]?) (hr : w'.heap[r]? = w.heap[r]?) : w'.ranges P k R b r n D left cnt := by
  obtain ⟨es, clock, since, seen, c0, h1, h2, h3, h4, h5, h6⟩ := h
  exact ⟨es, clock, since, seen, c0, hb.trans h1, h2, h3, h4, hr.trans h5, h6⟩
/-- A row of ints is sorted. -/
theorem sort_row (w : World) (B : Nat) (v : Value) (L : List Int) (h : w.ownsRow B 3 1 v L.length (Iy L)) (hB : B ≤ w.heap.size) (hl : L.length ≤ 16777216) :
    Calls Try.prog 39 #[v] w fun e w' => e = .returned (.tuple #[]) ∧ w'.ownsRow B 3 1 v L.length (Iy (L.mergeSort fun x y => decide (x ≤ y))) ∧ Below B w w' := by
  have hh := h
  rcases h.2 with ⟨rfl, h0⟩ | ⟨gb, cap, cur, rfl, hbase, hgb, r1, r2, r3, r4⟩
  · have : L = [] := List.eq_nil_of_length_eq_zero h0
    subst this
    refine (AnyM.slices_Sort_int_none sortA none 0 w).mono ?_
    rintro e w' ⟨rfl, rfl⟩
    exact ⟨rfl, by simpa using hh, Below.refl _ _⟩
  · have hH : Holds (Value.int .i64) w gb 0 L.toArray := holds_of_block_i hgb (by simpa [Iy] using r4)
    have hgl : gb < w.heap.size := lt_of_block hgb
    refine (AnyM.slices_Sort_int sortA gb 0 cap L w hH hgl (by omega)).mono ?_
    rintro e w' ⟨rfl, nn, os, rfl⟩
    exact ⟨rfl, ownsRow_sorted_i (by simp) hbase hgb r1 r2 r3, (Below.refl B w).grown (grownBy_sorted_i _) hB (fun j hj => by cases hj; exact hbase)⟩
section
variable {F : Nat → Prop} {w : World} {g : Nat} {D : Gd}
theorem perm_rise {L R : List Int} (hn : L.Nodup) (hR : R.Pairwise (· < ·)) (h : ∀ x, x ∈ L ↔ x ∈ R) : L.mergeSort (fun x y => decide (x ≤ y)) = R := by
  have hp : L.Perm R := (List.perm_ext_iff_of_nodup hn (hR.imp (fun h => Int.ne_of_lt h))).2 h
  rw [mergeSort_of_perm_i hp]
  exact sort_id hR
set_option maxRecDepth 100000 in
set_option maxHeartbeats 4000000 in
theorem ready_any (h : GrAt F w g D) {bmb : Nat} (hbm : D.bm = some bmb) (R : List Int) (hR : Rise R) (hmem : ∀ x, x ∈ R ↔ ∃ bx, D.bf x = some bx ∧ bx.nx ≠ []) (hnb : D.nb ≤ 1000000) :
    Calls Try.prog 22 #[ptV g] w fun e w' => ∃ v, e = .returned v ∧ w'.ownsRow w.heap.size 3 1 v R.length (Iy R) ∧ Below w.heap.size w w' := by
  obtain ⟨_, _, g2, _⟩ := h.cellsG
  rw [hbm] at g2
  have hm : MapAt w D.bm D.nb (bufF D.bf) := h.cont .bufs
  rw [hbm] at hm
  obtain ⟨Dm, hown, hsz, hD⟩ := hm
  have hbl := hown.lt
  have HENT : Hid (∀ (x : Int) (c : Value) (kl : Lit) (y : DataW Value × List MemPlace), keyOf Try.prog 3 (.int .i64 x) = some kl → rawE c = some y → (∀ zd, Dm.atKey kl zd = y.1) → kl = .int .i64 x ∧ ∃ bx, D.bf x = some bx ∧ c = ptV bx.bb) := Hid.mk (fun x c kl y hk hr hat => by
    obtain ⟨x', ex, rfl, hwx⟩ := Maps.keyOf_int_inv Try.underlying3 hk
    cases ex
    refine ⟨rfl, ?_⟩
    obtain ⟨h1, h2⟩ := hD _ _ hk
    have hy := rawE_inv (show rawE c = some (y.1, y.2) from hr)
    cases hb : D.bf x with
    | none =>
      have hf : bufF D.bf (.int .i64 x) = none := by simp [bufF, hb]
      rw [hf] at h1
      have a1 := hat (.held (.bool true))
      have a2 := hat (.held (.bool false))
      rw [Maps.atKey_of_not_has h1] at a1 a2
      rw [← a2] at a1
      cases a1
    | some bx =>
      have hf : bufF D.bf (.int .i64 x) = some (ptV bx.bb) := by simp [bufF, hb]
      have := h2 _ hf (.held (.bool true))
      rw [hat, hy] at this
      cases this
      exact ⟨bx, rfl, rfl⟩)
  have HHAS : Hid (∀ x : Int, (Lit.int .i64 x).wf = true → ∀ bx, D.bf x = some bx → Maps.has Dm (.int .i64 x) = true) := Hid.mk (fun x hw bx hb => by
    rw [(hD _ _ (key_int hw)).1]
    simp [bufF, hb])
  have HH := Hid.mk h
  have HMEM := Hid.mk hmem
  have HR := Hid.mk hR
  clear hD h hmem hR
  go_enter Try.func22, Try.ntmps22
  go_wp2_with (first
    | (at_range; refine wpList_range_own _ rfl _ 58 rfl 3 61 keyed3 Try.underlying58 _ bmb D.nb _ rfl hown ?_; intro w0 hrg0 hg0 hs0)
    | go_in)
  go_frame
  have HB0 : Hid (Below w.heap.size w w0) := Hid.mk (by
    exact ⟨hg0.os, hg0.tape, hg0.output, hg0.size, fun k hk => hg0.block k hk (by simp)⟩)
  go_loopw [3, 4, 5] (fun u _ _ wr => ∃ (left : Lit → Bool) (cnt : Nat) (L : List Int), wr.ranges Try.prog 3 rawE bmb w.heap.size D.nb Dm left cnt ∧ Hid (wr.ownsRow (w.heap.size + 1) 3 1 u L.length (Iy L)) ∧ Hid (Below w.heap.size w wr ∧ w.heap.size + 1 ≤ wr.heap.size) ∧ Hid (L.Nodup ∧ (∀ x, x ∈ L ↔ x ∈ R ∧ left (.int .i64 x) = false) ∧ L.length + cnt ≤ D.nb)) (fun _ _ _ wr => wr.rangeLeft bmb w.heap.size)
  case atStart =>
    refine ⟨_, _, [], hrg0, Hid.mk (World.ownsRow_nil _ _ _ _), Hid.mk ⟨HB0.out, by omega⟩, Hid.mk ⟨List.nodup_nil, fun x => ⟨fun h => (by cases h), fun h => ?_⟩, by simp [hsz]⟩⟩
    exfalso
    obtain ⟨bx, hb, _⟩ := (HMEM.out x).1 h.1
    have := HHAS.out x (HR.out.2 x h.1) bx hb
    rw [h.2] at this
    cases this
  case round =>
    obtain ⟨left, cnt, L, hrg, HOW, HBW, HL⟩ := hrel
    clear hrg0 hg0 hs0 HB0
    go_wp2_with (first
      | (at_next; refine wpList_next_ranges _ rfl _ rfl 3 keyed3 rawE (Value.int .i64) (fun v : Value => v) (fun key kl hk => by obtain ⟨x, rfl, _⟩ := Maps.keyOf_int_inv Try.underlying3 hk; exact ⟨x, rfl⟩) (fun v y _ => ⟨v, rfl⟩) bmb w.heap.size D.nb _ _ _ rfl hrg ?_ ?_)
      | go_in)
    · intro hc0 hl0
      have hs1 := perm_rise HL.out.1 HR.out.1 (fun x => by rw [HL.out.2.1 x]; exact ⟨fun h => h.1, fun h => ⟨h, hl0 _⟩⟩)
      have HSORT := Hid.mk (sort_row wr (w.heap.size + 1) u3 L HOW.out HBW.out.2 (by have := HL.out.2.2; omega))
      rw [hs1] at HSORT
      have HLEN : Hid (L.length = R.length) := Hid.mk (by rw [← hs1]; simp)
      clear hs1
      go_wp2_with (first
        | (go_at_call 39; refine HSORT.out.mono ?_; rintro e w9 ⟨rfl, hr9, hB9⟩; have H9 := Hid.mk (And.intro hr9 hB9); clear hr9 hB9)
        | go_in)
      go_ret
      refine ⟨_, rfl, ?_, HBW.out.1.trans (H9.out.2.mono (by omega))⟩
      have := owns_base H9.out.1 (show w.heap.size ≤ w.heap.size + 1 by omega)
      rw [HLEN.out] at this
      exact this
    · intro x c kl yd yp w1 cnt1 hkx hlx hry hat hrg1 hlt hg1 hs1 hen
      obtain ⟨rfl, bx, hbx, rfl⟩ := HENT.out x c kl (yd, yp) hkx hry hat
      have hB1 : Below w.heap.size w w1 := HBW.out.1.trans ⟨hg1.os, hg1.tape, hg1.output, hg1.size, fun k hk => hg1.block k (by have := HBW.out.2; omega) (fun e => by cases e; omega)⟩
      have hgr := HH.out.grow hB1
      have HSIZE := Hid.mk (size_any w1 bx.bb 0 bx.nm bx.nx (hgr.cellsB hbx).1 (hgr.cont (.nx x) bx hbx))
      have HOW1 : Hid (w1.ownsRow (w.heap.size + 1) 3 1 u3 L.length (Iy L)) := Hid.mk (own_same HOW.out (fun k hk => hg1.block k (HOW.out.lt k hk).2 (fun e => by cases e; have := (HOW.out.lt _ hk).1; omega)))
      obtain ⟨n, hn⟩ : ∃ n : Nat, n = bx.nx.length := ⟨_, rfl⟩
      rw [← hn] at HSIZE
      have hxR : x ∈ R ↔ n ≠ 0 := by
        rw [HMEM.out x, hn]
        constructor
        · rintro ⟨b', hb', h0⟩
          rw [hbx] at hb'
          cases hb'
          exact fun e => h0 (List.eq_nil_of_length_eq_zero e)
        · exact fun h0 => ⟨bx, hbx, fun e => h0 (by rw [e]; rfl)⟩
      have hxL : x ∉ L := fun hx => by
        have := ((HL.out.2.1 x).1 hx).2
        rw [hlx] at this
        cases this
      have hsame : ∀ z : Int, (left (.int .i64 z) && !(Lit.int .i64 z).sameKey (.int .i64 x)) = false ↔ (left (.int .i64 z) = false ∨ z = x) := fun z => by
        by_cases e : z = x
        · subst e
          simp [Lit.sameKey]
        · have : (Lit.int .i64 z).sameKey (.int .i64 x) = false := Maps.sameKey_ne (fun h => e (by cases h; rfl))
          simp [this, e]
      have HC := Hid.mk (And.intro hxR (And.intro hxL hsame))
      have HRG := Hid.mk hrg
      have HLT := Hid.mk hlt
      have HB1 := Hid.mk hB1
      have HHEN := Hid.mk hen
      have HS1 : Hid (w.heap.size + 1 ≤ w1.heap.size) := Hid.mk (by have := HBW.out.2; omega)
      by_cases h0 : n = 0
      · subst h0
        have HFIN : Hid (L.Nodup ∧ (∀ z, z ∈ L ↔ z ∈ R ∧ (left (.int .i64 z) && !(Lit.int .i64 z).sameKey (.int .i64 x)) = false) ∧ L.length + cnt1 ≤ D.nb) := Hid.mk ⟨HL.out.1, fun z => by
          rw [hsame z, HL.out.2.1 z]
          constructor
          · exact fun h => ⟨h.1, .inl h.2⟩
          · rintro ⟨h1, h2 | h2⟩
            · exact ⟨h1, h2⟩
            · subst h2
              exact absurd rfl (hxR.1 h1), by have := HL.out.2.2; omega⟩
        clear hn hxR hxL hsame hgr hB1 hbx hat hry hkx hlx hg1 hs1 hrg hlt HOW
        go_wp2_with (first
          | (go_at_call 38; refine HSIZE.out.mono ?_; rintro e w2 ⟨rfl, hw2⟩; have hw2' := hw2.symm; clear hw2; subst hw2')
          | go_in)
        go_roundw
        case rel => exact ⟨_, cnt1, L, hrg1, HOW1, Hid.mk ⟨HB1.out, HS1.out⟩, HFIN⟩
        case measure => (rw [hrg1.left_eq, HRG.out.left_eq]; exact HLT.out)
      · have h1 : (0 : Int) < ((n : Nat) : Int) := by omega
        obtain ⟨v2, W2, hr2, ho2, hB2⟩ := appendi_one w1 (w.heap.size + 1) u3 L.length L HOW1.out HS1.out x (by have := HL.out.2.2; omega)
        have HAP := Hid.mk hr2
        have HFIN : Hid ((L ++ [x]).Nodup ∧ (∀ z, z ∈ L ++ [x] ↔ z ∈ R ∧ (left (.int .i64 z) && !(Lit.int .i64 z).sameKey (.int .i64 x)) = false) ∧ (L ++ [x]).length + cnt1 ≤ D.nb) := Hid.mk ⟨by
            rw [List.nodup_append]
            refine ⟨HL.out.1, by simp, fun a ha b hb e => ?_⟩
            rw [List.mem_singleton.1 hb] at e
            exact hxL (e ▸ ha), fun z => by
          rw [hsame z, List.mem_append, HL.out.2.1 z, List.mem_singleton]
          constructor
          · rintro (h | h)
            · exact ⟨h.1, .inl h.2⟩
            · subst h
              exact ⟨hxR.2 h0, .inr rfl⟩
          · rintro ⟨h1, h2 | h2⟩
            · exact .inl ⟨h1, h2⟩
            · exact .inr h2, by have := HL.out.2.2; simp; omega⟩
        have HO2 : Hid (W2.ownsRow (w.heap.size + 1) 3 1 v2 (L ++ [x]).length (Iy (L ++ [x]))) := Hid.mk (by rw [List.length_append]; exact ho2)
        have HRG2 : Hid (W2.ranges Try.prog 3 rawE bmb w.heap.size D.nb Dm (fun z => left z && !z.sameKey (.int .i64 x)) cnt1) := Hid.mk (ranges_at hrg1 (hB2.block bmb (by omega)) (hB2.block w.heap.size (by omega)))
        have HBB : Hid (Below w.heap.size w W2 ∧ w.heap.size + 1 ≤ W2.heap.size) := Hid.mk ⟨HB1.out.trans (hB2.mono (by omega)), by have := hB2.size; have := HS1.out; omega⟩
        clear hn hxR hxL hsame hgr hB1 hbx hat hry hkx hlx hg1 hs1 hrg hlt HOW hr2 ho2 hB2 h0
        go_wp2_with (first
          | (go_at_call 38; refine HSIZE.out.mono ?_; rintro e w2 ⟨rfl, hw2⟩; have hw2' := hw2.symm; clear hw2; subst hw2')
          | (at_builtin; refine wpList_append_known rfl _ _ _ rfl _ _ _ _ rfl rfl HAP.out ?_; simp only [Act.put, List.setIfInBounds_toArray, List.set_cons_zero, List.set_cons_succ])
          | go_in)
        go_roundw
        case rel => exact ⟨_, cnt1, L ++ [x], HRG2.out, HO2, HBB, HFIN⟩
        case measure => (rw [HRG2.out.left_eq, HRG.out.left_eq]; exact HLT.out)
end
end Go.Proofs.Ythmbhcmicebcpaa
