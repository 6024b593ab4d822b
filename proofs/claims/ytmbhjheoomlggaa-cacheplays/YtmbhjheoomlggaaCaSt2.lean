/-
  A cache and its disk, told by what they hold alone: the other calls.
-/
import Derived.Test.YtmbhjheoomlggaaCaSt
namespace Go.Proofs.Ytmbhjheoomlggaa
open Go Go.Proofs Go.RowKit Go.Shelf
def relB (ks : List Kb) (n : Int) : Bool := match fndK ks n with
  | some x => decide (0 < x.pins)
  | none => false
def relL (size : Nat) (ks : List Kb) (n : Int) : List Kb := match fndK ks n with
  | some x => if 0 < x.pins then shk size (updK ks (x.by (x.pins - 1) x.dirty)) else ks
  | none => ks
def putB (ks : List Kb) (n : Int) (ys : List Int) : Bool := match fndK ks n with
  | some x => decide (0 < x.pins) && decide (ys.length = 1024)
  | none => false
def putL (ks : List Kb) (n : Int) (ys : List Int) : List Kb := match fndK ks n with
  | some x => if (decide (0 < x.pins) && decide (ys.length = 1024)) = true then updK ks ⟨x.num, x.pins, true, ys⟩ else ks
  | none => ks
def fluB (ks : List Kb) (s : Dk.DS) (n : Int) : Bool := match fndK ks n with
  | some x => if x.dirty = true then (Dk.wrS s x.num x.dat).1 else true
  | none => true
def fluL (size : Nat) (ks : List Kb) (s : Dk.DS) (n : Int) : List Kb := match fndK ks n with
  | some x => if x.dirty = true then (if (Dk.wrS s x.num x.dat).1 = true then shk size (updK ks (x.by x.pins false)) else ks) else ks
  | none => ks
def fluS (ks : List Kb) (s : Dk.DS) (n : Int) : Dk.DS := match fndK ks n with
  | some x => if x.dirty = true then (Dk.wrS s x.num x.dat).2 else s
  | none => s
section
variable {F : Nat → Prop} {w : World} {c dd size : Nat} {reads : Int} {ks : List Kb} {s : Dk.DS}
theorem cd_release (h : CdAt F w c dd size reads ks s) (n : Int) (hw : (Lit.int .i64 n).wf = true) (hf : Fine reads ks s) :
    Calls Try.prog 15 #[ptV c, .int .i64 n] w fun e w' => e = .returned (.bool (relB ks n)) ∧ CdAt F w' c dd size reads (relL size ks n) s ∧ Only F w w' := by
  have h0 := h
  obtain ⟨Fc, Fd, m, L, h1, h2, rfl, h4, h5, h6⟩ := h
  have hlen := hf.len
  rw [List.length_map] at hlen
  rcases split_kb (L := L) (n := n) with ⟨q1, q2⟩ | ⟨A, y, B, rfl, rfl, q⟩
  · have e1 : relB (L.map Pl.kb) n = false := by unfold relB; rw [q1]
    have e2 : relL size (L.map Pl.kb) n = L.map Pl.kb := by unfold relL; rw [q1]
    rw [e1, e2]
    refine (release_no L n size hw q2 h1).mono ?_
    rintro e w' ⟨rfl, rfl⟩
    exact ⟨rfl, h0, Only.refl _ _⟩
  · have q := q h1.nn
    rcases Nat.eq_zero_or_pos y.pins with hp | hp
    · have e1 : relB ((A ++ y :: B).map Pl.kb) y.num = false := by unfold relB; rw [q]; simp [Pl.kb, hp]
      have e2 : relL size ((A ++ y :: B).map Pl.kb) y.num = (A ++ y :: B).map Pl.kb := by unfold relL; rw [q]; simp [Pl.kb, hp]
      rw [e1, e2]
      refine (release_free A B y size h1 hp).mono ?_
      rintro e w' ⟨rfl, rfl⟩
      exact ⟨rfl, h0, Only.refl _ _⟩
    · have e1 : relB ((A ++ y :: B).map Pl.kb) y.num = true := by unfold relB; rw [q]; exact decide_eq_true hp
      have hu := upd_kb (x' := y.by (y.pins - 1) y.dirty) h1.nn rfl
      have e2 : relL size ((A ++ y :: B).map Pl.kb) y.num = shk size ((A ++ y.by (y.pins - 1) y.dirty :: B).map Pl.kb) := by
        unfold relL
        rw [q]
        simp only
        rw [if_pos (show 0 < y.kb.pins from hp), ← hu]
        rfl
      rw [e1, e2]
      have hpb := hf.pins y.kb (List.mem_map.2 ⟨y, by simp, rfl⟩)
      have hpb2 : y.pins ≤ 1000000 := hpb
      refine (release_yes A B y size h1 (by omega) (y.pins - 1) (by omega) (by omega)).mono ?_
      rintro e w' ⟨rfl, hC, ho⟩
      have hs := ho.size
      exact ⟨rfl, ⟨Fc, Fd, m, _, hC, h2.only ho (fun k _ hk hf => h4 k hf hk), shk_map _ _, h4, fun k hk => ⟨(h5 k hk).1, Nat.lt_of_lt_of_le (h5 k hk).2 hs⟩, fun k hk => ⟨(h6 k hk).1, Nat.lt_of_lt_of_le (h6 k hk).2 hs⟩⟩, ho.mono (fun k _ hk => (h5 k hk).1)⟩
theorem cd_put (h : CdAt F w c dd size reads ks s) (n : Int) (hw : (Lit.int .i64 n).wf = true) (hf : Fine reads ks s) (ao : Option Addr) (bl bc : Nat) (ys : List Int) (hy : BAt w ao bl ys) :
    Calls Try.prog 17 #[ptV c, .int .i64 n, .slice ao bl bc] w fun e w' => e = .returned (.bool (putB ks n ys)) ∧ CdAt (fun k => F k ∨ w.heap.size ≤ k) w' c dd size reads (putL ks n ys) s ∧ Only F w w' := by
  have h0 : CdAt (fun k => F k ∨ w.heap.size ≤ k) w c dd size reads ks s := h.mono (fun _ _ hk => .inl hk)
  obtain ⟨Fc, Fd, m, L, h1, h2, rfl, h4, h5, h6⟩ := h
  have hlen := hf.len
  rw [List.length_map] at hlen
  have hyl := hy.1
  rcases split_kb (L := L) (n := n) with ⟨q1, q2⟩ | ⟨A, y, B, rfl, rfl, q⟩
  · have e1 : putB (L.map Pl.kb) n ys = false := by unfold putB; rw [q1]
    have e2 : putL (L.map Pl.kb) n ys = L.map Pl.kb := by unfold putL; rw [q1]
    rw [e1, e2]
    refine (put_no L n size ao bl bc hw q2 h1).mono ?_
    rintro e w' ⟨rfl, rfl⟩
    exact ⟨rfl, h0, Only.refl _ _⟩
  · have q := q h1.nn
    rcases Nat.eq_zero_or_pos y.pins with hp | hp
    · have e1 : putB ((A ++ y :: B).map Pl.kb) y.num ys = false := by unfold putB; rw [q]; simp [Pl.kb, hp]
      have e2 : putL ((A ++ y :: B).map Pl.kb) y.num ys = (A ++ y :: B).map Pl.kb := by unfold putL; rw [q]; simp [Pl.kb, hp]
      rw [e1, e2]
      refine (put_free A B y size ao bl bc h1 hp).mono ?_
      rintro e w' ⟨rfl, rfl⟩
      exact ⟨rfl, h0, Only.refl _ _⟩
    · by_cases hb : bl = 1024
      · subst hb
        have hd : (decide (0 < y.kb.pins) && decide (ys.length = 1024)) = true := by rw [decide_eq_true (show 0 < y.kb.pins from hp), decide_eq_true hyl]; rfl
        have e1 : putB ((A ++ y :: B).map Pl.kb) y.num ys = true := by unfold putB; rw [q]; exact hd
        have e2 : putL ((A ++ y :: B).map Pl.kb) y.num ys = updK ((A ++ y :: B).map Pl.kb) ⟨y.num, y.pins, true, ys⟩ := by unfold putL; rw [q]; simp only [hd, if_true]; rfl
        rw [e1, e2]
        obtain ⟨a, rfl, _⟩ := hy.2 (by omega)
        refine (put_yes A B y size a bc ys h1 (by omega) hp hy).mono ?_
        rintro e w' ⟨rfl, ⟨g, cap, hC⟩, ho⟩
        have hs := ho.size
        refine ⟨rfl, ⟨fun k => (Fc k ∨ w.heap.size ≤ k) ∧ k < w'.heap.size, Fd, m, _, hC.mono (fun k hk hl => ⟨hk, hl⟩), h2.only ho (fun k _ hk hf => h4 k hf hk), ?_, ?_, ?_, ?_⟩, ho.mono (fun k _ hk => (h5 k hk).1)⟩
        · have := upd_kb (x' := (y.wth g cap ys).by y.pins true) h1.nn rfl
          rw [← this]
          rfl
        · intro k hk hd
          rcases hk.1 with hk | hk
          · exact h4 k hk hd
          · have := (h6 k hd).2; omega
        · intro k hk
          exact ⟨hk.1.imp (fun h => (h5 k h).1) id, hk.2⟩
        · intro k hk
          exact ⟨.inl (h6 k hk).1, Nat.lt_of_lt_of_le (h6 k hk).2 hs⟩
      · have e1 : putB ((A ++ y :: B).map Pl.kb) y.num ys = false := by unfold putB; rw [q]; simp [hyl, hb]
        have e2 : putL ((A ++ y :: B).map Pl.kb) y.num ys = (A ++ y :: B).map Pl.kb := by unfold putL; rw [q]; simp [hyl, hb]
        rw [e1, e2]
        refine (put_len A B y size ao bl bc h1 hp hb).mono ?_
        rintro e w' ⟨rfl, rfl⟩
        exact ⟨rfl, h0, Only.refl _ _⟩
theorem cd_flush (h : CdAt F w c dd size reads ks s) (n : Int) (hw : (Lit.int .i64 n).wf = true) (hf : Fine reads ks s) (N : Nat) (hs : Dk.Sane s N) (hN : N ≤ 900000) :
    Calls Try.prog 19 #[ptV c, .int .i64 n] w fun e w' => e = .returned (.bool (fluB ks s n)) ∧ CdAt (fun k => F k ∨ w.heap.size ≤ k) w' c dd size reads (fluL size ks s n) (fluS ks s n) ∧ Only F w w' := by
  have h0 : CdAt (fun k => F k ∨ w.heap.size ≤ k) w c dd size reads ks s := h.mono (fun _ _ hk => .inl hk)
  obtain ⟨Fc, Fd, m, L, h1, h2, rfl, h4, h5, h6⟩ := h
  have hlen := hf.len
  rw [List.length_map] at hlen
  rcases split_kb (L := L) (n := n) with ⟨q1, q2⟩ | ⟨A, y, B, rfl, rfl, q⟩
  · have e1 : fluB (L.map Pl.kb) s n = true := by unfold fluB; rw [q1]
    have e2 : fluL size (L.map Pl.kb) s n = L.map Pl.kb := by unfold fluL; rw [q1]
    have e3 : fluS (L.map Pl.kb) s n = s := by unfold fluS; rw [q1]
    rw [e1, e2, e3]
    refine (flush_no L n size hw q2 h1).mono ?_
    rintro e w' ⟨rfl, rfl⟩
    exact ⟨rfl, h0, Only.refl _ _⟩
  · have q := q h1.nn
    cases hp : y.dirty with
    | false =>
      have hp' : y.kb.dirty = false := hp
      have e1 : fluB ((A ++ y :: B).map Pl.kb) s y.num = true := by unfold fluB; rw [q]; simp [hp']
      have e2 : fluL size ((A ++ y :: B).map Pl.kb) s y.num = (A ++ y :: B).map Pl.kb := by unfold fluL; rw [q]; simp [hp']
      have e3 : fluS ((A ++ y :: B).map Pl.kb) s y.num = s := by unfold fluS; rw [q]; simp [hp']
      rw [e1, e2, e3]
      refine (flush_clean A B y size h1 hp).mono ?_
      rintro e w' ⟨rfl, rfl⟩
      exact ⟨rfl, h0, Only.refl _ _⟩
    | true =>
      have hp' : y.kb.dirty = true := hp
      have hu := upd_kb (x' := y.by y.pins false) h1.nn rfl
      have e1 : fluB ((A ++ y :: B).map Pl.kb) s y.num = (Dk.wrS s y.num y.dat).1 := by unfold fluB; rw [q]; simp only [hp', if_true]; rfl
      have e2 : fluL size ((A ++ y :: B).map Pl.kb) s y.num = (if (Dk.wrS s y.num y.dat).1 = true then shk size ((A ++ y.by y.pins false :: B).map Pl.kb) else (A ++ y :: B).map Pl.kb) := by unfold fluL; rw [q, ← hu]; simp only [hp', if_true]; rfl
      have e3 : fluS ((A ++ y :: B).map Pl.kb) s y.num = (Dk.wrS s y.num y.dat).2 := by unfold fluS; rw [q]; simp only [hp', if_true]; rfl
      rw [e1, e2, e3]
      refine (flush_dirty Fd dd s N A B y size h1 (by omega) hp h2 h4 hf.img hs hN).mono ?_
      rintro e w' ⟨rfl, hC, hD, ho⟩
      have hsz := ho.size
      refine ⟨rfl, ⟨fun k => Fc k ∧ k < w.heap.size, fun k => (Fd k ∨ w.heap.size ≤ k) ∧ k < w'.heap.size, m, _, hC, hD.mono (fun k hk h => ⟨h, hk.lt⟩), ?_, ?_, ?_, ?_⟩, ho.mono (fun k _ hk => hk.elim (fun h => (h5 k h).1) (fun h => (h6 k h).1))⟩
      · split
        · exact shk_map _ _
        · rfl
      · intro k hk hd
        rcases hd.1 with hd | hd
        · exact h4 k hk.1 hd
        · have := hk.2; omega
      · intro k hk
        exact ⟨.inl (h5 k hk.1).1, Nat.lt_of_lt_of_le hk.2 hsz⟩
      · intro k hk
        exact ⟨hk.1.imp (fun h => (h6 k h).1) id, hk.2⟩
theorem cd_held (h : CdAt F w c dd size reads ks s) (hf : Fine reads ks s) :
    Calls Try.prog 23 #[ptV c] w fun e w' => e = .returned (.slice (some ⟨w.heap.size, 0, none⟩) ks.length ks.length) ∧ w'.ownsRow w.heap.size 3 1 (.slice (some ⟨w.heap.size, 0, none⟩) ks.length ks.length) ks.length (Iy (ks.map (·.num))) ∧ Below w.heap.size w w' := by
  obtain ⟨Fc, Fd, m, L, h1, h2, rfl, h4, h5, h6⟩ := h
  have hlen := hf.len
  have := held_any L h1 (by rw [List.length_map] at hlen; omega)
  rw [List.length_map, List.map_map]
  exact this
theorem cd_reads (h : CdAt F w c dd size reads ks s) : Calls Try.prog 24 #[ptV c] w fun e w' => e = .returned (.int .i64 reads) ∧ w' = w := by
  obtain ⟨Fc, Fd, m, L, h1, _⟩ := h
  exact reads_any _ L h1
theorem cd_new (Fd : Nat → Prop) (dd : Nat) (s : Dk.DS) (h : Dk.DiskAt Fd w dd s) (n : Int) :
    Calls Try.prog 10 #[ptV dd, .int .i64 n] w fun e w' => ∃ c, e = .returned (ptV c) ∧ w.heap.size ≤ c ∧ CdAt (fun k => Fd k ∨ w.heap.size ≤ k) w' c dd (szN n) 0 [] s ∧ Below w.heap.size w w' := by
  refine (cnew_any w (some dd) n).mono ?_
  rintro e w' ⟨c, m, rfl, hc, hC, hB⟩
  have hs := hB.size
  refine ⟨c, rfl, hc, ⟨fun k => w.heap.size ≤ k ∧ k < w'.heap.size, fun k => Fd k ∧ k < w.heap.size, m, [], hC.mono (fun k hk hl => ⟨hk, hl⟩), ?_, rfl, ?_, ?_, ?_⟩, hB⟩
  · exact (h.mono (fun k hk hf => ⟨hf, hk.lt⟩)).at (fun k hk => hB.block k hk.2)
  · intro k hk hd
    have := hd.2; have := hk.1; omega
  · intro k hk
    exact ⟨.inr hk.1, hk.2⟩
  · intro k hk
    exact ⟨.inl hk.1, Nat.lt_of_lt_of_le hk.2 hs⟩
/-- The disk of a cache, by itself. -/
theorem CdAt.disk (h : CdAt F w c dd size reads ks s) : ∃ Fd, Dk.DiskAt Fd w dd s ∧ (∀ k, Fd k → F k ∧ k < w.heap.size) ∧ ∀ w' s', Only Fd w w' → Dk.DiskAt (fun k => Fd k ∨ w.heap.size ≤ k) w' dd s' → CdAt (fun k => F k ∨ w.heap.size ≤ k) w' c dd size reads ks s' ∧ Only F w w' := by
  obtain ⟨Fc, Fd, m, L, h1, h2, h3, h4, h5, h6⟩ := h
  refine ⟨Fd, h2, h6, fun w' s' ho hD => ?_⟩
  have hsz := ho.size
  refine ⟨⟨Fc, fun k => (Fd k ∨ w.heap.size ≤ k) ∧ k < w'.heap.size, m, L, h1.only ho (fun k _ hk hf => h4 k hk hf), hD.mono (fun k hk h => ⟨h, hk.lt⟩), h3, ?_, ?_, ?_⟩, ho.mono (fun k _ hk => (h6 k hk).1)⟩
  · intro k hk hd
    rcases hd.1 with hd | hd
    · exact h4 k hk hd
    · have := (h5 k hk).2; omega
  · intro k hk
    exact ⟨.inl (h5 k hk).1, Nat.lt_of_lt_of_le (h5 k hk).2 hsz⟩
  · intro k hk
    exact ⟨hk.1.imp (fun h => (h6 k h).1) id, hk.2⟩
end
end Go.Proofs.Ytmbhjheoomlggaa
