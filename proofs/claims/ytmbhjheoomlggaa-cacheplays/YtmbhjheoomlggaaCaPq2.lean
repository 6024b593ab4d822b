/-
  A cache and the model of one, side by side: the model's calls.
-/
import Derived.Test.YtmbhjheoomlggaaCaPq
namespace Go.Proofs.Ytmbhjheoomlggaa
open Go Go.Proofs Go.RowKit Go.Shelf
theorem fnd_none {ks : List Kb} {n : Int} (h : fndK ks n = none) : ks.filter (fun y => y.num != n) = ks := by
  rw [List.filter_eq_self]
  intro y hy
  have := List.find?_eq_none.1 h y hy
  simpa using this
theorem fnd_in {r : List Kb} {n : Int} {x : Kb} (h : fndK r n = some x) : x ∈ r ∧ x.num = n := ⟨List.mem_of_find?_eq_some h, by simpa using List.find?_some h⟩
section
variable {X : Nat → Prop} {w W W1 : World} {c d mm e size : Nat} {ra rm : Int} {ks : List Kb} {sa se : Dk.DS} {lv : Value} {ms : List Md}
theorem q_at (h : Pq X w W c d mm e size ra ks sa rm lv ms se) (hl : ms.length ≤ 900000) (n : Int) :
    Calls Try.prog 11 #[ptV mm, .int .i64 n] W fun r W' => r = .returned (.int .i64 (atI ms n)) ∧ W' = W := by
  obtain ⟨Fa, Fm, Fe, h⟩ := h
  exact mat_any h.mo (by omega) n
theorem q_mget_yes (h : Pq X w W c d mm e size ra ks sa rm lv ms se) (hl : ms.length < 900000) (hi : se.img.length ≤ 20480000) (hr0 : 0 ≤ rm) (hr1 : rm ≤ 900000) (hpin : ∀ m ∈ ms, m.kb.pins ≤ 900000) (n : Int) (x : Kb) (hn : ((ms.map Md.kb).map (·.num)).Nodup) (hx : gotK se (ms.map Md.kb) n = some x) :
    Calls Try.prog 13 #[ptV mm, .int .i64 n] W fun r W' => ∃ xg xc, r = .returned (.tuple #[.slice (some ⟨xg, 0, none⟩) 1024 xc, .bool true]) ∧ W'.ownsRow 0 5 1 (.slice (some ⟨xg, 0, none⟩) 1024 xc) 1024 (By x.dat) ∧ ∃ lv' ms', ms'.map Md.kb = getL size (ms.map Md.kb) x ∧ Pq X w W' c d mm e size ra ks sa (rdK (ms.map Md.kb) rm n) lv' ms' se ∧ Kx X W W' := by
  obtain ⟨Fa, Fm, Fe, h⟩ := h
  unfold gotK at hx
  rcases at_fnd (n := n) hn with ⟨ha, hf⟩ | ⟨k, hk, ha, hnum, hf, hflt, _⟩
  · rw [hf] at hx
    simp only at hx
    split at hx
    case isFalse => cases hx
    case isTrue hyes =>
    cases hx
    refine (mget_new h.mo (by omega) Fe se h.dk h.me hi hr0 (by omega) n ha hyes).mono ?_
    rintro r W' ⟨xg, xc, rfl, lv9, ms9, hM, hk9, hO, hrow⟩
    refine ⟨xg, xc, rfl, hrow, lv9, ms9, ?_, ?_⟩
    · rw [hk9]
      unfold getL
      simp only
      rw [fnd_none hf]
      rfl
    · rw [show rdK (ms.map Md.kb) rm n = rm + 1 by unfold rdK; rw [hf]; rfl]
      exact h.onM hO hM (fun k _ hf => h.noX (fun k hk => (h.fm k hk).2.2) k (hf.elim (fun h => .inl h.1) .inr)) (fun k hk => h.same hO.size k hk)
  · rw [hf] at hx
    simp only [Option.some.injEq] at hx
    refine (mget_found h.mo (by omega) n k hk ha ?_).mono ?_
    · have : ms.getD k md0 ∈ ms := by rw [List.getD_eq_getElem?_getD, List.getElem?_eq_getElem hk]; exact List.getElem_mem hk
      have := hpin _ this
      omega
    rintro r W' ⟨x', xg, xc, hx', rfl, lv9, ms9, hM, hk9, hO, hrow⟩
    rw [hx'] at hx hnum
    simp only at hx hnum
    subst hx
    refine ⟨xg, xc, rfl, hrow, lv9, ms9, ?_, ?_⟩
    · rw [hk9, hflt, ← hnum]
      rfl
    · rw [show rdK (ms.map Md.kb) rm n = rm by unfold rdK; rw [hf]; rfl]
      exact h.onM hO hM (fun k _ hf => h.noX (fun k hk => (h.fm k hk).2.2) k (hf.elim (fun h => .inl h.1) .inr)) (fun k hk => h.same hO.size k hk)
theorem q_mget_no (h : Pq X w W c d mm e size ra ks sa rm lv ms se) (hl : ms.length < 900000) (hi : se.img.length ≤ 20480000) (hr0 : 0 ≤ rm) (hr1 : rm ≤ 900000) (n : Int) (hn : ((ms.map Md.kb).map (·.num)).Nodup) (hx : gotK se (ms.map Md.kb) n = none) :
    Calls Try.prog 13 #[ptV mm, .int .i64 n] W fun r W' => r = .returned (.tuple #[.slice none 0 0, .bool false]) ∧ ∃ lv' ms', ms'.map Md.kb = shk size (ms.map Md.kb) ∧ Pq X w W' c d mm e size ra ks sa (rm + 1) lv' ms' se ∧ Kx X W W' := by
  obtain ⟨Fa, Fm, Fe, h⟩ := h
  unfold gotK at hx
  rcases at_fnd (n := n) hn with ⟨ha, hf⟩ | ⟨k, hk, ha, hnum, hf, hflt, _⟩
  · rw [hf] at hx
    simp only at hx
    split at hx
    case isTrue => cases hx
    case isFalse hno =>
    refine (mget_no h.mo (by omega) Fe se h.dk h.me hi hr0 (by omega) n ha (by simpa using hno)).mono ?_
    rintro r W' ⟨rfl, lv9, ms9, hM, hk9, hO⟩
    exact ⟨rfl, lv9, ms9, hk9, h.onM hO hM (fun k _ hf => h.noX (fun k hk => (h.fm k hk).2.2) k hf) (fun k hk => h.same hO.size k hk)⟩
  · rw [hf] at hx
    cases hx
/-- The cells of the model's row. -/
theorem q_cells (h : Pq X w W c d mm e size ra ks sa rm lv ms se) : W.cell? ⟨mm, 0, none⟩ = some lv ∧ W.cell? ⟨mm, 3, none⟩ = some (.int .i64 rm) ∧ mm < W.heap.size ∧ (∀ k, k < ms.length → ∃ g cp, lv = .slice (some ⟨g, 0, none⟩) ms.length cp ∧ ms.length ≤ cp ∧ ∀ i, i < ms.length → W.cell? ⟨g, i * 4, none⟩ = some (.int .i64 (ms.getD i md0).kb.num) ∧ W.cell? ⟨g, i * 4 + 1, none⟩ = some (.int .i64 ((ms.getD i md0).kb.pins : Nat)) ∧ W.cell? ⟨g, i * 4 + 2, none⟩ = some (.bool (ms.getD i md0).kb.dirty) ∧ W.cell? ⟨g, i * 4 + 3, none⟩ = some (.slice (some ⟨(ms.getD i md0).g, 0, none⟩) 1024 (ms.getD i md0).cap) ∧ ∀ j, W.frozen? ⟨g, j, none⟩ = false) := by
  obtain ⟨Fa, Fm, Fe, h⟩ := h
  obtain ⟨c0, c1, c2, c3, _⟩ := mo_cells h.mo.blk
  refine ⟨c0, c3, lt_of_block h.mo.blk, fun k hk => ?_⟩
  obtain ⟨g, cp, hv, hcap, _, _, _, hc⟩ := h.mo.cells (by omega)
  exact ⟨g, cp, hv, hcap, fun i hi => hc i hi⟩
/-- One cell of the model's row turns. -/
theorem q_upd {g cp : Nat} (h : Pq X w W c d mm e size ra ks sa rm (.slice (some ⟨g, 0, none⟩) ms.length cp) ms se) (hB : Below W.heap.size W W1) (k j : Nat) (hk : k < ms.length) (hj : j < 4) (v : Value) (z : Md) (hz : mdC z = (mdC (ms.getD k md0)).set j v) (hd : (W1.ownsRow 0 5 1 (.slice (some ⟨z.g, 0, none⟩) 1024 z.cap) 1024 (By z.kb.dat) ∧ W.heap.size ≤ z.g) ∨ (z.g = (ms.getD k md0).g ∧ z.cap = (ms.getD k md0).cap ∧ z.kb.dat = (ms.getD k md0).kb.dat)) :
    Pq X w (W1.setCell ⟨g, k * 4 + j, none⟩ v) c d mm e size ra ks sa rm (.slice (some ⟨g, 0, none⟩) (ms.set k z).length cp) (ms.set k z) se ∧ Kx X W (W1.setCell ⟨g, k * 4 + j, none⟩ v) := by
  obtain ⟨Fa, Fm, Fe, h⟩ := h
  have hM1 := (h.mo.below hB).mono (H := fun k => Fm k ∨ W.heap.size ≤ k) (fun k _ hk => .inl hk)
  have hmem : ms.getD k md0 ∈ ms := by rw [List.getD_eq_getElem?_getD, List.getElem?_eq_getElem hk]; exact List.getElem_mem hk
  obtain ⟨hM2, _⟩ := hM1.upd k j hk hj v z hz (by
    rcases hd with ⟨h1, h2⟩ | ⟨h1, h2, h3⟩
    · exact ⟨h1, .inr h2⟩
    · rw [h1, h2, h3]
      exact hM1.dat _ hmem)
  have hO : Only Fm W (W1.setCell ⟨g, k * 4 + j, none⟩ v) := (Only.of_new Fm hB).setCell (p := ⟨g, k * 4 + j, none⟩) (.inl (h.mo.rowF g rfl)) _
  exact h.onM hO hM2 (fun k _ hf => h.noX (fun k hk => (h.fm k hk).2.2) k hf) (fun k hk => h.same hO.size k hk)
theorem q_held (h : Pq X w W c d mm e size ra ks sa rm lv ms se) (hf : Fine ra ks sa) :
    Calls Try.prog 23 #[ptV c] W fun r W' => r = .returned (.slice (some ⟨W.heap.size, 0, none⟩) ks.length ks.length) ∧ W'.ownsRow W.heap.size 3 1 (.slice (some ⟨W.heap.size, 0, none⟩) ks.length ks.length) ks.length (Iy (ks.map (·.num))) ∧ Below W.heap.size W W' := by
  obtain ⟨Fa, Fm, Fe, h⟩ := h
  exact cd_held h.ca hf
theorem q_reads (h : Pq X w W c d mm e size ra ks sa rm lv ms se) : Calls Try.prog 24 #[ptV c] W fun r W' => r = .returned (.int .i64 ra) ∧ W' = W := by
  obtain ⟨Fa, Fm, Fe, h⟩ := h
  exact cd_reads h.ca
theorem q_imgA (h : Pq X w W c d mm e size ra ks sa rm lv ms se) (hi : sa.img.length ≤ 20480000) : Calls Try.prog 25 #[ptV d] W fun r W' => ∃ v', r = .returned v' ∧ W'.ownsRow W.heap.size 5 1 v' sa.img.length (By sa.img) ∧ v' ≠ .slice none 0 0 ∧ Below W.heap.size W W' := by
  obtain ⟨Fa, Fm, Fe, h⟩ := h
  obtain ⟨Fd, hD, _⟩ := h.ca.disk
  exact Dk.image_any Fd W d sa hD hi
theorem q_imgE (h : Pq X w W c d mm e size ra ks sa rm lv ms se) (hi : se.img.length ≤ 20480000) : Calls Try.prog 25 #[ptV e] W fun r W' => ∃ v', r = .returned v' ∧ W'.ownsRow W.heap.size 5 1 v' se.img.length (By se.img) ∧ v' ≠ .slice none 0 0 ∧ Below W.heap.size W W' := by
  obtain ⟨Fa, Fm, Fe, h⟩ := h
  exact Dk.image_any Fe W e se h.dk hi
theorem Pq.grow (h : Pq X w W c d mm e size ra ks sa rm lv ms se) (hB : Below W.heap.size W W1) : Pq X w W1 c d mm e size ra ks sa rm lv ms se :=
  h.side (Only.of_new X hB) (fun k hk => by
    obtain ⟨Fa, Fm, Fe, h⟩ := h
    exact h.same hB.size k hk)
end
/-- All is well behind i calls. -/
structure Ok (i size : Nat) (reads : Int) (ks : List Kb) (s : Dk.DS) : Prop where
  img : s.img.length = 8192
  r0 : 0 ≤ reads
  r1 : reads ≤ i
  len : ks.length ≤ i
  pins : ∀ x ∈ ks, x.pins ≤ i
  sane : Dk.Sane s (2 * i)
  sta : shk size ks = ks
section
variable {i size : Nat} {reads : Int} {ks : List Kb} {s : Dk.DS}
theorem Ok.fine (h : Ok i size reads ks s) (hi : i ≤ 400000) : Fine reads ks s := ⟨by rw [h.img]; omega, h.r0, by have := h.r1; omega, by have := h.len; omega, fun x hx => by have := h.pins x hx; omega⟩
theorem Ok.more (h : Ok i size reads ks s) : Ok (i + 1) size reads ks s := ⟨h.img, h.r0, by have := h.r1; omega, by have := h.len; omega, fun x hx => by have := h.pins x hx; omega, h.sane.mono (by omega), h.sta⟩
theorem Ok.got_no (h : Ok i size reads ks s) : Ok (i + 1) size (reads + 1) ks s := ⟨h.img, by have := h.r0; omega, by have := h.r1; omega, by have := h.len; omega, fun x hx => by have := h.pins x hx; omega, h.sane.mono (by omega), h.sta⟩
theorem Ok.sub {ks' : List Kb} (h : Ok i size reads ks s) (hl : ks'.length ≤ i) (hp : ∀ x ∈ ks', x.pins ≤ i) (hs : shk size ks' = ks') : Ok i size reads ks' s := ⟨h.img, h.r0, h.r1, hl, hp, h.sane, hs⟩
theorem got_pins {x : Kb} {n : Int} (h : Ok i size reads ks s) (hx : gotK s ks n = some x) : x.pins ≤ i := by
  unfold gotK at hx
  cases hf : fndK ks n with
  | some y =>
    rw [hf] at hx
    cases hx
    exact h.pins _ (fnd_in hf).1
  | none =>
    rw [hf] at hx
    simp only at hx
    split at hx
    · cases hx
      exact Nat.zero_le _
    · cases hx
theorem Ok.got (h : Ok i size reads ks s) {n : Int} {x : Kb} (hx : gotK s ks n = some x) : Ok (i + 1) size (rdK ks reads n) (getL size ks x) s := by
  have hr : rdK ks reads n ≤ reads + 1 ∧ 0 ≤ rdK ks reads n := by
    have := h.r0
    unfold rdK
    split <;> omega
  have := h.r1
  have hp := got_pins h hx
  refine ⟨h.img, hr.2, by omega, ?_, fun y hy => ?_, h.sane.mono (by omega), sta_shk _ _⟩
  · unfold getL
    have h1 := (shk_sub size (ks.filter (fun y => y.num != x.num) ++ [x.by (x.pins + 1) x.dirty])).length_le
    rw [List.length_append] at h1
    have h2 := List.length_filter_le (fun y : Kb => y.num != x.num) ks
    have := h.len
    simp at h1 h2
    omega
  · have hy := (shk_sub _ _).subset hy
    rcases List.mem_append.1 hy with hy | hy
    · have := h.pins y (List.mem_filter.1 hy).1
      omega
    · rw [List.mem_singleton.1 hy]
      show x.pins + 1 ≤ i + 1
      omega
theorem Ok.rel (h : Ok i size reads ks s) (n : Int) : Ok (i + 1) size reads (relL size ks n) s := by
  refine h.more.sub ?_ (fun y hy => ?_) (sta_rel h.sta n)
  · have := h.len
    unfold relL
    split
    · split
      · refine Nat.le_trans (shk_sub _ _).length_le ?_
        simp [updK]
        omega
      · omega
    · omega
  · unfold relL at hy
    split at hy
    · rename_i x hx
      split at hy
      · obtain ⟨z, hz, rfl⟩ := List.mem_map.1 ((shk_sub _ _).subset hy)
        have h1 := h.pins z hz
        have h2 := h.pins x (fnd_in hx).1
        split
        · show x.pins - 1 ≤ i + 1
          omega
        · omega
      · have := h.pins y hy; omega
    · have := h.pins y hy; omega
theorem Ok.put (h : Ok i size reads ks s) (n : Int) (ys : List Int) : Ok (i + 1) size reads (putL ks n ys) s := by
  refine h.more.sub ?_ (fun y hy => ?_) (sta_put h.sta n ys)
  · have := h.len
    unfold putL
    split
    · split
      · simp [updK]
        omega
      · omega
    · omega
  · unfold putL at hy
    split at hy
    · rename_i x hx
      split at hy
      · obtain ⟨z, hz, rfl⟩ := List.mem_map.1 hy
        have h1 := h.pins z hz
        have h2 := h.pins x (fnd_in hx).1
        split
        · show x.pins ≤ i + 1
          omega
        · omega
      · have := h.pins y hy; omega
    · have := h.pins y hy; omega
theorem Ok.flu (h : Ok i size reads ks s) (n : Int) : Ok (i + 1) size reads (fluL size ks s n) (fluS ks s n) := by
  have hS : Dk.Sane (fluS ks s n) (2 * (i + 1)) ∧ (fluS ks s n).img.length = 8192 := by
    unfold fluS
    split
    · split
      · obtain ⟨q1, q2⟩ := Dk.wr_sane (block := _) (xs := _) h.sane
        exact ⟨q1.mono (by omega), q2.trans h.img⟩
      · exact ⟨h.sane.mono (by omega), h.img⟩
    · exact ⟨h.sane.mono (by omega), h.img⟩
  refine ⟨hS.2, h.r0, by have := h.r1; omega, ?_, fun y hy => ?_, hS.1, sta_flu h.sta s n⟩
  · have := h.len
    unfold fluL
    split
    · split
      · split
        · refine Nat.le_trans (shk_sub _ _).length_le ?_
          simp [updK]
          omega
        · omega
      · omega
    · omega
  · unfold fluL at hy
    split at hy
    · rename_i x hx
      split at hy
      · split at hy
        · obtain ⟨z, hz, rfl⟩ := List.mem_map.1 ((shk_sub _ _).subset hy)
          have h1 := h.pins z hz
          have h2 := h.pins x (fnd_in hx).1
          split
          · show x.pins ≤ i + 1
            omega
          · omega
        · have := h.pins y hy; omega
      · have := h.pins y hy; omega
    · have := h.pins y hy; omega
end
end Go.Proofs.Ytmbhjheoomlggaa
