/-
  Places of paths: node, file, spot, unnamed, named, both.
-/
import Derived.Test.YtehaoeclnmelhabGreatTrFind
namespace Go.Proofs.YtehaoeclnmelhabGreat
open Go Go.Proofs Go.RowKit Go.Shelf

theorem split_bounds {l : List UInt8} {L : List (List UInt8)} (h : splitL l = some L) : (∀ p ∈ L, p.length ≤ 1000) ∧ L.length ≤ 501 := by
  cases l with
  | nil => cases h
  | cons c r =>
    simp only [splitL] at h
    split at h
    · rename_i hc
      cases h
      exact ⟨fun p hp => by have := parts_short hp; omega, by have := parts_count r; omega⟩
    · cases h
/-- What Split's outcome is: an error, or parts that lie somewhere. -/
theorem split_two (w : World) (s : ByteArray) (hs : s.size ≤ 16777216) :
    Calls Tryz.prog 59 #[.string s] w fun e w' => Below w.heap.size w w' ∧ ((splitL (ofS s) = none ∧ ∃ ao n c, e = .returned (.tuple #[.slice ao n c, .int .i64 15])) ∨ ∃ L ao c, splitL (ofS s) = some L ∧ e = .returned (.tuple #[.slice ao L.length c, .int .i64 0]) ∧ SAt w' ao L.length L ∧ L.length ≤ c ∧ c ≤ 9223372036854775807) := by
  refine (split_any w s hs).mono ?_
  rintro e w' ⟨v, rfl, hown, hB⟩
  obtain ⟨ao, c, rfl, hS, _, h1, h2⟩ := owns_SAt hown
  refine ⟨hB, ?_⟩
  cases hl : splitL (ofS s) with
  | none => exact .inl ⟨rfl, _, _, _, rfl⟩
  | some L => rw [hl] at hS h1; exact .inr ⟨L, ao, c, rfl, rfl, hS, h1, h2⟩
def nodeE (N : List Nd) (s : List UInt8) : Option Nat × Int :=
  match splitL s with
  | none => (none, 15)
  | some L => wayE N 0 L
theorem wayE_or (N : List Nd) (i : Nat) (L : List (List UInt8)) : (∃ j, wayE N i L = (some j, 0)) ∨ ∃ e, wayE N i L = (none, e) ∧ e ≠ 0 := by
  unfold wayE
  split
  · exact .inl ⟨_, rfl⟩
  · rename_i h
    exact .inr ⟨_, rfl, h⟩
theorem wayE_lt {W : World} {t : Nat} {σ : Tr} {Ls : List Lay} (h : TrAt W t σ Ls) (L : List (List UInt8)) {j : Nat} (e : wayE σ.nodes 0 L = (some j, 0)) : j < σ.nodes.length := by
  have h1 := wayL_last σ.nodes 0 L
  rw [e] at h1
  obtain ⟨_, _, _, h0⟩ := h.root
  exact way_lt h L (List.getElem?_eq_some_iff.1 h0).1 _ (List.mem_of_getLast? h1) j rfl
theorem nodeE_or (N : List Nd) (s : List UInt8) : (∃ j, nodeE N s = (some j, 0)) ∨ ∃ e, nodeE N s = (none, e) ∧ e ≠ 0 := by
  unfold nodeE
  split
  · exact .inr ⟨15, rfl, by decide⟩
  · exact wayE_or _ _ _
theorem nodeE_lt {W : World} {t : Nat} {σ : Tr} {Ls : List Lay} (h : TrAt W t σ Ls) (s : List UInt8) {j : Nat} (e : nodeE σ.nodes s = (some j, 0)) : j < σ.nodes.length := by
  unfold nodeE at e
  split at e
  · cases e
  · exact wayE_lt h _ e
set_option maxRecDepth 100000 in
set_option maxHeartbeats 2000000 in
theorem node_any (w : World) (t : Nat) (σ : Tr) (Ls : List Lay) (hT : TrAt w t σ Ls) (s : ByteArray) (hs : s.size ≤ 16777216) :
    Calls Tryz.prog 58 #[ptrV t, .string s] w fun e w' => e = .returned (.tuple #[optV (locL Ls) (nodeE σ.nodes (ofS s)).1, .int .i64 (nodeE σ.nodes (ofS s)).2]) ∧ Below w.heap.size w w' := by
  have HS := Hid.mk (split_two w s hs)
  have HT := Hid.mk hT
  clear hT hs
  unfold ptrV
  go_enter Tryz.func58, Tryz.ntmps58
  go_wp2_with fail
  refine HS.out.mono ?_
  rintro e W1 ⟨hB, (⟨hn, ao, n, c, rfl⟩ | ⟨L, ao, c, hn, rfl, hSA, h1, h2⟩)⟩
  · have HB := Hid.mk hB
    have HN := Hid.mk hn
    clear hB hn HS
    go_wp2
    refine bodyPost_ret (results_tmp2 rfl _ _ _) rfl ⟨?_, HB.out⟩
    unfold nodeE
    rw [HN.out]
    rfl
  · obtain ⟨b1, b2⟩ := split_bounds hn
    have HF := Hid.mk (find_any W1 t σ Ls (HT.out.below rfl hB) ao c L hSA b1 (by omega))
    unfold ptrV at HF
    have HB := Hid.mk hB
    have HN := Hid.mk hn
    clear hB hn HS hSA h1 h2 b1 b2
    go_wp2_with (go_at_call 41; refine HF.out.mono ?_; rintro e W2 ⟨rfl, hB2⟩; have HB2 := Hid.mk hB2; clear hB2)
    refine bodyPost_ret (results_tmp2 rfl _ _ _) rfl ⟨?_, HB.out.trans (HB2.out.mono HB.out.size)⟩
    unfold nodeE
    rw [HN.out]
    rfl
def fileE (N : List Nd) (s : List UInt8) : Option Nat × Int :=
  match nodeE N s with
  | (some j, _) => if (nodeAt N j).isDir = true then (none, 13) else (some j, 0)
  | (none, e) => (none, e)
theorem TrAt.kindAt {W : World} {t : Nat} {σ : Tr} {Ls : List Lay} (h : TrAt W t σ Ls) {j : Nat} (hj : j < σ.nodes.length) : W.cell? ⟨locL Ls j, 0, none⟩ = some (.int .i64 (nodeAt σ.nodes j).kind) ∧ W.cell? ⟨locL Ls j, 1, none⟩ = some (.int .i64 (nodeAt σ.nodes j).links) ∧ W.cell? ⟨locL Ls j, 2, none⟩ = some (.int .i64 (nodeAt σ.nodes j).size) := by
  obtain ⟨L, d, h1, h2, h3, h4⟩ := h.get hj
  obtain ⟨_, _, _, hh⟩ := h3.head
  have e : nodeAt σ.nodes j = d := by unfold nodeAt; rw [List.getD, h2]; rfl
  rw [e, h4]
  exact ⟨by rw [blk_cell hh]; rfl, by rw [blk_cell hh]; rfl, by rw [blk_cell hh]; rfl⟩
theorem kind_two (d : Nd) : (d.isDir = true ∧ d.kind = 2) ∨ (d.isDir = false ∧ d.kind = 1) := by cases d <;> simp [Nd.isDir, Nd.kind]
set_option maxRecDepth 100000 in
set_option maxHeartbeats 2000000 in
theorem file_any (w : World) (t : Nat) (σ : Tr) (Ls : List Lay) (hT : TrAt w t σ Ls) (s : ByteArray) (hs : s.size ≤ 16777216) :
    Calls Tryz.prog 53 #[ptrV t, .string s] w fun e w' => e = .returned (.tuple #[optV (locL Ls) (fileE σ.nodes (ofS s)).1, .int .i64 (fileE σ.nodes (ofS s)).2]) ∧ Below w.heap.size w w' := by
  have HN := Hid.mk (node_any w t σ Ls hT s hs)
  have HT := Hid.mk hT
  clear hs
  rcases nodeE_or σ.nodes (ofS s) with ⟨j, hj⟩ | ⟨e, he, hne⟩
  · have hjl := nodeE_lt hT _ hj
    rw [hj] at HN
    have HV : Hid (fileE σ.nodes (ofS s) = if (nodeAt σ.nodes j).isDir = true then (none, 13) else (some j, 0)) := Hid.mk (by unfold fileE; rw [hj])
    clear hT
    unfold optV ptrV at HN
    unfold ptrV
    rcases kind_two (nodeAt σ.nodes j) with ⟨k1, k2⟩ | ⟨k1, k2⟩
    · rw [if_pos k1] at HV
      go_enter Tryz.func53, Tryz.ntmps53
      go_wp2_with (go_at_call 58; refine HN.out.mono ?_; rintro e W1 ⟨rfl, hB⟩; obtain ⟨g0, -, -⟩ := (HT.out.below rfl hB).kindAt hjl; rw [k2] at g0; have HB := Hid.mk hB; clear hB)
      refine bodyPost_ret (results_tmp2 rfl _ _ _) rfl ⟨?_, HB.out⟩
      rw [HV.out]
      rfl
    · rw [if_neg (by rw [k1]; decide)] at HV
      go_enter Tryz.func53, Tryz.ntmps53
      go_wp2_with (go_at_call 58; refine HN.out.mono ?_; rintro e W1 ⟨rfl, hB⟩; obtain ⟨g0, -, -⟩ := (HT.out.below rfl hB).kindAt hjl; rw [k2] at g0; have HB := Hid.mk hB; clear hB)
      refine bodyPost_ret (results_tmp2 rfl _ _ _) rfl ⟨?_, HB.out⟩
      rw [HV.out]
      rfl
  · rw [he] at HN
    have HV : Hid (fileE σ.nodes (ofS s) = (none, e)) := Hid.mk (by unfold fileE; rw [he])
    clear hT
    unfold optV at HN
    unfold ptrV at *
    go_enter Tryz.func53, Tryz.ntmps53
    go_wp2_with (go_at_call 58; refine HN.out.mono ?_; rintro e' W1 ⟨rfl, hB⟩; have HB := Hid.mk hB; clear hB)
    refine bodyPost_ret (results_tmp2 rfl _ _ _) rfl ⟨?_, HB.out⟩
    rw [HV.out]
    rfl
/-- A place, as a value; none: the zero value. -/
def spotV (loc : Nat → Nat) : Option Sp → Value
  | none => .agg #[.pointer none, .string ⟨#[]⟩, .pointer none]
  | some sp => .agg #[ptrV (loc sp.dir), strV sp.name, optV loc sp.named]
def spotE (N : List Nd) (L : List (List UInt8)) (p : List UInt8) : Int × Option Sp :=
  match wayE N 0 L with
  | (some d, _) => if (nodeAt N d).isDir = true then (0, some ⟨d, p, lookS (nodeAt N d).slots p⟩) else (12, none)
  | (none, e) => (e, none)
theorem SAt.front {W : World} {ao : Option Addr} {L : List (List UInt8)} {p : List UInt8} (h : SAt W ao (L.length + 1) (L ++ [p])) : SAt W ao L.length L := by
  refine ⟨rfl, fun hn => ?_⟩
  obtain ⟨a, ea, hlt, hc⟩ := h.2 (by omega)
  refine ⟨a, ea, hlt, fun k hk => ?_⟩
  rw [hc k (by omega)]
  congr 2
  simp [List.getD, List.getElem?_append_left hk]
theorem TrAt.dirAt {W : World} {t : Nat} {σ : Tr} {Ls : List Lay} (h : TrAt W t σ Ls) {d : Nat} (hd : d < σ.nodes.length) (hk : (nodeAt σ.nodes d).isDir = true) : ∃ b m r c l z s, Ls[d]? = some (.dir b m r c) ∧ σ.nodes[d]? = some (.dir l z s) ∧ DrAt W (locL Ls) b m r c l z s ∧ locL Ls d = b ∧ nodeAt σ.nodes d = .dir l z s := by
  obtain ⟨L, n, h1, h2, h3, h4⟩ := h.get hd
  have e : nodeAt σ.nodes d = n := by unfold nodeAt; rw [List.getD, h2]; rfl
  rw [e] at hk ⊢
  cases n with
  | file => cases hk
  | dir l z s =>
    obtain ⟨b, m, r, c, rfl, hdr⟩ := h3.kind_dir
    exact ⟨b, m, r, c, l, z, s, h1, h2, hdr, h4, rfl⟩
set_option maxRecDepth 100000 in
set_option maxHeartbeats 4000000 in
theorem spot_any (w : World) (t : Nat) (σ : Tr) (Ls : List Lay) (hT : TrAt w t σ Ls) (ao : Option Addr) (c : Nat) (L : List (List UInt8)) (p : List UInt8) (hS : SAt w ao (L.length + 1) (L ++ [p])) (hL : ∀ q ∈ L ++ [p], q.length ≤ 1000) (hll : L.length + 1 ≤ 16777216) (hc : L.length + 1 ≤ c) (hc2 : c ≤ 9223372036854775807) :
    Calls Tryz.prog 49 #[ptrV t, .slice ao (L.length + 1) c] w fun e w' => e = .returned (.tuple #[spotV (locL Ls) (spotE σ.nodes L p).2, .int .i64 (spotE σ.nodes L p).1]) ∧ Below w.heap.size w w' := by
  have HF : Hid (∀ W, Below w.heap.size w W → _) := Hid.mk (fun W (hB : Below w.heap.size w W) => find_any W t σ Ls (hT.below rfl hB) ao c L (hS.front.below hB) (fun q hq => hL q (by simp [hq])) (by omega))
  have HT := Hid.mk hT
  have HSA := Hid.mk hS
  have HP : Hid (p.length ≤ 1000) := Hid.mk (hL p (by simp))
  obtain ⟨a, ea, _, hca⟩ := hS.2 (by omega)
  subst ea
  have HCA : Hid (∀ W, Below w.heap.size w W → W.cell? (a.add L.length) = some (.string (mkS p))) := Hid.mk (fun W hB => by
    obtain ⟨a', ea, _, h⟩ := (hS.below hB).2 (by omega)
    cases ea
    rw [h L.length (by omega)]
    simp [strV, List.getD])
  have hw2 : wrap64 (L.length : Int) = (L.length : Int) := by unfold wrap64; omega
  have hb1 : (L.length : Int) ≤ (c : Int) := by omega
  have hb2 : (L.length : Int) < ((L.length + 1 : Nat) : Int) := by omega
  have hb3 : L.length ≤ c := by omega
  generalize hm : L.length = m at *
  clear hT hS hL hll hc hc2 hca
  unfold ptrV
  go_enter Tryz.func49, Tryz.ntmps49
  go_wp2_with fail
  obtain ⟨X, hX⟩ : ∃ X, X = w.alloc (.cells #[.pointer none, .string ⟨#[]⟩, .pointer none] 73) := ⟨_, rfl⟩
  have hXB : Below w.heap.size w X := by rw [hX]; exact (Below.refl _ w).alloc (Nat.le_refl _) _
  have hXn : X.heap[w.heap.size]? = some (.cells #[.pointer none, .string ⟨#[]⟩, .pointer none] 73 (0, 0)) := by rw [hX]; exact blk_new w _
  have hXs : X.heap.size = w.heap.size + 1 := by rw [hX]; simp
  rw [← hX]
  refine (HF.out X hXB).mono ?_
  rintro e W1 ⟨rfl, hB1⟩
  have hB : Below w.heap.size w W1 := hXB.trans (hB1.mono (by omega))
  have hbox := (hB1.block w.heap.size (by omega)).trans hXn
  have x0 := blk_cell hbox 0
  have x1 := blk_cell hbox 1
  have x2 := blk_cell hbox 2
  have y0 := blk_free hbox 0
  have y1 := blk_free hbox 1
  have y2 := blk_free hbox 2
  simp at x0 x1 x2
  have HBX := Hid.mk hbox
  have HB := Hid.mk hB
  clear hX hXB hXn hXs hB1 hbox HF
  rcases wayE_or σ.nodes 0 L with ⟨d, hd⟩ | ⟨e, he, hne⟩
  · have hdl := wayE_lt HT.out L hd
    obtain ⟨g0, -, -⟩ := (HT.out.below rfl hB).kindAt hdl
    rw [hd]
    rcases kind_two (nodeAt σ.nodes d) with ⟨k1, k2⟩ | ⟨k1, k2⟩
    · obtain ⟨b, m', r, cc, l, z, s, q1, q2, q3, q4, q5⟩ := (HT.out.below rfl hB).dirAt hdl k1
      have HLK := Hid.mk (look_any W1 (locL Ls) b m' r cc l z s q3 p HP.out)
      rw [← q4] at HLK
      have HV : Hid (spotE σ.nodes L p = (0, some ⟨d, p, lookS s p⟩)) := Hid.mk (by unfold spotE; rw [hd]; simp only; rw [if_pos k1, q5]; rfl)
      have hca := HCA.out W1 hB
      rw [k2] at g0
      unfold ptrV strV at HLK
      unfold optV ptrV
      have hov : ∃ o, optV (locL Ls) (lookS s p) = .pointer o := by cases lookS s p <;> exact ⟨_, rfl⟩
      obtain ⟨o, hov⟩ := hov
      rw [hov] at HLK
      have HOV := Hid.mk hov
      clear hB q1 q2 q3 q4 q5 hd hdl k1 k2 hov
      go_wp2_with (go_at_call 63; refine HLK.out.mono ?_; rintro e W2 ⟨rfl, hw⟩; subst W2)
      refine bodyPost_ret (v := .tuple #[.agg #[.pointer (some ⟨locL Ls d, 0, none⟩), .string (mkS p), .pointer o], .int .i64 0]) ?_ rfl ⟨?_, ?_⟩
      · simp [results, Tryz.results49, go_sem, x0, x1, x2]
      · rw [HV.out]
        simp only [spotV, HOV.out]
        rfl
      · exact ((HB.out.setCell (p := ⟨w.heap.size, 0, none⟩) (Nat.le_refl _) _).setCell (p := ⟨w.heap.size, 1, none⟩) (Nat.le_refl _) _).setCell (p := ⟨w.heap.size, 2, none⟩) (Nat.le_refl _) _
    · rw [k2] at g0
      have HV : Hid (spotE σ.nodes L p = (12, none)) := Hid.mk (by unfold spotE; rw [hd]; simp only; rw [if_neg (by rw [k1]; decide)])
      unfold optV ptrV
      clear hB hd hdl k1 k2
      go_wp2
      refine bodyPost_ret (v := .tuple #[.agg #[.pointer none, .string ⟨#[]⟩, .pointer none], .int .i64 12]) ?_ rfl ⟨?_, ?_⟩
      · simp [results, Tryz.results49, go_sem, x0, x1, x2]
      · rw [HV.out]; rfl
      · exact ((HB.out.setCell (p := ⟨w.heap.size, 0, none⟩) (Nat.le_refl _) _).setCell (p := ⟨w.heap.size, 1, none⟩) (Nat.le_refl _) _).setCell (p := ⟨w.heap.size, 2, none⟩) (Nat.le_refl _) _
  · rw [he]
    have HV : Hid (spotE σ.nodes L p = (e, none)) := Hid.mk (by unfold spotE; rw [he])
    unfold optV
    clear hB he
    go_wp2
    refine bodyPost_ret (v := .tuple #[.agg #[.pointer none, .string ⟨#[]⟩, .pointer none], .int .i64 e]) ?_ rfl ⟨?_, ?_⟩
    · simp [results, Tryz.results49, go_sem, x0, x1, x2]
    · rw [HV.out]; rfl
    · exact ((HB.out.setCell (p := ⟨w.heap.size, 0, none⟩) (Nat.le_refl _) _).setCell (p := ⟨w.heap.size, 1, none⟩) (Nat.le_refl _) _).setCell (p := ⟨w.heap.size, 2, none⟩) (Nat.le_refl _) _
end Go.Proofs.YtehaoeclnmelhabGreat
