/-
  add, whatever room there is; the tree behind 'enter'.
-/
import Derived.Test.YtehaoeclnmelhacGreatTrEnter
import Derived.Deep.Cut
import Derived.Deep.CutRange
import Derived.Deep.RegionWith
namespace Go.Proofs.YtehaoeclnmelhacGreat
open Go Go.Proofs Go.RowKit Go.Shelf Go.Sort

theorem TrAt.tb {W : World} {t : Nat} {σ : Tr} {Ls : List Lay} (h : TrAt W t σ Ls) : TbAt W t σ.G σ.I σ.D (locL Ls 0) σ.inodes σ.blocks := h.tree
theorem growth_bound (n : Nd) (hk : n.Ok) : -300 ≤ n.growth ∧ n.growth ≤ 1048576 + 300 := by
  unfold Nd.growth
  split
  · omega
  · have h1 := room_bound (n.nos ++ [(n.nos.length : Int)])
    have h2 := room_bound n.nos
    have h3 := nos_len n hk
    have h4 : (n.nos.length : Int) ≤ roomL n.nos := by unfold roomL; omega
    have h5 : ((n.nos ++ [(n.nos.length : Int)]).length : Int) ≤ roomL (n.nos ++ [(n.nos.length : Int)]) := by unfold roomL; omega
    simp only [List.length_append, List.length_cons, List.length_nil] at h1 h5
    omega
theorem add_any (w : World) (loc : Nat → Nat) (b m r c : Nat) (l z : Int) (s : List Slt) (h : DrAt w loc b m r c l z s) (hd : [b, m, r].Nodup) (hn : s.length ≤ 16777216) (p : List UInt8) (hp : p.length ≤ 1000) (hno : lookS s p = none) (j : Nat) :
    Calls Tryz.prog 40 #[ptrV b, strV p, ptrV (loc j)] w fun e w' => e = .returned (.tuple #[]) ∧ ∃ r' c' z' s', Nd.add p j (.dir l z s) = .dir l z' s' ∧ DrAt w' loc b m r' c' l z' s' ∧ Only (fun k => k = b ∨ k = m ∨ k = r) w w' ∧ (r' = r ∨ (w.heap.size ≤ r' ∧ r' < w'.heap.size)) := by
  have hno' : ¬ nameAt s p < s.length := fun h => by
    have := look_lt s p
    rw [hno] at this
    simp [h] at this
  by_cases hf : freeAt s < s.length
  · refine (add_room w loc b m r c l z s h hd hn p hp hno' hf j).mono ?_
    rintro e w' ⟨h1, h2, h3⟩
    exact ⟨h1, r, c, z, _, by simp [Nd.add, hf], h2, h3.mono (fun i _ hi => .inr hi), .inl rfl⟩
  · have hf' : freeAt s = s.length := by
      have := List.findIdx_le_length (p := fun o : Slt => o.isNone) (xs := s)
      change freeAt s ≤ s.length at this
      omega
    refine (add_grow w loc b m r c l z s h hd hn p hp hno' hf' j).mono ?_
    rintro e w' ⟨h1, r', c', h2, h3, h4⟩
    exact ⟨h1, r', c', _, _, by simp [Nd.add, hf], h2, h3, h4⟩
theorem foot_nodup {Ls : List Lay} (h : (Ls.flatMap Lay.foot).Nodup) {i : Nat} {A : Lay} (hi : Ls[i]? = some A) : A.foot.Nodup := by
  induction Ls generalizing i with
  | nil => simp at hi
  | cons L Ls ih =>
    rw [List.flatMap_cons, List.nodup_append] at h
    cases i with
    | zero => simp at hi; subst hi; exact h.1
    | succ i => simp at hi; exact ih h.2.1 hi
theorem modify_set {α : Type} {l : List α} {d : Nat} {x : α} (h : l[d]? = some x) (f : α → α) : l.modify d f = l.set d (f x) := by
  apply List.ext_getElem?
  intro i
  rw [List.getElem?_modify, List.getElem?_set]
  by_cases e : d = i
  · subst e
    rw [if_pos rfl, h, if_pos (List.getElem?_eq_some_iff.1 h).1]
    simp
  · rw [if_neg e]
    simp [e]
/-- The tree behind 'enter'. -/
theorem enter_fin {w W' : World} {t : Nat} {σ : Tr} {Ls : List Lay} (hT : TrAt w t σ Ls) {L : Lay} {n : Nd} (hN : NdAt w (locL Ls) L n) (hns : ∀ q, some q ∉ n.slots) (h1 : ∀ k ∈ L.foot, k ∉ feet t Ls) (h2 : L.foot.Nodup) {d b m r c r' c' : Nat} {l z z' l' : Int} {s s' : List Slt} (q1 : Ls[d]? = some (.dir b m r c)) (q2 : σ.nodes[d]? = some (.dir l z s)) (p : List UInt8)
    (ha : Nd.add p σ.nodes.length (.dir l z s) = .dir l z' s') (hl : l' = if n.isDir = true then w64 (l + 1) else l) (hD : DrAt W' (locL (Ls ++ [L])) b m r' c' l' z' s') (hr : r' = r ∨ w.heap.size ≤ r') (hb : TbAt W' t σ.G σ.I σ.D (locL Ls 0) (w64 (σ.inodes + 1)) (w64 (σ.blocks + enterB σ d n)))
    (ho : Only (fun k => k = t ∨ k = b ∨ k = m ∨ k = r) w W') : Step (fun k => k ∈ feet t Ls ∨ k ∈ L.foot) w t W' (enterT σ d p n) := by
  have hP := hT.push hN hns h1 h2
  have hdl := (List.getElem?_eq_some_iff.1 q2).1
  have q1' : (Ls ++ [L])[d]? = some (.dir b m r c) := by rw [List.getElem?_append_left (List.getElem?_eq_some_iff.1 q1).1]; exact q1
  have q2' : (σ.nodes ++ [n])[d]? = some (.dir l z s) := by rw [List.getElem?_append_left hdl]; exact q2
  have hpos : 0 < Ls.length := by
    obtain ⟨_, _, _, h0⟩ := hT.root
    rw [hT.len]
    exact (List.getElem?_eq_some_iff.1 h0).1
  have hnd : [b, m, r].Nodup := foot_nodup (List.nodup_cons.1 hP.apart).2 q1'
  have hnd' : [b, m, r'].Nodup := by
    rcases hr with rfl | hr
    · exact hnd
    · have e1 := hP.lt b (mem_feet q1' (by simp [Lay.foot]))
      have e2 := hP.lt m (mem_feet q1' (by simp [Lay.foot]))
      simp at hnd ⊢
      exact ⟨⟨hnd.1.1, by omega⟩, by omega⟩
  have hn' : (if n.isDir = true then (Nd.add p σ.nodes.length (.dir l z s)).more 1 else Nd.add p σ.nodes.length (.dir l z s)) = .dir l' z' s' := by
    rw [ha, hl]
    split <;> rfl
  have hslots : ∀ q, some q ∈ s' → q.1 < σ.nodes.length + 1 := by
    intro q hq
    have hold : ∀ q, some q ∈ s → q.1 < σ.nodes.length := fun q hq => hT.refs _ (List.mem_of_getElem? q2) q hq
    have hset : ∀ (u : List Slt) (k : Nat), some q ∈ u.set k (some (σ.nodes.length, p)) → some q ∈ u ∨ q = (σ.nodes.length, p) := fun u k h => by
      rcases List.mem_or_eq_of_mem_set h with h | h
      · exact .inl h
      · cases h; exact .inr rfl
    simp only [Nd.add] at ha
    split at ha
    · cases ha
      rcases hset _ _ hq with h | h
      · have := hold q h; omega
      · rw [h]; simp
    · cases ha
      rcases hset _ _ hq with h | h
      · rcases List.mem_append.1 h with h | h
        · have := hold q h; omega
        · have := List.eq_of_mem_replicate h; cases this
      · rw [h]; simp
  have hfin := hP.turn (L' := .dir b m r' c') (n' := .dir l' z' s') q1' rfl (ho.mono (fun i _ hi => by simpa [Lay.foot] using hi)) (i' := w64 (σ.inodes + 1)) (b' := w64 (σ.blocks + enterB σ d n)) (by rw [locL_push _ _ hpos]; exact hb) hD
    (fun k hk => by
      simp only [Lay.foot, List.mem_cons, List.not_mem_nil, or_false] at hk ⊢
      rcases hk with rfl | rfl | rfl
      · exact .inl (.inl rfl)
      · exact .inl (.inr (.inl rfl))
      · rcases hr with rfl | hr
        · exact .inl (.inr (.inr rfl))
        · exact .inr hr) hnd' (fun q hq => by simpa using hslots q hq) (fun _ => rfl)
  refine ⟨⟨(Ls ++ [L]).set d (.dir b m r' c'), ?_, fun k hk => ?_⟩, ho.mono (fun i hi h => ?_)⟩
  · unfold enterT
    rw [modify_set q2', hn']
    exact hfin
  · have := (feet_set (t := t) (L' := .dir b m r' c') q1' hP.apart (fun k hk => hP.lt k hk) (fun k hk => by
      simp only [Lay.foot, List.mem_cons, List.not_mem_nil, or_false] at hk ⊢
      rcases hk with rfl | rfl | rfl
      · exact .inl (.inl rfl)
      · exact .inl (.inr (.inl rfl))
      · rcases hr with rfl | hr
        · exact .inl (.inr (.inr rfl))
        · exact .inr hr) hnd').2 k hk
    rcases this with h | h
    · refine .inl ?_
      unfold feet at h ⊢
      rw [List.flatMap_append, List.mem_cons, List.mem_append] at h
      rcases h with rfl | h | h
      · exact .inl (by simp)
      · exact .inl (List.mem_cons_of_mem _ h)
      · exact .inr (by simpa using h)
    · exact .inr h.1
  · refine .inl ?_
    rcases h with rfl | h
    · simp [feet]
    · exact mem_feet q1 (by simpa [Lay.foot] using h)
end Go.Proofs.YtehaoeclnmelhacGreat
namespace Go.Proofs.YtehaoeclnmelhacGreat
open Go Go.Proofs Go.RowKit Go.Shelf Go.Sort

def enterR (σ : Tr) (d : Nat) (p : List UInt8) (n : Nd) : Tr := if enterE σ d n = 0 then enterT σ d p n else σ
theorem DrAt.links {W : World} {loc : Nat → Nat} {b m r c : Nat} {l z : Int} {s : List Slt} (h : DrAt W loc b m r c l z s) (hd : [b, m, r].Nodup) (l' : Int) : DrAt (W.setCell ⟨b, 1, none⟩ (.int .i64 l')) loc b m r c l' z s := by
  obtain ⟨d1, d2, d3⟩ : b ≠ m ∧ b ≠ r ∧ m ≠ r := by simp at hd; exact ⟨hd.1.1, hd.1.2, hd.2⟩
  refine ⟨by rw [blk_set h.node]; rfl, owns_at h.row (fun k e => by cases e; exact Below.heap_setCell _ _ _ _ (fun e => d2 e.symm)), h.places.kept (Below.heap_setCell _ _ _ _ (fun e => d1 e.symm)), h.names⟩
theorem two_below {w X A B : World} (h : Below w.heap.size w A ∧ Below X.heap.size X A) (hb : Below A.heap.size A B) : Below w.heap.size w B ∧ Below X.heap.size X B := ⟨h.1.trans (hb.mono h.1.size), h.2.trans (hb.mono h.2.size)⟩
set_option maxRecDepth 100000 in
set_option maxHeartbeats 4000000 in
theorem enter_main (w : World) (t : Nat) (σ : Tr) (Ls : List Lay) (hT : TrAt w t σ Ls) (hOk : ∀ x ∈ σ.nodes, x.Ok) (s : ByteArray) (hs : s.size ≤ 16777216) (L : Lay) (n : Nd) (hN : NdAt w (locL Ls) L n) (hnk : n.Ok) (M : List (List UInt8)) (p : List UInt8) (hsp : splitL (ofS s) = some (M ++ [p])) (d : Nat) (he : spotE σ.nodes M p = (0, some ⟨d, p, none⟩)) (hc : ¬ (n.isDir = true ∧ 32000 ≤ (nodeAt σ.nodes d).links)) (hns : ∀ q, some q ∉ n.slots) (h1 : ∀ k ∈ L.foot, k ∉ feet t Ls) (h2 : L.foot.Nodup) :
    Calls Tryz.prog 33 #[ptrV t, .string s, ptrV L.b] w fun e w' => e = .returned (.int .i64 (enterE σ d n)) ∧ Step (fun k => k ∈ feet t Ls ∨ k ∈ L.foot) w t w' (enterR σ d p n) := by
  obtain ⟨hL, hll⟩ := split_bounds hsp
  have HS := Hid.mk (split_yes w s hs hsp)
  have hln : (M ++ [p]).length = M.length + 1 := by simp
  rw [hln] at HS
  have HU : Hid (∀ W ao c, Below w.heap.size w W → SAt W ao (M.length + 1) (M ++ [p]) → M.length + 1 ≤ c → c ≤ 9223372036854775807 → _) := Hid.mk (fun W ao c (hB : Below w.heap.size w W) hS h1 h2 => unnamed_any W t σ Ls (hT.below rfl hB) ao c M p hS hL (by simp at hll; omega) h1 h2)
  obtain ⟨hdl, hdk, hdn⟩ : d < σ.nodes.length ∧ (nodeAt σ.nodes d).isDir = true ∧ lookS (nodeAt σ.nodes d).slots p = none := by
    rcases spotE_or σ.nodes M p with ⟨d', o, h, h1, h2, h3⟩ | ⟨e, h, _⟩
    · rw [he] at h; cases h; exact ⟨wayE_lt hT M h1, h2, h3.symm⟩
    · rw [he] at h; cases h
  obtain ⟨b, m', r, cc, l, z, sl, q1, q2, q3, q4, q5⟩ := hT.dirAt hdl hdk
  have hdok : (Nd.dir l z sl).Ok := hOk _ (List.mem_of_getElem? q2)
  have HV : Hid (unE (0, some ⟨d, p, none⟩) = 0) := Hid.mk rfl
  rw [he] at HU
  simp only [HV.out, spotV, optV, ptrV, strV, q4] at HU
  have HK : Hid (∀ W, Below w.heap.size w W → W.cell? ⟨L.b, 0, none⟩ = some (.int .i64 n.kind) ∧ W.cell? ⟨b, 1, none⟩ = some (.int .i64 l)) := Hid.mk (fun W hB => by
    obtain ⟨_, _, _, hh⟩ := (hN.kept (fun k hk => hB.block k (hN.lt k hk))).head
    refine ⟨by rw [blk_cell hh]; rfl, ?_⟩
    have := ((hT.below rfl hB).kindAt hdl).2.1
    rw [q5, q4] at this
    exact this)
  have HNO : Hid (∀ W, Below w.heap.size w W → _) := Hid.mk (fun W (hB : Below w.heap.size w W) => nos_any W (locL Ls) L n (hN.kept (fun k hk => hB.block k (hN.lt k hk))) hnk)
  have HGR : Hid (∀ W, Below w.heap.size w W → _) := Hid.mk (fun W (hB : Below w.heap.size w W) => growth_any W (locL Ls) b m' r cc l z sl (q3.kept (fun k hk => hB.block k (by
    have := hT.lt k (mem_feet q1 hk)
    exact this))) hdok.2.2 hdok.1 hdok.2.1)
  have HTK : Hid (∀ W y, Below w.heap.size w W → _) := Hid.mk (fun W y (hB : Below w.heap.size w W) => take_any W t (locL Ls 0) σ.G σ.I σ.D σ.inodes σ.blocks (hT.tb |> fun h => (hB.block t (lt_of_block hT.tree)).trans h) 1 y)
  have HLN := Hid.mk (nos_len n hnk)
  have htf : t ∉ [b, m', r] := fun h => (List.nodup_cons.1 hT.apart).1 (List.mem_flatMap.2 ⟨_, List.mem_of_getElem? q1, by simpa [Lay.foot] using h⟩)
  have HTN : Hid (¬ (t = b ∨ t = m' ∨ t = r)) := Hid.mk (by simpa using htf)
  have hbnd : [b, m', r].Nodup := foot_nodup (List.nodup_cons.1 hT.apart).2 q1
  have HDO : Hid (∀ W, Only (fun k => k = t) w W → DrAt W (locL (Ls ++ [L])) b m' r cc l z sl ∧ ∀ W', Only (fun k => k = b ∨ k = m' ∨ k = r) W W' → W'.cell? ⟨L.b, 0, none⟩ = some (.int .i64 n.kind)) := Hid.mk (fun W ho => by
    refine ⟨?_, fun W' ho' => ?_⟩
    · have h3 : NdAt W (locL Ls) (.dir b m' r cc) (.dir l z sl) := NdAt.kept (show NdAt w (locL Ls) (.dir b m' r cc) (.dir l z sl) from q3) (fun k hk => ho.block k (hT.lt k (mem_feet q1 hk)) (fun e => by subst e; exact htf (by simpa [Lay.foot] using hk)))
      exact h3.reloc (fun q hq => (locL_push _ _ (by rw [hT.len]; exact hT.refs _ (List.mem_of_getElem? q2) q hq)).symm)
    · have hlb := hN.lt L.b L.b_foot
      obtain ⟨_, _, _, hh⟩ := hN.head
      have e1 := (ho.block L.b hlb (fun e => h1 L.b L.b_foot (by rw [e]; simp [feet]))).trans hh
      have e2 := (ho'.block L.b (lt_of_block e1) (fun e => h1 L.b L.b_foot (mem_feet q1 (by simpa [Lay.foot] using e)))).trans e1
      rw [blk_cell e2]
      rfl)
  have HADD : Hid (∀ W, DrAt W (locL (Ls ++ [L])) b m' r cc l z sl → _) := Hid.mk (fun W (h : DrAt W (locL (Ls ++ [L])) b m' r cc l z sl) => add_any W (locL (Ls ++ [L])) b m' r cc l z sl h hbnd hdok.2.2 p (hL p (by simp)) (by rw [q5] at hdn; exact hdn) σ.nodes.length)
  have hlast : locL (Ls ++ [L]) σ.nodes.length = L.b := by rw [← hT.len]; exact locL_last Ls L
  rw [hlast] at HADD
  have HFIN : Hid True := Hid.mk trivial
  have HBN := Hid.mk hbnd
  clear htf hbnd hlast
  have hbb : enterB σ d n = wrap64 (roomL n.nos + Nd.growth (.dir l z sl)) := by unfold enterB; rw [q5]
  have HBB := Hid.mk hbb
  have hE : enterE σ d n = if fitsB σ.G σ.I σ.D σ.inodes σ.blocks 1 (enterB σ d n) = true then 0 else 16 := by unfold enterE; rw [if_neg hc]
  have HE := Hid.mk hE
  have HT := Hid.mk hT
  have HNN := Hid.mk hN
  have hlk : n.kind = 2 → ¬ (32000 : Int) ≤ l := fun h2' hl => hc ⟨by rcases kind_two n with ⟨k, _⟩ | ⟨_, k⟩; exact k; omega, by rw [q5]; exact hl⟩
  have hk12 : n.kind = 2 ∨ n.kind = 1 := by rcases kind_two n with ⟨_, k⟩ | ⟨_, k⟩; exact .inl k; exact .inr k
  have REST : Hid (∀ wc : World, fitsB σ.G σ.I σ.D σ.inodes σ.blocks 1 (enterB σ d n) = true → TbAt wc t σ.G σ.I σ.D (locL Ls 0) (w64 (σ.inodes + 1)) (w64 (σ.blocks + enterB σ d n)) → Only (fun k => k = t) w wc → True) := Hid.mk (fun _ _ _ _ => trivial)
  clear REST hsp hs hL hll hln HV he hc hE hbb
  generalize hkd : n.kind = kd at *
  generalize hgr : Nd.growth (.dir l z sl) = gr at *
  unfold ptrV at *
  go_enter Tryz.func33, Tryz.ntmps33
  go_upto_region 7 with (first
      | (go_at_call 54; refine HS.out.mono ?_; rintro e' W1 ⟨ao, c, rfl, hSA, h1', h2', hB⟩; have HUU := Hid.mk (HU.out W1 ao c hB hSA h1' h2'); have HB := Hid.mk hB; clear hB hSA h1' h2')
      | (go_at_call 37; refine HUU.out.mono ?_; rintro e' W2 ⟨rfl, hB⟩; have HB2 := Hid.mk hB; clear hB))
  obtain ⟨X, hX⟩ : ∃ X, X = W2.alloc (.cells #[.pointer (some ⟨b, 0, none⟩), .string (mkS p), .pointer none] 69) := ⟨_, rfl⟩
  have hWX := HB.out.trans (HB2.out.mono HB.out.size)
  have hBX : Below w.heap.size w X := by rw [hX]; exact hWX.alloc hWX.size _
  have hsb : X.heap[W2.heap.size]? = some (.cells #[.pointer (some ⟨b, 0, none⟩), .string (mkS p), .pointer none] 69 (0, 0)) := by rw [hX]; exact blk_new W2 _
  have hsz : X.heap.size = W2.heap.size + 1 := by rw [hX]; simp
  rw [← hX]
  have hwsb : w.heap.size ≤ W2.heap.size := hWX.size
  generalize W2.heap.size = sb at *
  have x0 := blk_cell hsb 0
  have x1 := blk_cell hsb 1
  simp at x0 x1
  obtain ⟨g0, g1⟩ := HK.out X hBX
  have HSB := Hid.mk hsb
  have HBX := Hid.mk hBX
  clear hX hWX hBX hsb hsz HB HB2 HUU
  rcases hk12 with rfl | rfl
  · have hl' : l < 32000 := by have := hlk rfl; omega
    clear hlk hnk hOk hN hT
    go_upto_region 9 with fail
    go_cut [10] from 41 to 49 (fun s10 wc => Hid ((fitsB σ.G σ.I σ.D σ.inodes σ.blocks 1 (enterB σ d n) = false ∧ s10 = .int .i64 16 ∧ Below w.heap.size w wc ∧ Below X.heap.size X wc) ∨ (fitsB σ.G σ.I σ.D σ.inodes σ.blocks 1 (enterB σ d n) = true ∧ s10 = .int .i64 0 ∧ TbAt wc t σ.G σ.I σ.D (locL Ls 0) (w64 (σ.inodes + 1)) (w64 (σ.blocks + enterB σ d n)) ∧ Only (fun k => k = t) X wc)))
    case first =>
      have XB0 : Hid (Below w.heap.size w X.drew ∧ Below X.heap.size X X.drew) := Hid.mk ⟨HBX.out.drew, (Below.refl _ X).drew⟩
      have hTK2 : Hid (∀ W, Below w.heap.size w W ∧ Below X.heap.size X W → Calls Tryz.prog 38 #[.pointer (some ⟨t, 0, none⟩), .int .i64 1, .int .i64 (enterB σ d n)] W fun e w' => ∃ v, e = .returned v ∧ Hid ((fitsB σ.G σ.I σ.D σ.inodes σ.blocks 1 (enterB σ d n) = false ∧ v = .int .i64 16 ∧ Below w.heap.size w w' ∧ Below X.heap.size X w') ∨ (fitsB σ.G σ.I σ.D σ.inodes σ.blocks 1 (enterB σ d n) = true ∧ v = .int .i64 0 ∧ TbAt w' t σ.G σ.I σ.D (locL Ls 0) (w64 (σ.inodes + 1)) (w64 (σ.blocks + enterB σ d n)) ∧ Only (fun k => k = t) X w'))) := Hid.mk (fun W hW => (HTK.out W _ hW.1).mono (fun e w' h => by
        rcases h with ⟨h1, h2, h3⟩ | ⟨h1, h2, h3, h4⟩
        · exact ⟨_, h2, .inl ⟨h1, rfl, (two_below hW h3).1, (two_below hW h3).2⟩⟩
        · exact ⟨_, h2, .inr ⟨h1, rfl, h3, (Only.of_new (fun k => k = t) hW.2).trans h4 (fun i hi => .inl hi)⟩⟩))
      have hbw : IntKind.i64.wrap (roomL n.nos + gr) = enterB σ d n := by rw [HBB.out, wrap_eq]
      have HXS : Hid (∀ W, Below X.heap.size X W → W.cell? ⟨sb, 0, none⟩ = some (.pointer (some ⟨b, 0, none⟩))) := Hid.mk (fun W h => by rw [blk_cell ((h.block sb (lt_of_block HSB.out)).trans HSB.out)]; rfl)
      clear HTK HS HU HK HE HT HNN HDO HADD HFIN hns h1 h2 q1 q2 q3 hdn hdl hdk hdok q5 x1 hwsb g0 g1 HBB HBX
      go_region_with (first
        | (go_at_call 51; refine (HNO.out _ (by first | exact XB0.out.1 | exact XG.out.1)).mono ?_; rintro e' Wn ⟨ao', c', rfl, hown, hbn⟩; obtain ⟨ao2, c2, ev, hla⟩ := owns_lat hown; cases ev; have XN := Hid.mk (by first | exact two_below XB0.out hbn | exact two_below XG.out hbn); have LN := Hid.mk hla; have xn := HXS.out _ XN.out.2; clear hown hbn hla)
        | (go_at_call 52; refine (room_any _ _ _ _ n.nos (by first | exact LN.out | exact LN2.out) (by have := HLN.out; omega)).mono ?_; rintro e' Wr ⟨rfl, hbr⟩; have XR := Hid.mk (by first | exact two_below XN.out hbr | exact two_below XG.out hbr); have xr := HXS.out _ XR.out.2; clear hbr)
        | (go_at_call 39; refine (HGR.out _ (by first | exact XB0.out.1 | exact XN.out.1 | exact XR.out.1)).mono ?_; rintro e' Wg ⟨rfl, hbg⟩; have XG := Hid.mk (by first | exact two_below XB0.out hbg | exact two_below XN.out hbg | exact two_below XR.out hbg); (try (have LN2 := Hid.mk (LN.out.blw hbg))); have xg := HXS.out _ XG.out.2; clear hbg)
        | (go_at_call 38; (try rw [hbw]); refine (hTK2.out _ (by first | exact XR.out | exact XG.out)).mono ?_; rintro e' Wt ⟨v, rfl, hrel⟩))
      all_goals (go_wp2; go_meet; exact hrel)
    case rest =>
      rcases hcut.out with ⟨hf, rfl, hB1, hB2⟩ | ⟨hf, rfl, hTb, hO⟩
      · have HV : Hid (enterE σ d n = 16) := Hid.mk (by rw [HE.out, hf]; rfl)
        have HB1 := Hid.mk hB1
        clear hcut hB1 hB2 hf
        go_wp2
        go_ret
        unfold enterR
        rw [HV.out, if_neg (by decide)]
        exact ⟨rfl, Step.still HT.out (fun k hk => .inl hk) HB1.out⟩
      · have HV : Hid (enterE σ d n = 0) := Hid.mk (by rw [HE.out, hf]; rfl)
        have hsb2 : wc.heap[sb]? = some (.cells #[.pointer (some ⟨b, 0, none⟩), .string (mkS p), .pointer none] 69 (0, 0)) := (hO.block sb (lt_of_block HSB.out) (fun e => by have := lt_of_block HT.out.tree; omega)).trans HSB.out
        have y0 := blk_cell hsb2 0
        have y1 := blk_cell hsb2 1
        simp at y0 y1
        obtain ⟨hd1, hwo⟩ := HDO.out wc (Only.of_new (fun k => k = t) HBX.out |>.trans hO (fun i hi => .inl hi))
        have HAA := Hid.mk (HADD.out wc hd1)
        unfold ptrV strV at HAA
        have HSB2 := Hid.mk hsb2
        have HTB := Hid.mk hTb
        have HWO := Hid.mk hwo
        have HWC : Hid (Only (fun k => k = t) w wc) := Hid.mk ((Only.of_new (fun k => k = t) HBX.out).trans hO (fun i hi => .inl hi))
        have HCL : Hid (sb < wc.heap.size) := Hid.mk (lt_of_block hsb2)
        clear hcut hf hsb2 hTb hO hd1 hwo HADD HDO HBX HSB HNO HGR HTK HS HU HK x0 x1 g0 g1
        go_upto_region 13 with (go_at_call 40; refine HAA.out.mono ?_; rintro e' Wa ⟨rfl, r', c', z', s', ha, hda, hoa, hra⟩; have HA := Hid.mk ha; have HDA := Hid.mk hda; have HOA := Hid.mk hoa; have HRA := Hid.mk hra; clear ha hda hoa hra)
        have k0 := HWO.out Wa HOA.out
        have hsb3 : Wa.heap[sb]? = some (.cells #[.pointer (some ⟨b, 0, none⟩), .string (mkS p), .pointer none] 69 (0, 0)) := (HOA.out.block sb HCL.out (fun e => by
          have f1 := HT.out.lt b (mem_feet q1 (by simp [Lay.foot]))
          have f2 := HT.out.lt m' (mem_feet q1 (by simp [Lay.foot]))
          have f3 := HT.out.lt r (mem_feet q1 (by simp [Lay.foot]))
          rcases e with e | e | e <;> omega)).trans HSB2.out
        have u0 := blk_cell hsb3 0
        simp at u0
        have v1 := blk_cell HDA.out.node 1
        have w1 := blk_free HDA.out.node 1
        simp at v1
        clear hsb3
        go_wp2
        go_ret
        unfold enterR
        rw [HV.out, if_pos rfl]
        refine ⟨rfl, ?_⟩
        have hra := HRA.out
        refine enter_fin HT.out HNN.out hns h1 h2 q1 q2 p HA.out (c' := c') (l' := w64 (l + 1)) ?_ ?_ (hra.imp id (fun h => Nat.le_trans HWC.out.size h.1)) ?_ ?_
        · rw [if_pos (by rcases kind_two n with ⟨k, _⟩ | ⟨_, k⟩; exact k; omega)]
        · refine HDA.out.links ?_ _
          have hb1 := HBN.out
          rcases hra with rfl | hra
          · exact hb1
          · have f1 := HT.out.lt b (mem_feet q1 (by simp [Lay.foot]))
            have f2 := HT.out.lt m' (mem_feet q1 (by simp [Lay.foot]))
            have f3 := HWC.out.size
            simp at hb1 ⊢
            exact ⟨⟨hb1.1.1, by omega⟩, by omega⟩
        · have h3 := (HOA.out.block t (lt_of_block HTB.out) (fun e => HTN.out e)).trans HTB.out
          unfold TbAt
          rw [Below.heap_setCell _ _ _ _ (fun e => HTN.out (.inl e))]
          exact h3
        · refine ((HWC.out.mono (fun i _ hi => .inl hi)).trans HOA.out (fun i hi => .inl (.inr hi))).setCell (p := ⟨b, 1, none⟩) (.inl (.inr (.inl rfl))) _
  · clear hlk hnk hOk hN hT
    go_upto_region 9 with fail
    go_cut [10] from 41 to 49 (fun s10 wc => Hid ((fitsB σ.G σ.I σ.D σ.inodes σ.blocks 1 (enterB σ d n) = false ∧ s10 = .int .i64 16 ∧ Below w.heap.size w wc ∧ Below X.heap.size X wc) ∨ (fitsB σ.G σ.I σ.D σ.inodes σ.blocks 1 (enterB σ d n) = true ∧ s10 = .int .i64 0 ∧ TbAt wc t σ.G σ.I σ.D (locL Ls 0) (w64 (σ.inodes + 1)) (w64 (σ.blocks + enterB σ d n)) ∧ Only (fun k => k = t) X wc)))
    case first =>
      have XB0 : Hid (Below w.heap.size w X.drew ∧ Below X.heap.size X X.drew) := Hid.mk ⟨HBX.out.drew, (Below.refl _ X).drew⟩
      have hTK2 : Hid (∀ W, Below w.heap.size w W ∧ Below X.heap.size X W → Calls Tryz.prog 38 #[.pointer (some ⟨t, 0, none⟩), .int .i64 1, .int .i64 (enterB σ d n)] W fun e w' => ∃ v, e = .returned v ∧ Hid ((fitsB σ.G σ.I σ.D σ.inodes σ.blocks 1 (enterB σ d n) = false ∧ v = .int .i64 16 ∧ Below w.heap.size w w' ∧ Below X.heap.size X w') ∨ (fitsB σ.G σ.I σ.D σ.inodes σ.blocks 1 (enterB σ d n) = true ∧ v = .int .i64 0 ∧ TbAt w' t σ.G σ.I σ.D (locL Ls 0) (w64 (σ.inodes + 1)) (w64 (σ.blocks + enterB σ d n)) ∧ Only (fun k => k = t) X w'))) := Hid.mk (fun W hW => (HTK.out W _ hW.1).mono (fun e w' h => by
        rcases h with ⟨h1, h2, h3⟩ | ⟨h1, h2, h3, h4⟩
        · exact ⟨_, h2, .inl ⟨h1, rfl, (two_below hW h3).1, (two_below hW h3).2⟩⟩
        · exact ⟨_, h2, .inr ⟨h1, rfl, h3, (Only.of_new (fun k => k = t) hW.2).trans h4 (fun i hi => .inl hi)⟩⟩))
      have hbw : IntKind.i64.wrap (roomL n.nos + gr) = enterB σ d n := by rw [HBB.out, wrap_eq]
      have HXS : Hid (∀ W, Below X.heap.size X W → W.cell? ⟨sb, 0, none⟩ = some (.pointer (some ⟨b, 0, none⟩))) := Hid.mk (fun W h => by rw [blk_cell ((h.block sb (lt_of_block HSB.out)).trans HSB.out)]; rfl)
      clear HTK HS HU HK HE HT HNN HDO HADD HFIN hns h1 h2 q1 q2 q3 hdn hdl hdk hdok q5 x1 hwsb g0 g1 HBB HBX
      go_region_with (first
        | (go_at_call 51; refine (HNO.out _ (by first | exact XB0.out.1 | exact XG.out.1)).mono ?_; rintro e' Wn ⟨ao', c', rfl, hown, hbn⟩; obtain ⟨ao2, c2, ev, hla⟩ := owns_lat hown; cases ev; have XN := Hid.mk (by first | exact two_below XB0.out hbn | exact two_below XG.out hbn); have LN := Hid.mk hla; have xn := HXS.out _ XN.out.2; clear hown hbn hla)
        | (go_at_call 52; refine (room_any _ _ _ _ n.nos (by first | exact LN.out | exact LN2.out) (by have := HLN.out; omega)).mono ?_; rintro e' Wr ⟨rfl, hbr⟩; have XR := Hid.mk (by first | exact two_below XN.out hbr | exact two_below XG.out hbr); have xr := HXS.out _ XR.out.2; clear hbr)
        | (go_at_call 39; refine (HGR.out _ (by first | exact XB0.out.1 | exact XN.out.1 | exact XR.out.1)).mono ?_; rintro e' Wg ⟨rfl, hbg⟩; have XG := Hid.mk (by first | exact two_below XB0.out hbg | exact two_below XN.out hbg | exact two_below XR.out hbg); (try (have LN2 := Hid.mk (LN.out.blw hbg))); have xg := HXS.out _ XG.out.2; clear hbg)
        | (go_at_call 38; (try rw [hbw]); refine (hTK2.out _ (by first | exact XR.out | exact XG.out)).mono ?_; rintro e' Wt ⟨v, rfl, hrel⟩))
      all_goals (go_wp2; go_meet; exact hrel)
    case rest =>
      rcases hcut.out with ⟨hf, rfl, hB1, hB2⟩ | ⟨hf, rfl, hTb, hO⟩
      · have HV : Hid (enterE σ d n = 16) := Hid.mk (by rw [HE.out, hf]; rfl)
        have HB1 := Hid.mk hB1
        clear hcut hB1 hB2 hf
        go_wp2
        go_ret
        unfold enterR
        rw [HV.out, if_neg (by decide)]
        exact ⟨rfl, Step.still HT.out (fun k hk => .inl hk) HB1.out⟩
      · have HV : Hid (enterE σ d n = 0) := Hid.mk (by rw [HE.out, hf]; rfl)
        have hsb2 : wc.heap[sb]? = some (.cells #[.pointer (some ⟨b, 0, none⟩), .string (mkS p), .pointer none] 69 (0, 0)) := (hO.block sb (lt_of_block HSB.out) (fun e => by have := lt_of_block HT.out.tree; omega)).trans HSB.out
        have y0 := blk_cell hsb2 0
        have y1 := blk_cell hsb2 1
        simp at y0 y1
        obtain ⟨hd1, hwo⟩ := HDO.out wc (Only.of_new (fun k => k = t) HBX.out |>.trans hO (fun i hi => .inl hi))
        have HAA := Hid.mk (HADD.out wc hd1)
        unfold ptrV strV at HAA
        have HSB2 := Hid.mk hsb2
        have HTB := Hid.mk hTb
        have HWO := Hid.mk hwo
        have HWC : Hid (Only (fun k => k = t) w wc) := Hid.mk ((Only.of_new (fun k => k = t) HBX.out).trans hO (fun i hi => .inl hi))
        have HCL : Hid (sb < wc.heap.size) := Hid.mk (lt_of_block hsb2)
        clear hcut hf hsb2 hTb hO hd1 hwo HADD HDO HBX HSB HNO HGR HTK HS HU HK x0 x1 g0 g1
        go_upto_region 13 with (go_at_call 40; refine HAA.out.mono ?_; rintro e' Wa ⟨rfl, r', c', z', s', ha, hda, hoa, hra⟩; have HA := Hid.mk ha; have HDA := Hid.mk hda; have HOA := Hid.mk hoa; have HRA := Hid.mk hra; clear ha hda hoa hra)
        have k0 := HWO.out Wa HOA.out
        have hsb3 : Wa.heap[sb]? = some (.cells #[.pointer (some ⟨b, 0, none⟩), .string (mkS p), .pointer none] 69 (0, 0)) := (HOA.out.block sb HCL.out (fun e => by
          have f1 := HT.out.lt b (mem_feet q1 (by simp [Lay.foot]))
          have f2 := HT.out.lt m' (mem_feet q1 (by simp [Lay.foot]))
          have f3 := HT.out.lt r (mem_feet q1 (by simp [Lay.foot]))
          rcases e with e | e | e <;> omega)).trans HSB2.out
        have u0 := blk_cell hsb3 0
        simp at u0
        have v1 := blk_cell HDA.out.node 1
        have w1 := blk_free HDA.out.node 1
        simp at v1
        clear hsb3
        go_wp2
        go_ret
        unfold enterR
        rw [HV.out, if_pos rfl]
        refine ⟨rfl, ?_⟩
        have hra := HRA.out
        refine enter_fin HT.out HNN.out hns h1 h2 q1 q2 p HA.out (c' := c') (l' := l) ?_ ?_ (hra.imp id (fun h => Nat.le_trans HWC.out.size h.1)) ?_ ?_
        · rw [if_neg (by rcases kind_two n with ⟨_, k⟩ | ⟨k, _⟩; omega; rw [k]; decide)]
        · exact HDA.out
        · exact (HOA.out.block t (lt_of_block HTB.out) (fun e => HTN.out e)).trans HTB.out
        · exact (HWC.out.mono (fun i _ hi => .inl hi)).trans HOA.out (fun i hi => .inl (.inr hi))
end Go.Proofs.YtehaoeclnmelhacGreat
namespace Go.Proofs.YtehaoeclnmelhacGreat
open Go Go.Proofs Go.RowKit Go.Shelf Go.Sort

theorem enter_any (w : World) (t : Nat) (σ : Tr) (Ls : List Lay) (hT : TrAt w t σ Ls) (hOk : ∀ x ∈ σ.nodes, x.Ok) (s : ByteArray) (hs : s.size ≤ 16777216) (L : Lay) (n : Nd) (hN : NdAt w (locL Ls) L n) (hnk : n.Ok) (hns : ∀ q, some q ∉ n.slots) (h1 : ∀ k ∈ L.foot, k ∉ feet t Ls) (h2 : L.foot.Nodup) :
    Calls Tryz.prog 33 #[ptrV t, .string s, ptrV L.b] w fun e w' => e = .returned (.int .i64 (enterS σ (ofS s) n).1) ∧ Step (fun k => k ∈ feet t Ls ∨ k ∈ L.foot) w t w' (enterS σ (ofS s) n).2 := by
  have still : ∀ {w' : World}, Below w.heap.size w w' → Step (fun k => k ∈ feet t Ls ∨ k ∈ L.foot) w t w' σ := fun hB => Step.still hT (fun k hk => .inl hk) hB
  have early : splitL (ofS s) = none ∨ splitL (ofS s) = some [] → _ := fun h => (enter_early w t σ s hs (ptrV L.b) h).mono (R' := fun e w' => e = .returned (.int .i64 (enterS σ (ofS s) n).1) ∧ Step (fun k => k ∈ feet t Ls ∨ k ∈ L.foot) w t w' (enterS σ (ofS s) n).2) (fun e w' hh => ⟨(hh.1 n).1, by rw [(hh.1 n).2]; exact still hh.2⟩)
  cases hsp : splitL (ofS s) with
  | none => exact early (.inl hsp)
  | some K =>
    rcases list_two K with rfl | ⟨M, p, rfl⟩
    · exact early (.inr hsp)
    · have wrong : (∃ e, spotE σ.nodes M p = (e, none)) ∨ (∃ d o, spotE σ.nodes M p = (0, some ⟨d, p, some o⟩)) ∨ (∃ d, spotE σ.nodes M p = (0, some ⟨d, p, none⟩) ∧ n.isDir = true ∧ 32000 ≤ (nodeAt σ.nodes d).links) → _ := fun h => (enter_wrong w t σ Ls hT s hs L n hN M p hsp h).mono (R' := fun e w' => e = .returned (.int .i64 (enterS σ (ofS s) n).1) ∧ Step (fun k => k ∈ feet t Ls ∨ k ∈ L.foot) w t w' (enterS σ (ofS s) n).2) (fun e w' hh => ⟨hh.1, by rw [hh.2.1]; exact still hh.2.2⟩)
      rcases spotE_or σ.nodes M p with ⟨d, o, he, _⟩ | ⟨e, he, _⟩
      · cases o with
        | some o => exact wrong (.inr (.inl ⟨d, o, he⟩))
        | none =>
          by_cases hc : n.isDir = true ∧ 32000 ≤ (nodeAt σ.nodes d).links
          · exact wrong (.inr (.inr ⟨d, he, hc⟩))
          · have e : enterS σ (ofS s) n = (enterE σ d n, enterR σ d p n) := by
              unfold enterS enterR
              rw [hsp]
              simp [List.getLastD_eq_getLast?, he]
            rw [e]
            exact enter_main w t σ Ls hT hOk s hs L n hN hnk M p hsp d he hc hns h1 h2
      · exact wrong (.inl ⟨e, he⟩)
/-- The result of a call that answers nothing but an error. -/
def errV (e : Int) : Value := .agg #[.int .i64 e, .slice none 0 0, .int .i64 0, .int .i64 0, .int .i64 0, .slice none 0 0, .int .i64 0]
set_option maxRecDepth 100000 in
theorem failed_any (w : World) (e : Int) : Calls Tryz.prog 19 #[.int .i64 e] w fun x w' => x = .returned (errV e) ∧ Below w.heap.size w w' := by
  go_enter Tryz.func19, Tryz.ntmps19
  go_wp2
  refine bodyPost_ret (v := errV e) ?_ rfl ⟨rfl, ?_⟩
  · simp [results, Tryz.results19, go_sem, errV]
  · exact (Below.refl _ w).alloc (Nat.le_refl _) _
/-- A call, as a value. -/
def callV (k : Int) (p q : ByteArray) (o n : Int) (v : Value) : Value := .agg #[.int .i64 k, .string p, .string q, .int .i64 o, .int .i64 n, v]
/-- A step, seen from an earlier world, with what turned outside the tree since. -/
theorem Step.out {F F' : Nat → Prop} {w W1 w' W2 : World} {t : Nat} {σ : Tr} (h : Step F' W1 t w' σ) (hB : Below w.heap.size w W1) (hF : ∀ k, F' k → F k ∨ w.heap.size ≤ k) (h2 : Only (fun k => w.heap.size ≤ k ∧ k < W1.heap.size ∧ ¬ F' k) w' W2) : Step F w t W2 σ := by
  obtain ⟨⟨Ls, h1, h3⟩, h4⟩ := h
  refine ⟨⟨Ls, h1.kept (fun k hk => h2.block k (h1.lt k hk) (fun hs => ?_)), fun k hk => ?_⟩, ((Only.of_new F hB).trans h4 hF).trans h2 (fun i hi => .inr hi.1)⟩
  · rcases h3 k hk with h | h
    · exact hs.2.2 h
    · omega
  · rcases h3 k hk with h | h
    · exact hF k h
    · exact .inr (Nat.le_trans hB.size h)
theorem box7 {W : World} {B : Nat} {u0 u1 u2 u3 u4 u5 u6 : Value} {T : TypeId} (h : W.heap[B]? = some (.cells #[u0, u1, u2, u3, u4, u5, u6] T (0, 0))) (v0 v1 v2 v3 v4 v5 v6 : Value) :
    (((((((W.setCell ⟨B, 0, none⟩ v0).setCell ⟨B, 1, none⟩ v1).setCell ⟨B, 2, none⟩ v2).setCell ⟨B, 3, none⟩ v3).setCell ⟨B, 4, none⟩ v4).setCell ⟨B, 5, none⟩ v5).setCell ⟨B, 6, none⟩ v6).heap[B]? = some (.cells #[v0, v1, v2, v3, v4, v5, v6] T (0, 0)) ∧ Only (fun k => k = B) W (((((((W.setCell ⟨B, 0, none⟩ v0).setCell ⟨B, 1, none⟩ v1).setCell ⟨B, 2, none⟩ v2).setCell ⟨B, 3, none⟩ v3).setCell ⟨B, 4, none⟩ v4).setCell ⟨B, 5, none⟩ v5).setCell ⟨B, 6, none⟩ v6) := by
  refine ⟨?_, ?_⟩
  · rw [blk_set (blk_set (blk_set (blk_set (blk_set (blk_set (blk_set h))))))]
    rfl
  · exact ((((((((Only.refl (fun k => k = B) W).setCell (p := ⟨B, 0, none⟩) (.inl rfl) _).setCell (p := ⟨B, 1, none⟩) (.inl rfl) _).setCell (p := ⟨B, 2, none⟩) (.inl rfl) _).setCell (p := ⟨B, 3, none⟩) (.inl rfl) _).setCell (p := ⟨B, 4, none⟩) (.inl rfl) _).setCell (p := ⟨B, 5, none⟩) (.inl rfl) _).setCell (p := ⟨B, 6, none⟩) (.inl rfl) _)
theorem file_ok : newF.Ok := by
  refine ⟨⟨List.Pairwise.nil, fun x hx => by cases hx⟩, by simp⟩
theorem dir_ok : newD.Ok := by
  refine ⟨by omega, by omega, by simp⟩
set_option maxRecDepth 100000 in
set_option maxHeartbeats 4000000 in
theorem create_any (w : World) (t : Nat) (σ : Tr) (Ls : List Lay) (hT : TrAt w t σ Ls) (hOk : ∀ x ∈ σ.nodes, x.Ok) (k : Int) (s s2 : ByteArray) (off m : Int) (dp : Option Addr) (dl dc : Nat) (hs : s.size ≤ 16777216) :
    Calls Tryz.prog 20 #[ptrV t, callV k s s2 off m (.slice dp dl dc)] w fun e w' => e = .returned (errV (enterS σ (ofS s) newF).1) ∧ Step (fun k => k ∈ feet t Ls) w t w' (enterS σ (ofS s) newF).2 := by
  have mixed : Tryz.prog.follows Departure.mixedOrders = true := by kernel_rfl
  have HN := Hid.mk (fun W => newfile_any W (locL Ls))
  have HE : Hid (∀ W1 W, Below w.heap.size w W1 → w.heap.size ≤ W1.heap.size → W.heap.size = W1.heap.size + 2 → NdAt W (locL Ls) (.file (W1.heap.size + 1) W1.heap.size []) newF → Below W1.heap.size W1 W → _) := Hid.mk (fun W1 W (hB : Below w.heap.size w W1) (hsz : w.heap.size ≤ W1.heap.size) (_ : W.heap.size = W1.heap.size + 2) (hn : NdAt W (locL Ls) (.file (W1.heap.size + 1) W1.heap.size []) newF) (hB1 : Below W1.heap.size W1 W) => enter_any W t σ Ls ((hT.below rfl hB).below rfl hB1) hOk s hs (.file (W1.heap.size + 1) W1.heap.size []) newF hn file_ok (fun q hq => by cases hq) (fun k hk hf => by have := hT.lt k hf; simp [Lay.foot] at hk; omega) (by simp [Lay.foot]))
  have HTL : Hid (∀ k ∈ feet t Ls, k < w.heap.size) := Hid.mk (fun k hk => hT.lt k hk)
  clear hT hOk hs
  unfold callV ptrV at *
  go_enter Tryz.func20, Tryz.ntmps20
  go_wp2_with fail
  obtain ⟨X, hX⟩ : ∃ X, X = (w.alloc (.cells #[.int .i64 k, .string s, .string s2, .int .i64 off, .int .i64 m, .slice dp dl dc] 34)).alloc (.cells #[.int .i64 0, .slice none 0 0, .int .i64 0, .int .i64 0, .int .i64 0, .slice none 0 0, .int .i64 0] 31) := ⟨_, rfl⟩
  have hXB : Below w.heap.size w X := by rw [hX]; exact ((Below.refl _ w).alloc (Nat.le_refl _) _).alloc (by simp) _
  have hXs : X.heap.size = w.heap.size + 2 := by rw [hX]; simp
  have hX0 : X.heap[w.heap.size]? = some (.cells #[.int .i64 k, .string s, .string s2, .int .i64 off, .int .i64 m, .slice dp dl dc] 34 (0, 0)) := by rw [hX, Below.heap_alloc _ _ _ (by simp)]; exact blk_new w _
  have hX1 : X.heap[w.heap.size + 1]? = some (.cells #[.int .i64 0, .slice none 0 0, .int .i64 0, .int .i64 0, .int .i64 0, .slice none 0 0, .int .i64 0] 31 (0, 0)) := by
    rw [hX]
    have := blk_new (w.alloc (.cells #[.int .i64 k, .string s, .string s2, .int .i64 off, .int .i64 m, .slice dp dl dc] 34)) (.cells #[.int .i64 0, .slice none 0 0, .int .i64 0, .int .i64 0, .int .i64 0, .slice none 0 0, .int .i64 0] 31)
    rwa [World.size_alloc] at this
  rw [← hX]
  clear hX
  have c1 := blk_cell hX0 1
  simp at c1
  have HXB := Hid.mk hXB
  have HXS := Hid.mk hXs
  have HX0 := Hid.mk hX0
  have HX1 := Hid.mk hX1
  have HBX : Hid (∀ W, Below X.drew.heap.size X.drew W → W.cell? ⟨w.heap.size, 1, none⟩ = some (.string s)) := Hid.mk (fun W hB => by
    rw [blk_cell ((hB.block w.heap.size (show w.heap.size < X.heap.size by omega)).trans hX0)]; rfl)
  have HFIN : Hid (∀ (Wn W2 W3 : World), Below X.drew.heap.size X.drew Wn → Wn.heap.size = X.drew.heap.size + 2 → Step (fun k => k ∈ feet t Ls ∨ k ∈ (Lay.file (X.drew.heap.size + 1) X.drew.heap.size []).foot) Wn t W2 (enterS σ (ofS s) newF).2 → Below W2.heap.size W2 W3 →
      W3.heap[w.heap.size + 1]? = some (.cells #[.int .i64 0, .slice none 0 0, .int .i64 0, .int .i64 0, .int .i64 0, .slice none 0 0, .int .i64 0] 31 (0, 0)) ∧ ∀ v0 v1 v2 v3 v4 v5 v6, Step (fun k => k ∈ feet t Ls) w t (((((((W3.setCell ⟨w.heap.size + 1, 0, none⟩ v0).setCell ⟨w.heap.size + 1, 1, none⟩ v1).setCell ⟨w.heap.size + 1, 2, none⟩ v2).setCell ⟨w.heap.size + 1, 3, none⟩ v3).setCell ⟨w.heap.size + 1, 4, none⟩ v4).setCell ⟨w.heap.size + 1, 5, none⟩ v5).setCell ⟨w.heap.size + 1, 6, none⟩ v6) (enterS σ (ofS s) newF).2) := Hid.mk (fun Wn W2 W3 hB1 hs1 hst hB3 => by
    have hXBd : Below w.heap.size w X.drew := HXB.out.drew
    have hXsd : X.drew.heap.size = w.heap.size + 2 := HXS.out
    have hwn : Below w.heap.size w Wn := hXBd.trans (hB1.mono (by omega))
    have hnot : ¬ (w.heap.size + 1 ∈ feet t Ls ∨ w.heap.size + 1 ∈ (Lay.file (X.drew.heap.size + 1) X.drew.heap.size []).foot) := by
      rintro (h | h)
      · have := HTL.out _ h; omega
      · simp [Lay.foot] at h; omega
    have e1 : Wn.heap[w.heap.size + 1]? = some (.cells #[.int .i64 0, .slice none 0 0, .int .i64 0, .int .i64 0, .int .i64 0, .slice none 0 0, .int .i64 0] 31 (0, 0)) := (hB1.block _ (by omega)).trans HX1.out
    have e2 := (hst.only.block _ (by omega) hnot).trans e1
    have e3 := (hB3.block _ (lt_of_block e2)).trans e2
    refine ⟨e3, fun v0 v1 v2 v3 v4 v5 v6 => ?_⟩
    refine hst.out hwn (fun k hk => ?_) ((Only.of_new (fun k => k = w.heap.size + 1) hB3).trans (box7 e3 v0 v1 v2 v3 v4 v5 v6).2 (fun i hi => .inl hi) |>.mono (fun i _ hi => ?_))
    · rcases hk with h | h
      · exact .inl h
      · simp [Lay.foot] at h; exact .inr (by omega)
    · subst hi
      exact ⟨by omega, by omega, hnot⟩)
  clear hXB hXs hX0 hX1
  go_region_with (first
    | (go_at_call 34; refine (HN.out _).mono ?_; rintro e' Wn ⟨rfl, hn, hbn, hsn⟩; have XN := Hid.mk hbn; have XS := Hid.mk hsn; have EE := Hid.mk (HE.out X.drew Wn HXB.out.drew HXB.out.size hsn hn hbn); have cn := HBX.out Wn hbn; unfold ptrV Lay.b at *; clear hn hbn hsn)
    | (go_at_call 33; refine EE.out.mono ?_; rintro e' W2 ⟨rfl, hst⟩; have ST := Hid.mk hst; clear hst)
    | (go_at_call 19; refine (failed_any _ _).mono ?_; rintro e' W3 ⟨rfl, hb3⟩; obtain ⟨hbx, hfin⟩ := HFIN.out Wn W2 W3 XN.out XS.out ST.out hb3; have z0 := blk_cell hbx 0; have z1 := blk_cell hbx 1; have z2 := blk_cell hbx 2; have z3 := blk_cell hbx 3; have z4 := blk_cell hbx 4; have z5 := blk_cell hbx 5; have z6 := blk_cell hbx 6; have y0 := blk_free hbx 0; have y1 := blk_free hbx 1; have y2 := blk_free hbx 2; have y3 := blk_free hbx 3; have y4 := blk_free hbx 4; have y5 := blk_free hbx 5; have y6 := blk_free hbx 6; simp at z0 z1 z2 z3 z4 z5 z6; have FF := Hid.mk hfin; have BXX := Hid.mk hbx; unfold errV; clear hbx hfin hb3))
  all_goals
    have st := FF.out (.int .i64 (enterS σ (ofS s) newF).1) (.slice none 0 0) (.int .i64 0) (.int .i64 0) (.int .i64 0) (.slice none 0 0) (.int .i64 0)
    have hb7 := (box7 BXX.out (.int .i64 (enterS σ (ofS s) newF).1) (.slice none 0 0) (.int .i64 0) (.int .i64 0) (.int .i64 0) (.slice none 0 0) (.int .i64 0)).1
    obtain ⟨Y, hY⟩ : ∃ Y, Y = (((((((W3.setCell ⟨w.heap.size + 1, 0, none⟩ (.int .i64 (enterS σ (ofS s) newF).1)).setCell ⟨w.heap.size + 1, 1, none⟩ (.slice none 0 0)).setCell ⟨w.heap.size + 1, 2, none⟩ (.int .i64 0)).setCell ⟨w.heap.size + 1, 3, none⟩ (.int .i64 0)).setCell ⟨w.heap.size + 1, 4, none⟩ (.int .i64 0)).setCell ⟨w.heap.size + 1, 5, none⟩ (.slice none 0 0)).setCell ⟨w.heap.size + 1, 6, none⟩ (.int .i64 0)) := ⟨_, rfl⟩
    rw [← hY] at st hb7 ⊢
    have k0 := blk_cell hb7 0
    have k1 := blk_cell hb7 1
    have k2 := blk_cell hb7 2
    have k3 := blk_cell hb7 3
    have k4 := blk_cell hb7 4
    have k5 := blk_cell hb7 5
    have k6 := blk_cell hb7 6
    simp at k0 k1 k2 k3 k4 k5 k6
    have STT := Hid.mk st
    clear hY st hb7 z0 z1 z2 z3 z4 z5 z6 y0 y1 y2 y3 y4 y5 y6 FF BXX ST EE XN XS HFIN
    go_wp2
    refine bodyPost_ret (v := errV (enterS σ (ofS s) newF).1) ?_ rfl ⟨rfl, STT.out⟩
    simp [results, Tryz.results20, go_sem, errV, k0, k1, k2, k3, k4, k5, k6]
set_option maxRecDepth 100000 in
set_option maxHeartbeats 4000000 in
theorem mkdir_any (w : World) (t : Nat) (σ : Tr) (Ls : List Lay) (hT : TrAt w t σ Ls) (hOk : ∀ x ∈ σ.nodes, x.Ok) (k : Int) (s s2 : ByteArray) (off m : Int) (dp : Option Addr) (dl dc : Nat) (hs : s.size ≤ 16777216) :
    Calls Tryz.prog 21 #[ptrV t, callV k s s2 off m (.slice dp dl dc)] w fun e w' => e = .returned (errV (enterS σ (ofS s) newD).1) ∧ Step (fun k => k ∈ feet t Ls) w t w' (enterS σ (ofS s) newD).2 := by
  have mixed : Tryz.prog.follows Departure.mixedOrders = true := by kernel_rfl
  have HN := Hid.mk (fun W => newdir_any W (locL Ls))
  have HE : Hid (∀ W1 W, Below w.heap.size w W1 → w.heap.size ≤ W1.heap.size → W.heap.size = W1.heap.size + 3 → NdAt W (locL Ls) (.dir (W1.heap.size + 2) (W1.heap.size + 1) W1.heap.size 30) newD → Below W1.heap.size W1 W → _) := Hid.mk (fun W1 W (hB : Below w.heap.size w W1) (hsz : w.heap.size ≤ W1.heap.size) (_ : W.heap.size = W1.heap.size + 3) (hn : NdAt W (locL Ls) (.dir (W1.heap.size + 2) (W1.heap.size + 1) W1.heap.size 30) newD) (hB1 : Below W1.heap.size W1 W) => enter_any W t σ Ls ((hT.below rfl hB).below rfl hB1) hOk s hs (.dir (W1.heap.size + 2) (W1.heap.size + 1) W1.heap.size 30) newD hn dir_ok (fun q hq => by have := List.eq_of_mem_replicate hq; cases this) (fun k hk hf => by have := hT.lt k hf; simp [Lay.foot] at hk; omega) (by simp [Lay.foot]))
  have HTL : Hid (∀ k ∈ feet t Ls, k < w.heap.size) := Hid.mk (fun k hk => hT.lt k hk)
  clear hT hOk hs
  unfold callV ptrV at *
  go_enter Tryz.func21, Tryz.ntmps21
  go_wp2_with fail
  obtain ⟨X, hX⟩ : ∃ X, X = (w.alloc (.cells #[.int .i64 k, .string s, .string s2, .int .i64 off, .int .i64 m, .slice dp dl dc] 34)).alloc (.cells #[.int .i64 0, .slice none 0 0, .int .i64 0, .int .i64 0, .int .i64 0, .slice none 0 0, .int .i64 0] 31) := ⟨_, rfl⟩
  have hXB : Below w.heap.size w X := by rw [hX]; exact ((Below.refl _ w).alloc (Nat.le_refl _) _).alloc (by simp) _
  have hXs : X.heap.size = w.heap.size + 2 := by rw [hX]; simp
  have hX0 : X.heap[w.heap.size]? = some (.cells #[.int .i64 k, .string s, .string s2, .int .i64 off, .int .i64 m, .slice dp dl dc] 34 (0, 0)) := by rw [hX, Below.heap_alloc _ _ _ (by simp)]; exact blk_new w _
  have hX1 : X.heap[w.heap.size + 1]? = some (.cells #[.int .i64 0, .slice none 0 0, .int .i64 0, .int .i64 0, .int .i64 0, .slice none 0 0, .int .i64 0] 31 (0, 0)) := by
    rw [hX]
    have := blk_new (w.alloc (.cells #[.int .i64 k, .string s, .string s2, .int .i64 off, .int .i64 m, .slice dp dl dc] 34)) (.cells #[.int .i64 0, .slice none 0 0, .int .i64 0, .int .i64 0, .int .i64 0, .slice none 0 0, .int .i64 0] 31)
    rwa [World.size_alloc] at this
  rw [← hX]
  clear hX
  have c1 := blk_cell hX0 1
  simp at c1
  have HXB := Hid.mk hXB
  have HXS := Hid.mk hXs
  have HX0 := Hid.mk hX0
  have HX1 := Hid.mk hX1
  have HBX : Hid (∀ W, Below X.drew.heap.size X.drew W → W.cell? ⟨w.heap.size, 1, none⟩ = some (.string s)) := Hid.mk (fun W hB => by
    rw [blk_cell ((hB.block w.heap.size (show w.heap.size < X.heap.size by omega)).trans hX0)]; rfl)
  have HFIN : Hid (∀ (Wn W2 W3 : World), Below X.drew.heap.size X.drew Wn → Wn.heap.size = X.drew.heap.size + 3 → Step (fun k => k ∈ feet t Ls ∨ k ∈ (Lay.dir (X.drew.heap.size + 2) (X.drew.heap.size + 1) X.drew.heap.size 30).foot) Wn t W2 (enterS σ (ofS s) newD).2 → Below W2.heap.size W2 W3 →
      W3.heap[w.heap.size + 1]? = some (.cells #[.int .i64 0, .slice none 0 0, .int .i64 0, .int .i64 0, .int .i64 0, .slice none 0 0, .int .i64 0] 31 (0, 0)) ∧ ∀ v0 v1 v2 v3 v4 v5 v6, Step (fun k => k ∈ feet t Ls) w t (((((((W3.setCell ⟨w.heap.size + 1, 0, none⟩ v0).setCell ⟨w.heap.size + 1, 1, none⟩ v1).setCell ⟨w.heap.size + 1, 2, none⟩ v2).setCell ⟨w.heap.size + 1, 3, none⟩ v3).setCell ⟨w.heap.size + 1, 4, none⟩ v4).setCell ⟨w.heap.size + 1, 5, none⟩ v5).setCell ⟨w.heap.size + 1, 6, none⟩ v6) (enterS σ (ofS s) newD).2) := Hid.mk (fun Wn W2 W3 hB1 hs1 hst hB3 => by
    have hXBd : Below w.heap.size w X.drew := HXB.out.drew
    have hXsd : X.drew.heap.size = w.heap.size + 2 := HXS.out
    have hwn : Below w.heap.size w Wn := hXBd.trans (hB1.mono (by omega))
    have hnot : ¬ (w.heap.size + 1 ∈ feet t Ls ∨ w.heap.size + 1 ∈ (Lay.dir (X.drew.heap.size + 2) (X.drew.heap.size + 1) X.drew.heap.size 30).foot) := by
      rintro (h | h)
      · have := HTL.out _ h; omega
      · simp [Lay.foot] at h; omega
    have e1 : Wn.heap[w.heap.size + 1]? = some (.cells #[.int .i64 0, .slice none 0 0, .int .i64 0, .int .i64 0, .int .i64 0, .slice none 0 0, .int .i64 0] 31 (0, 0)) := (hB1.block _ (by omega)).trans HX1.out
    have e2 := (hst.only.block _ (by omega) hnot).trans e1
    have e3 := (hB3.block _ (lt_of_block e2)).trans e2
    refine ⟨e3, fun v0 v1 v2 v3 v4 v5 v6 => ?_⟩
    refine hst.out hwn (fun k hk => ?_) ((Only.of_new (fun k => k = w.heap.size + 1) hB3).trans (box7 e3 v0 v1 v2 v3 v4 v5 v6).2 (fun i hi => .inl hi) |>.mono (fun i _ hi => ?_))
    · rcases hk with h | h
      · exact .inl h
      · simp [Lay.foot] at h; exact .inr (by omega)
    · subst hi
      exact ⟨by omega, by omega, hnot⟩)
  clear hXB hXs hX0 hX1
  go_region_with (first
    | (go_at_call 17; refine (HN.out _).mono ?_; rintro e' Wn ⟨rfl, hn, hbn, hsn⟩; have XN := Hid.mk hbn; have XS := Hid.mk hsn; have EE := Hid.mk (HE.out X.drew Wn HXB.out.drew HXB.out.size hsn hn hbn); have cn := HBX.out Wn hbn; unfold ptrV Lay.b at *; clear hn hbn hsn)
    | (go_at_call 33; refine EE.out.mono ?_; rintro e' W2 ⟨rfl, hst⟩; have ST := Hid.mk hst; clear hst)
    | (go_at_call 19; refine (failed_any _ _).mono ?_; rintro e' W3 ⟨rfl, hb3⟩; obtain ⟨hbx, hfin⟩ := HFIN.out Wn W2 W3 XN.out XS.out ST.out hb3; have z0 := blk_cell hbx 0; have z1 := blk_cell hbx 1; have z2 := blk_cell hbx 2; have z3 := blk_cell hbx 3; have z4 := blk_cell hbx 4; have z5 := blk_cell hbx 5; have z6 := blk_cell hbx 6; have y0 := blk_free hbx 0; have y1 := blk_free hbx 1; have y2 := blk_free hbx 2; have y3 := blk_free hbx 3; have y4 := blk_free hbx 4; have y5 := blk_free hbx 5; have y6 := blk_free hbx 6; simp at z0 z1 z2 z3 z4 z5 z6; have FF := Hid.mk hfin; have BXX := Hid.mk hbx; unfold errV; clear hbx hfin hb3))
  all_goals
    have st := FF.out (.int .i64 (enterS σ (ofS s) newD).1) (.slice none 0 0) (.int .i64 0) (.int .i64 0) (.int .i64 0) (.slice none 0 0) (.int .i64 0)
    have hb7 := (box7 BXX.out (.int .i64 (enterS σ (ofS s) newD).1) (.slice none 0 0) (.int .i64 0) (.int .i64 0) (.int .i64 0) (.slice none 0 0) (.int .i64 0)).1
    obtain ⟨Y, hY⟩ : ∃ Y, Y = (((((((W3.setCell ⟨w.heap.size + 1, 0, none⟩ (.int .i64 (enterS σ (ofS s) newD).1)).setCell ⟨w.heap.size + 1, 1, none⟩ (.slice none 0 0)).setCell ⟨w.heap.size + 1, 2, none⟩ (.int .i64 0)).setCell ⟨w.heap.size + 1, 3, none⟩ (.int .i64 0)).setCell ⟨w.heap.size + 1, 4, none⟩ (.int .i64 0)).setCell ⟨w.heap.size + 1, 5, none⟩ (.slice none 0 0)).setCell ⟨w.heap.size + 1, 6, none⟩ (.int .i64 0)) := ⟨_, rfl⟩
    rw [← hY] at st hb7 ⊢
    have k0 := blk_cell hb7 0
    have k1 := blk_cell hb7 1
    have k2 := blk_cell hb7 2
    have k3 := blk_cell hb7 3
    have k4 := blk_cell hb7 4
    have k5 := blk_cell hb7 5
    have k6 := blk_cell hb7 6
    simp at k0 k1 k2 k3 k4 k5 k6
    have STT := Hid.mk st
    clear hY st hb7 z0 z1 z2 z3 z4 z5 z6 y0 y1 y2 y3 y4 y5 y6 FF BXX ST EE XN XS HFIN
    go_wp2
    refine bodyPost_ret (v := errV (enterS σ (ofS s) newD).1) ?_ rfl ⟨rfl, STT.out⟩
    simp [results, Tryz.results21, go_sem, errV, k0, k1, k2, k3, k4, k5, k6]
end Go.Proofs.YtehaoeclnmelhacGreat
namespace Go.Proofs.YtehaoeclnmelhacGreat
open Go Go.Proofs Go.RowKit Go.Shelf Go.Sort
open Go.ChangeMaps (setBlock)

def newT (G I D : Int) : Tr := ⟨G, I, D, 1, 1, [newD]⟩
set_option maxRecDepth 100000 in
set_option maxHeartbeats 4000000 in
theorem new_any (w : World) (G I D : Int) :
    Calls Tryz.prog 8 #[geo G I D] w fun e w' => e = .returned (ptrV (w.heap.size + 4)) ∧ TrAt w' (w.heap.size + 4) (newT G I D) [.dir (w.heap.size + 3) (w.heap.size + 2) (w.heap.size + 1) 30] ∧ Below w.heap.size w w' := by
  have mixed : Tryz.prog.follows Departure.mixedOrders = true := by kernel_rfl
  have HN := Hid.mk (fun W => newdir_any W (fun _ => w.heap.size + 3))
  unfold geo
  go_enter Tryz.func8, Tryz.ntmps8
  go_wp2_with fail
  obtain ⟨X, hX⟩ : ∃ X, X = w.alloc (.cells #[.int .i64 G, .int .i64 I, .int .i64 D] 26) := ⟨_, rfl⟩
  have hXB : Below w.heap.size w X := by rw [hX]; exact (Below.refl _ w).alloc (Nat.le_refl _) _
  have hXs : X.heap.size = w.heap.size + 1 := by rw [hX]; simp
  have hX0 : X.heap[w.heap.size]? = some (.cells #[.int .i64 G, .int .i64 I, .int .i64 D] 26 (0, 0)) := by rw [hX]; exact blk_new w _
  rw [← hX]
  have c0 := blk_cell hX0 0
  have c1 := blk_cell hX0 1
  have c2 := blk_cell hX0 2
  simp at c0 c1 c2
  have HCC : Hid (∀ W, Below X.drew.heap.size X.drew W → W.cell? ⟨w.heap.size, 0, none⟩ = some (.int .i64 G) ∧ W.cell? ⟨w.heap.size, 1, none⟩ = some (.int .i64 I) ∧ W.cell? ⟨w.heap.size, 2, none⟩ = some (.int .i64 D)) := Hid.mk (fun W hB => by
    have e := (hB.block w.heap.size (show w.heap.size < X.heap.size by omega)).trans hX0
    exact ⟨by rw [blk_cell e]; rfl, by rw [blk_cell e]; rfl, by rw [blk_cell e]; rfl⟩)
  have HXB := Hid.mk hXB
  have HXS := Hid.mk hXs
  clear hX hXB hXs hX0
  go_region_with (go_at_call 17; refine (HN.out _).mono ?_; rintro e' Wn ⟨rfl, hn, hbn, hsn⟩; obtain ⟨d0, d1, d2⟩ := HCC.out Wn hbn; have XN := Hid.mk hn; have XB := Hid.mk hbn; have XS := Hid.mk hsn; unfold ptrV; clear hn hbn hsn)
  all_goals
    go_wp2
    go_ret
    have hxs : X.drew.heap.size = w.heap.size + 1 := HXS.out
    have hns := XS.out
    have hN := XN.out
    rw [hxs] at hns hN
    have hxs2 : X.heap.size = w.heap.size + 1 := HXS.out
    refine ⟨?_, ?_, ?_⟩
    · simp only [ptrV]
      rw [show w.heap.size + 4 = Wn.heap.size by omega]
      rfl
    · have hlt : ∀ k, k < Wn.heap.size → ∀ o : Obj, (Wn.alloc o).heap[k]? = Wn.heap[k]? := fun k hk o => Below.heap_alloc _ _ _ hk
      have hB0 : Below w.heap.size w Wn := HXB.out.drew.trans (XB.out.mono (by omega))
      refine ⟨?_, rfl, fun i L d hL hd => ?_, ?_, fun d hd q hq => ?_, ⟨2, 1024, _, rfl⟩⟩
      · rw [show w.heap.size + 4 = Wn.heap.size by omega]
        have := blk_new Wn (.cells #[.int .i64 G, .int .i64 I, .int .i64 D, .pointer (some ⟨w.heap.size + 3, 0, none⟩), .int .i64 1, .int .i64 1] 52)
        rw [hxs2]
        exact this
      · match i, hL, hd with
        | 0, hL, hd =>
          cases hL
          cases hd
          have h3 : NdAt Wn (fun _ => w.heap.size + 3) (.dir (w.heap.size + 3) (w.heap.size + 2) (w.heap.size + 1) 30) newD := hN
          refine (h3.kept (fun k hk => hlt k (h3.lt k hk) _)).reloc (fun q hq => ?_)
          have := List.eq_of_mem_replicate hq
          cases this
      · simp [feet, Lay.foot]
      · simp only [newT, List.mem_singleton] at hd
        subst hd
        have := List.eq_of_mem_replicate hq
        cases this
    · have hB0 : Below w.heap.size w Wn := HXB.out.drew.trans (XB.out.mono (by omega))
      exact hB0.alloc hB0.size _
end Go.Proofs.YtehaoeclnmelhacGreat
namespace Go.Proofs.YtehaoeclnmelhacGreat
open Go Go.Proofs Go.RowKit Go.Shelf Go.Sort
open Go.ChangeMaps (setBlock)

/-- The function of a Kind. -/
noncomputable def kindF : Lit → Option Value := (updF (updF (updF (updF (updF (updF (updF (updF (updF (updF (updF (updF (updF (fun _ => none) (.int .i64 1) (some (.func (.func 20) #[] #[]))) (.int .i64 2) (some (.func (.func 21) #[] #[]))) (.int .i64 3) (some (.func (.func 22) #[] #[]))) (.int .i64 4) (some (.func (.func 23) #[] #[]))) (.int .i64 5) (some (.func (.func 24) #[] #[]))) (.int .i64 6) (some (.func (.func 25) #[] #[]))) (.int .i64 7) (some (.func (.func 26) #[] #[]))) (.int .i64 8) (some (.func (.func 27) #[] #[]))) (.int .i64 9) (some (.func (.func 28) #[] #[]))) (.int .i64 10) (some (.func (.func 29) #[] #[]))) (.int .i64 11) (some (.func (.func 30) #[] #[]))) (.int .i64 12) (some (.func (.func 31) #[] #[]))) (.int .i64 13) (some (.func (.func 32) #[] #[])))
theorem kind_create : kindF (.int .i64 1) = some (.func (.func 20) #[] #[]) := by simp [kindF, updF]
theorem kind_mkdir : kindF (.int .i64 2) = some (.func (.func 21) #[] #[]) := by simp [kindF, updF]
theorem kind_link : kindF (.int .i64 3) = some (.func (.func 22) #[] #[]) := by simp [kindF, updF]
theorem kind_unlink : kindF (.int .i64 4) = some (.func (.func 23) #[] #[]) := by simp [kindF, updF]
theorem kind_rmdir : kindF (.int .i64 5) = some (.func (.func 24) #[] #[]) := by simp [kindF, updF]
theorem kind_rename : kindF (.int .i64 6) = some (.func (.func 25) #[] #[]) := by simp [kindF, updF]
theorem kind_read : kindF (.int .i64 7) = some (.func (.func 26) #[] #[]) := by simp [kindF, updF]
theorem kind_write : kindF (.int .i64 8) = some (.func (.func 27) #[] #[]) := by simp [kindF, updF]
theorem kind_trunc : kindF (.int .i64 9) = some (.func (.func 28) #[] #[]) := by simp [kindF, updF]
theorem kind_stat : kindF (.int .i64 10) = some (.func (.func 29) #[] #[]) := by simp [kindF, updF]
theorem kind_list : kindF (.int .i64 11) = some (.func (.func 30) #[] #[]) := by simp [kindF, updF]
theorem kind_fsync : kindF (.int .i64 12) = some (.func (.func 31) #[] #[]) := by simp [kindF, updF]
theorem kind_sync : kindF (.int .i64 13) = some (.func (.func 32) #[] #[]) := by simp [kindF, updF]
theorem kind_none {k : Int} (h : k < 1 ∨ 13 < k) : kindF (.int .i64 k) = none := by
  have : ¬ k = 1 ∧ ¬ k = 2 ∧ ¬ k = 3 ∧ ¬ k = 4 ∧ ¬ k = 5 ∧ ¬ k = 6 ∧ ¬ k = 7 ∧ ¬ k = 8 ∧ ¬ k = 9 ∧ ¬ k = 10 ∧ ¬ k = 11 ∧ ¬ k = 12 ∧ ¬ k = 13 := by omega
  simp [kindF, updF, this]
theorem key_int {k : Int} (h : (Lit.int .i64 k).wf = true) : keyOf Tryz.prog 3 (.int .i64 k) = some (.int .i64 k) := Maps.keyOf_int_mk Tryz.underlying3 h
theorem put_kind {W : World} {b n N : Nat} {f : Lit → Option Value} (h : MAt W 3 b n f) (hn : n ≤ N) (hN : N ≤ 20) (k : Int) (hk : (Lit.int .i64 k).wf = true) (v : Value) :
    ∃ o n', (Instr.mapUpdate 55 (.map (some b)) (.int .i64 k) v).run Tryz.prog W = .ok () (setBlock W b o) ∧ MAt (setBlock W b o) 3 b n' (updF f (.int .i64 k) (some v)) ∧ n' ≤ N + 1 := by
  obtain ⟨o, h1, h2⟩ := h.put keyed3 Tryz.underlying55 (by unfold maxLen; omega) (key_int hk) (val := v)
  exact ⟨o, _, h1, h2, by split <;> omega⟩
set_option maxRecDepth 100000 in
set_option maxHeartbeats 4000000 in
theorem kinds_any (w : World) : Calls Tryz.prog 18 #[] w fun e w' => e = .returned (.map (some w.heap.size)) ∧ (∃ n, MAt w' 3 w.heap.size n kindF) ∧ Below w.heap.size w w' := by
  have hmm := @run_makeMap Tryz.prog
  have m0 := MAt.new w 3
  have b0 : Below w.heap.size w (w.alloc (.map #[] 0)) := (Below.refl _ w).alloc (Nat.le_refl _) _
  obtain ⟨o1, n1, h1, m1, l1⟩ := put_kind m0 (N := 0) (by omega) (by omega) 1 (by decide) (.func (.func 20) #[] #[])
  obtain ⟨o2, n2, h2, m2, l2⟩ := put_kind m1 (N := 1) (by omega) (by omega) 2 (by decide) (.func (.func 21) #[] #[])
  obtain ⟨o3, n3, h3, m3, l3⟩ := put_kind m2 (N := 2) (by omega) (by omega) 3 (by decide) (.func (.func 22) #[] #[])
  obtain ⟨o4, n4, h4, m4, l4⟩ := put_kind m3 (N := 3) (by omega) (by omega) 4 (by decide) (.func (.func 23) #[] #[])
  obtain ⟨o5, n5, h5, m5, l5⟩ := put_kind m4 (N := 4) (by omega) (by omega) 5 (by decide) (.func (.func 24) #[] #[])
  obtain ⟨o6, n6, h6, m6, l6⟩ := put_kind m5 (N := 5) (by omega) (by omega) 6 (by decide) (.func (.func 25) #[] #[])
  obtain ⟨o7, n7, h7, m7, l7⟩ := put_kind m6 (N := 6) (by omega) (by omega) 7 (by decide) (.func (.func 26) #[] #[])
  obtain ⟨o8, n8, h8, m8, l8⟩ := put_kind m7 (N := 7) (by omega) (by omega) 8 (by decide) (.func (.func 27) #[] #[])
  obtain ⟨o9, n9, h9, m9, l9⟩ := put_kind m8 (N := 8) (by omega) (by omega) 9 (by decide) (.func (.func 28) #[] #[])
  obtain ⟨o10, n10, h10, m10, l10⟩ := put_kind m9 (N := 9) (by omega) (by omega) 10 (by decide) (.func (.func 29) #[] #[])
  obtain ⟨o11, n11, h11, m11, l11⟩ := put_kind m10 (N := 10) (by omega) (by omega) 11 (by decide) (.func (.func 30) #[] #[])
  obtain ⟨o12, n12, h12, m12, l12⟩ := put_kind m11 (N := 11) (by omega) (by omega) 12 (by decide) (.func (.func 31) #[] #[])
  obtain ⟨o13, n13, h13, m13, l13⟩ := put_kind m12 (N := 12) (by omega) (by omega) 13 (by decide) (.func (.func 32) #[] #[])
  have HM := Hid.mk m13
  clear m0 m1 m2 m3 m4 m5 m6 m7 m8 m9 m10 m11 m12 m13
  go_enter Tryz.func18, Tryz.ntmps18
  go_wp2
  go_ret
  have bs : ∀ (W : World) (o : Obj), Below w.heap.size w W → Below w.heap.size w (setBlock W w.heap.size o) := fun W o h => (Only.setBlock (S := fun _ => False) (a := w) ⟨h.os, h.tape, h.output, h.size, fun k hk _ => h.block k hk⟩ (.inr (Nat.le_refl _)) o).below (Nat.le_refl _) (fun _ e => e.elim)
  exact ⟨rfl, ⟨_, HM.out⟩, bs _ _ (bs _ _ (bs _ _ (bs _ _ (bs _ _ (bs _ _ (bs _ _ (bs _ _ (bs _ _ (bs _ _ (bs _ _ (bs _ _ (bs _ _ b0))))))))))))⟩
end Go.Proofs.YtehaoeclnmelhacGreat
