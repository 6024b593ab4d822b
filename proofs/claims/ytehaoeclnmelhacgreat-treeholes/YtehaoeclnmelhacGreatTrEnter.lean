/-
  enter: a new node gets a name. What is wrong first.
-/
import Derived.Test.YtehaoeclnmelhacGreatTrNos
namespace Go.Proofs.YtehaoeclnmelhacGreat
open Go Go.Proofs Go.RowKit Go.Shelf Go.Sort

/-- What numbers a node may have. -/
def Nd.Ok : Nd → Prop
  | .file _ _ p => partsOk p ∧ p.length ≤ 1048576
  | .dir _ z s => 0 ≤ z ∧ z ≤ 1073741824 ∧ s.length ≤ 16777216
theorem nos_any (w : World) (loc : Nat → Nat) (L : Lay) (n : Nd) (h : NdAt w loc L n) (hk : n.Ok) :
    Calls Tryz.prog 51 #[ptrV L.b] w fun e w' => ∃ ao c', e = .returned (.slice ao n.nos.length c') ∧ w'.ownsRow w.heap.size 3 1 (.slice ao n.nos.length c') n.nos.length (Iy n.nos) ∧ Below w.heap.size w w' := by
  cases n with
  | file l z p =>
    obtain ⟨b, m, r, rfl, hf⟩ := h.kind_file
    have := nos_file w b m r l z p hf hk.1 hk.2
    simp only [Nd.nos, List.length_map]
    exact this
  | dir l z s =>
    obtain ⟨b, m, r, c, rfl, hd⟩ := h.kind_dir
    obtain ⟨h1, h2, h3⟩ := hk
    have := nos_dir w loc b m r c l z s hd (z / 1024).toNat (by rw [Int.tdiv_eq_ediv_of_nonneg h1]; omega) (by omega)
    simp only [Nd.nos, upto_len]
    exact this
theorem nos_len (n : Nd) (hk : n.Ok) : n.nos.length ≤ 1048576 := by
  cases n with
  | file l z p => simpa [Nd.nos] using hk.2
  | dir l z s => obtain ⟨h1, h2, h3⟩ := hk; simp only [Nd.nos, upto_len]; omega
/-- How much room the new name takes. -/
def enterB (σ : Tr) (d : Nat) (n : Nd) : Int := w64 (roomL n.nos + (nodeAt σ.nodes d).growth)
/-- The tree with the new name. -/
def enterT (σ : Tr) (d : Nat) (p : List UInt8) (n : Nd) : Tr :=
  { σ with inodes := w64 (σ.inodes + 1), blocks := w64 (σ.blocks + enterB σ d n), nodes := (σ.nodes ++ [n]).modify d (fun x => if n.isDir = true then (x.add p σ.nodes.length).more 1 else x.add p σ.nodes.length) }
/-- What 'enter' answers, at a place. -/
def enterE (σ : Tr) (d : Nat) (n : Nd) : Int :=
  if n.isDir = true ∧ 32000 ≤ (nodeAt σ.nodes d).links then 20 else if fitsB σ.G σ.I σ.D σ.inodes σ.blocks 1 (enterB σ d n) = true then 0 else 16
def enterS (σ : Tr) (s : List UInt8) (n : Nd) : Int × Tr :=
  match splitL s with
  | none => (15, σ)
  | some M => if M = [] then (11, σ) else match spotE σ.nodes M.dropLast (M.getLastD []) with
    | (_, some sp) => if sp.named = none then (enterE σ sp.dir n, if enterE σ sp.dir n = 0 then enterT σ sp.dir sp.name n else σ) else (11, σ)
    | (e, none) => (e, σ)
/-- Between two worlds a tree has become another one. -/
structure Step (F : Nat → Prop) (w : World) (t : Nat) (w' : World) (σ' : Tr) : Prop where
  ex : ∃ Ls', TrAt w' t σ' Ls' ∧ ∀ k ∈ feet t Ls', F k ∨ w.heap.size ≤ k
  only : Only F w w'
theorem Step.still {F : Nat → Prop} {w w' : World} {t : Nat} {σ : Tr} {Ls : List Lay} (h : TrAt w t σ Ls) (hF : ∀ k ∈ feet t Ls, F k) (hB : Below w.heap.size w w') : Step F w t w' σ :=
  ⟨⟨Ls, h.below rfl hB, fun k hk => .inl (hF k hk)⟩, Only.of_new F hB⟩
set_option maxRecDepth 100000 in
set_option maxHeartbeats 4000000 in
/-- Where the path is none, or the root's. -/
theorem enter_early (w : World) (t : Nat) (σ : Tr) (s : ByteArray) (hs : s.size ≤ 16777216) (v : Value) (h : splitL (ofS s) = none ∨ splitL (ofS s) = some []) :
    Calls Tryz.prog 33 #[ptrV t, .string s, v] w fun e w' => (∀ n, e = .returned (.int .i64 (enterS σ (ofS s) n).1) ∧ (enterS σ (ofS s) n).2 = σ) ∧ Below w.heap.size w w' := by
  rcases h with h | h
  · have e : ∀ n, enterS σ (ofS s) n = (15, σ) := fun n => by unfold enterS; rw [h]
    simp only [e]
    have HS := Hid.mk (split_no w s hs h)
    clear h e hs
    unfold ptrV
    go_enter Tryz.func33, Tryz.ntmps33
    go_wp2_with (go_at_call 54; refine HS.out.mono ?_; rintro e W1 ⟨ao, n, c, rfl, hB⟩; have HB := Hid.mk hB; clear hB)
    go_ret
    exact ⟨fun _ => ⟨rfl, trivial⟩, HB.out⟩
  · have e : ∀ n, enterS σ (ofS s) n = (11, σ) := fun n => by unfold enterS; rw [h]; rfl
    simp only [e]
    have HS := Hid.mk (split_yes w s hs h)
    have HU := Hid.mk (fun W ao c => unnamed_nil W t ao c)
    simp only [List.length_nil] at HS
    clear h e hs
    unfold ptrV at *
    go_enter Tryz.func33, Tryz.ntmps33
    go_wp2_with (first
      | (go_at_call 54; refine HS.out.mono ?_; rintro e W1 ⟨ao, c, rfl, -, -, -, hB⟩; have HB := Hid.mk hB; clear hB)
      | (go_at_call 37; refine (HU.out _ _ _).mono ?_; rintro e W2 ⟨rfl, hB⟩; have HB2 := Hid.mk hB; clear hB))
    go_ret
    refine ⟨fun _ => ⟨rfl, trivial⟩, ?_⟩
    exact (HB.out.trans (HB2.out.mono HB.out.size)).alloc (Nat.le_trans HB.out.size HB2.out.size) _
set_option maxRecDepth 100000 in
set_option maxHeartbeats 4000000 in
/-- Where its place is none, or the name is there, or there are too many links. -/
theorem enter_wrong (w : World) (t : Nat) (σ : Tr) (Ls : List Lay) (hT : TrAt w t σ Ls) (s : ByteArray) (hs : s.size ≤ 16777216) (L : Lay) (n : Nd) (hN : NdAt w (locL Ls) L n) (M : List (List UInt8)) (p : List UInt8) (hsp : splitL (ofS s) = some (M ++ [p])) (hw : (∃ e, spotE σ.nodes M p = (e, none)) ∨ (∃ d o, spotE σ.nodes M p = (0, some ⟨d, p, some o⟩)) ∨ ∃ d, spotE σ.nodes M p = (0, some ⟨d, p, none⟩) ∧ n.isDir = true ∧ 32000 ≤ (nodeAt σ.nodes d).links) :
    Calls Tryz.prog 33 #[ptrV t, .string s, ptrV L.b] w fun e w' => e = .returned (.int .i64 (enterS σ (ofS s) n).1) ∧ (enterS σ (ofS s) n).2 = σ ∧ Below w.heap.size w w' := by
  obtain ⟨hL, hll⟩ := split_bounds hsp
  have HS := Hid.mk (split_yes w s hs hsp)
  have hln : (M ++ [p]).length = M.length + 1 := by simp
  rw [hln] at HS
  have HU : Hid (∀ W ao c, Below w.heap.size w W → SAt W ao (M.length + 1) (M ++ [p]) → M.length + 1 ≤ c → c ≤ 9223372036854775807 → _) := Hid.mk (fun W ao c (hB : Below w.heap.size w W) hS h1 h2 => unnamed_any W t σ Ls (hT.below rfl hB) ao c M p hS hL (by simp at hll; omega) h1 h2)
  have hes : enterS σ (ofS s) n = match spotE σ.nodes M p with
    | (_, some sp) => if sp.named = none then (enterE σ sp.dir n, if enterE σ sp.dir n = 0 then enterT σ sp.dir sp.name n else σ) else (11, σ)
    | (e, none) => (e, σ) := by
    unfold enterS
    rw [hsp]
    simp [List.getLastD_eq_getLast?]
  have hne : ∀ x, spotE σ.nodes M p = (x, none) → x ≠ 0 := fun x hx h0 => by
    rcases spotE_or σ.nodes M p with ⟨d, o, h, _⟩ | ⟨e, h, he⟩
    · rw [h] at hx; cases hx
    · rw [h] at hx; cases hx; exact he h0
  rw [hes]
  clear hes
  rcases hw with ⟨e, he⟩ | ⟨d, o, he⟩ | ⟨d, he, hk, hl⟩
  · have he0 := hne e he
    have HV : Hid (unE (e, none) = e) := Hid.mk (by unfold unE; split <;> simp_all)
    rw [he] at HU ⊢
    simp only [HV.out, spotV] at HU ⊢
    clear hsp hs hT hN hL hll hne hln HV he
    unfold ptrV at *
    go_enter Tryz.func33, Tryz.ntmps33
    go_wp2_with (first
      | (go_at_call 54; refine HS.out.mono ?_; rintro e' W1 ⟨ao, c, rfl, hSA, h1, h2, hB⟩; have HUU := Hid.mk (HU.out W1 ao c hB hSA h1 h2); have HB := Hid.mk hB; clear hB hSA h1 h2)
      | (go_at_call 37; refine HUU.out.mono ?_; rintro e' W2 ⟨rfl, hB⟩; have HB2 := Hid.mk hB; clear hB))
    go_ret
    exact ⟨rfl, trivial, (HB.out.trans (HB2.out.mono HB.out.size)).alloc (Nat.le_trans HB.out.size HB2.out.size) _⟩
  · have HV : Hid (unE (0, some ⟨d, p, some o⟩) = 11) := Hid.mk rfl
    rw [he] at HU ⊢
    simp only [HV.out, spotV, optV, ptrV, strV] at HU ⊢
    clear hsp hs hT hN hL hll hne hln HV he
    rw [if_neg (by simp)]
    go_enter Tryz.func33, Tryz.ntmps33
    go_wp2_with (first
      | (go_at_call 54; refine HS.out.mono ?_; rintro e' W1 ⟨ao, c, rfl, hSA, h1, h2, hB⟩; have HUU := Hid.mk (HU.out W1 ao c hB hSA h1 h2); have HB := Hid.mk hB; clear hB hSA h1 h2)
      | (go_at_call 37; refine HUU.out.mono ?_; rintro e' W2 ⟨rfl, hB⟩; have HB2 := Hid.mk hB; clear hB))
    go_ret
    exact ⟨rfl, trivial, (HB.out.trans (HB2.out.mono HB.out.size)).alloc (Nat.le_trans HB.out.size HB2.out.size) _⟩
  · have HV : Hid (unE (0, some ⟨d, p, none⟩) = 0) := Hid.mk rfl
    have hE : enterE σ d n = 20 := by unfold enterE; rw [if_pos ⟨hk, hl⟩]
    rw [he] at HU ⊢
    simp only [HV.out, spotV, optV, ptrV, strV] at HU ⊢
    rw [if_pos trivial, hE, if_neg (by decide)]
    have hdl : d < σ.nodes.length := by
      rcases spotE_or σ.nodes M p with ⟨d', o, h, h1, _⟩ | ⟨e, h, _⟩
      · rw [he] at h; cases h; exact wayE_lt hT M h1
      · rw [he] at h; cases h
    have k2 : n.kind = 2 := by cases n <;> simp_all [Nd.isDir, Nd.kind]
    have HK : Hid (∀ W, Below w.heap.size w W → W.cell? ⟨L.b, 0, none⟩ = some (.int .i64 2) ∧ W.cell? ⟨locL Ls d, 1, none⟩ = some (.int .i64 (nodeAt σ.nodes d).links)) := Hid.mk (fun W hB => by
      obtain ⟨_, _, _, hh⟩ := (hN.kept (fun k hk => hB.block k (hN.lt k hk))).head
      exact ⟨by rw [blk_cell hh, k2]; rfl, ((hT.below rfl hB).kindAt hdl).2.1⟩)
    generalize hlk : (nodeAt σ.nodes d).links = lk at *
    clear hsp hs hT hN hL hll hne hln HV he hE hdl k2 hk hlk
    go_enter Tryz.func33, Tryz.ntmps33
    go_wp2_with (first
      | (go_at_call 54; refine HS.out.mono ?_; rintro e' W1 ⟨ao, c, rfl, hSA, h1, h2, hB⟩; have HUU := Hid.mk (HU.out W1 ao c hB hSA h1 h2); have HB := Hid.mk hB; clear hB hSA h1 h2)
      | (go_at_call 37; refine HUU.out.mono ?_; rintro e' W2 ⟨rfl, hB⟩; obtain ⟨g0, g1⟩ := HK.out _ ((HB.out.trans (hB.mono HB.out.size)).alloc (Nat.le_trans HB.out.size hB.size) (.cells #[.pointer (some ⟨locL Ls d, 0, none⟩), .string (mkS p), .pointer none] 69)); have HB2 := Hid.mk hB; clear hB))
    go_ret
    exact ⟨rfl, trivial, (HB.out.trans (HB2.out.mono HB.out.size)).alloc (Nat.le_trans HB.out.size HB2.out.size) _⟩
end Go.Proofs.YtehaoeclnmelhacGreat
