/-
  Within a tree: one more name for a node that is there, a name less, links to and fro.
-/
import Derived.Test.YtehaoeclnmelhacGreatLayRm
namespace Go.Proofs.YtehaoeclnmelhacGreat
open Go Go.Proofs Go.RowKit Go.Shelf Go.Sort

/-- Between two worlds a tree has become another one, whose nodes lie where they lay. -/
structure StepL (w : World) (t : Nat) (Ls : List Lay) (w' : World) (σ' : Tr) : Prop where
  ex : ∃ Ls', TrAt w' t σ' Ls' ∧ locL Ls' = locL Ls ∧ ∀ k ∈ feet t Ls', k ∈ feet t Ls ∨ w.heap.size ≤ k
  only : Only (fun k => k ∈ feet t Ls) w w'
theorem StepL.step {w w' : World} {t : Nat} {Ls : List Lay} {σ' : Tr} (h : StepL w t Ls w' σ') : Step (fun k => k ∈ feet t Ls) w t w' σ' := by
  obtain ⟨⟨Ls', h1, _, h3⟩, h4⟩ := h
  exact ⟨⟨Ls', h1, h3⟩, h4⟩
theorem add_tree (w : World) (t : Nat) (σ : Tr) (Ls : List Lay) (hT : TrAt w t σ Ls) (hOk : ∀ x ∈ σ.nodes, x.Ok) (d : Nat) (p : List UInt8) (j : Nat) (hd : d < σ.nodes.length) (hdk : (nodeAt σ.nodes d).isDir = true) (hno : lookS (nodeAt σ.nodes d).slots p = none) (hj : j < σ.nodes.length) (hp : p.length ≤ 1000) :
    Calls Tryz.prog 40 #[ptrV (locL Ls d), strV p, ptrV (locL Ls j)] w fun e w' => e = .returned (.tuple #[]) ∧ StepL w t Ls w' { σ with nodes := σ.nodes.modify d (fun x => x.add p j) } := by
  obtain ⟨b, m, r, c, l, z, s, q1, q2, q3, q4, q5⟩ := hT.dirAt hd hdk
  have hnd : [b, m, r].Nodup := foot_nodup (List.nodup_cons.1 hT.apart).2 q1
  rw [q5] at hno
  rw [q4]
  refine (add_any w (locL Ls) b m r c l z s q3 hnd (hOk _ (List.mem_of_getElem? q2)).2.2 p hp hno j).mono ?_
  rintro e w' ⟨h1, r', c', z', s', ha, hD, hO, hr⟩
  refine ⟨h1, ?_⟩
  have hnd' : [b, m, r'].Nodup := by
    rcases hr with rfl | hr
    · exact hnd
    · have e1 := hT.lt b (mem_feet q1 (by simp [Lay.foot]))
      have e2 := hT.lt m (mem_feet q1 (by simp [Lay.foot]))
      simp at hnd ⊢
      exact ⟨⟨hnd.1.1, by omega⟩, by omega⟩
  have hft : ∀ k ∈ (Lay.dir b m r' c').foot, k ∈ (Lay.dir b m r c).foot ∨ w.heap.size ≤ k := by
    intro k hk
    simp only [Lay.foot, List.mem_cons, List.not_mem_nil, or_false] at hk ⊢
    rcases hk with rfl | rfl | rfl
    · exact .inl (.inl rfl)
    · exact .inl (.inr (.inl rfl))
    · rcases hr with rfl | hr
      · exact .inl (.inr (.inr rfl))
      · exact .inr hr.1
  have hslots : ∀ q, some q ∈ s' → q.1 < σ.nodes.length := by
    intro q hq
    have hold : ∀ q, some q ∈ s → q.1 < σ.nodes.length := fun q hq => hT.refs _ (List.mem_of_getElem? q2) q hq
    have hset : ∀ (u : List Slt) (k : Nat), some q ∈ u.set k (some (j, p)) → some q ∈ u ∨ q = (j, p) := fun u k h => by
      rcases List.mem_or_eq_of_mem_set h with h | h
      · exact .inl h
      · cases h; exact .inr rfl
    simp only [Nd.add] at ha
    split at ha
    · cases ha
      rcases hset _ _ hq with h | h
      · exact hold q h
      · rw [h]; exact hj
    · cases ha
      rcases hset _ _ hq with h | h
      · rcases List.mem_append.1 h with h | h
        · exact hold q h
        · have := List.eq_of_mem_replicate h; cases this
      · rw [h]; exact hj
  have htb : ¬ (t = b ∨ t = m ∨ t = r) := fun h => (List.nodup_cons.1 hT.apart).1 (List.mem_flatMap.2 ⟨_, List.mem_of_getElem? q1, by simpa [Lay.foot] using h⟩)
  have hfin := hT.turn (L' := .dir b m r' c') (n' := .dir l z' s') q1 rfl (hO.mono (fun i _ hi => .inr (by simpa [Lay.foot] using hi))) (i' := σ.inodes) (b' := σ.blocks)
    ((hO.block t (lt_of_block hT.tree) htb).trans hT.tree) hD hft hnd' hslots (fun _ => rfl)
  refine ⟨⟨Ls.set d (.dir b m r' c'), ?_, locL_set q1 rfl, fun k hk => ?_⟩, hO.mono (fun i _ h => mem_feet q1 (by simpa [Lay.foot] using h))⟩
  · rw [modify_set q2, ha]
    exact hfin
  · rcases (feet_set (t := t) (L' := .dir b m r' c') q1 hT.apart (fun k hk => hT.lt k hk) hft hnd').2 k hk with h | h
    · exact .inl h
    · exact .inr h.1
/-- The tree behind 'leave'. -/
def leaveT (σ : Tr) (d : Nat) (p : List UInt8) (j d2 : Nat) : Tr :=
  { σ with nodes := if (nodeAt σ.nodes j).isDir = true then ((σ.nodes.modify d (fun x => x.del p)).modify d (fun x => x.more (-1))).modify d2 (fun x => x.more 1) else σ.nodes.modify d (fun x => x.del p) }
theorem del_kind {N : List Nd} (i d : Nat) (p : List UInt8) : (nodeAt (N.modify d (fun x => x.del p)) i).kind = (nodeAt N i).kind ∧ (nodeAt (N.modify d (fun x => x.del p)) i).isDir = (nodeAt N i).isDir := by
  unfold nodeAt
  rw [List.getD, List.getElem?_modify, List.getD]
  cases hn : N[i]? with
  | none => simp
  | some y =>
    simp
    split
    · cases y <;> exact ⟨rfl, rfl⟩
    · exact ⟨rfl, rfl⟩
theorem more_kind {N : List Nd} (i d : Nat) (n : Int) : (nodeAt (N.modify d (fun x => x.more n)) i).kind = (nodeAt N i).kind ∧ (nodeAt (N.modify d (fun x => x.more n)) i).isDir = (nodeAt N i).isDir := by
  unfold nodeAt
  rw [List.getD, List.getElem?_modify, List.getD]
  cases hn : N[i]? with
  | none => simp
  | some y =>
    simp
    split
    · cases y <;> exact ⟨rfl, rfl⟩
    · exact ⟨rfl, rfl⟩
/-- A directory's links turn by so many. -/
theorem TrAt.more {W : World} {t : Nat} {σ : Tr} {Ls : List Lay} (h : TrAt W t σ Ls) {d : Nat} (hd : d < σ.nodes.length) (hk : (nodeAt σ.nodes d).isDir = true) (n : Int) : W.cell? ⟨locL Ls d, 1, none⟩ = some (.int .i64 (nodeAt σ.nodes d).links) ∧ W.frozen? ⟨locL Ls d, 1, none⟩ = false ∧ TrAt (W.setCell ⟨locL Ls d, 1, none⟩ (.int .i64 (w64 ((nodeAt σ.nodes d).links + n)))) t { σ with nodes := σ.nodes.modify d (fun x => x.more n) } Ls := by
  obtain ⟨b, m, r, c, l, z, s, q1, q2, q3, q4, q5⟩ := h.dirAt hd hk
  refine ⟨(h.kindAt hd).2.1, by rw [q4]; exact blk_free q3.node 1, ?_⟩
  rw [q4, q5, modify_set q2]
  exact h.links (l' := w64 (l + n)) q1 q2
theorem add_kind {N : List Nd} (i d : Nat) (p : List UInt8) (j : Nat) : (nodeAt (N.modify d (fun x => x.add p j)) i).isDir = (nodeAt N i).isDir := by
  unfold nodeAt
  rw [List.getD, List.getElem?_modify, List.getD]
  cases hn : N[i]? with
  | none => simp
  | some y =>
    simp
    split
    · cases y
      · rfl
      · simp only [Nd.add]; split <;> rfl
    · rfl
theorem node_other {N : List Nd} {i d : Nat} (f : Nd → Nd) (h : i ≠ d) : nodeAt (N.modify d f) i = nodeAt N i := by
  unfold nodeAt
  have hne : ¬ d = i := fun e => h e.symm
  rw [List.getD, List.getElem?_modify, List.getD]
  simp [hne]
theorem run_neq_ptr_other2 {P : Program} {w : World} {tp te : TypeId} {j : TypeInfo} {a b : Addr} {ca cb : Array Value} {ta tb : TypeId} (hp : P.underlying tp = some (.pointer te)) (hte : P.info? te = some j) (hsz : j.size ≠ 0)
    (hne : a ≠ b) (ha : w.heap[a.block]? = some (.cells ca ta (0, 0))) (hb : w.heap[b.block]? = some (.cells cb tb (0, 0))) :
    (binOp .neq tp (.pointer (some a)) (.pointer (some b))).run P w = .ok (.bool true) w := by
  have h : ∀ d : Nat, (Op.equalIn (d + 1) tp (.pointer (some a)) (.pointer (some b))).run P w = .ok false w := fun d => by
    simp [Op.equalIn, run_underlying hp, sizeOf, typeInfo, hte, hsz, run_sameAddr_other w hne ha hb]
  simp only [binOp]
  simp [Op.equal, Op.maxDepth, h 9999]
theorem run_neq_nodes {W : World} {t : Nat} {σ : Tr} {Ls : List Lay} (hT : TrAt W t σ Ls) {i j : Nat} (hi : i < σ.nodes.length) (hj : j < σ.nodes.length) (hne : i ≠ j) : (binOp .neq 49 (.pointer (some ⟨locL Ls i, 0, none⟩)) (.pointer (some ⟨locL Ls j, 0, none⟩))).run Tryz.prog W = .ok (.bool true) W := by
  obtain ⟨k, hjn, hsz⟩ := infoNode2
  obtain ⟨A, n4, a1, a2, a3, a4⟩ := hT.get hi
  obtain ⟨A', n4', a1', a2', a3', a4'⟩ := hT.get hj
  obtain ⟨_, _, _, h1⟩ := a3.head
  obtain ⟨_, _, _, h2⟩ := a3'.head
  refine run_neq_ptr_other2 (P := Tryz.prog) (tp := 49) (a := ⟨locL Ls i, 0, none⟩) (b := ⟨locL Ls j, 0, none⟩) Tryz.underlying49 hjn hsz (fun e => hne (hT.inj hi hj (congrArg Addr.block e))) (by rw [a4]; exact h1) (by rw [a4']; exact h2)
set_option maxRecDepth 100000 in
set_option maxHeartbeats 4000000 in
theorem leave_tree (w : World) (t : Nat) (σ : Tr) (Ls : List Lay) (hT : TrAt w t σ Ls) (d : Nat) (p : List UInt8) (j d2 : Nat) (q : ByteArray) (y2 : Option Addr) (hd : d < σ.nodes.length) (hdk : (nodeAt σ.nodes d).isDir = true) (hlk : lookS (nodeAt σ.nodes d).slots p = some j) (hp : p.length ≤ 1000) (hj : j < σ.nodes.length) (hjk : (nodeAt σ.nodes j).isDir = true) (hd2 : d2 < σ.nodes.length) (hd2k : (nodeAt σ.nodes d2).isDir = true) :
    Calls Tryz.prog 60 #[.agg #[ptrV (locL Ls d), strV p, ptrV (locL Ls j)], .agg #[ptrV (locL Ls d2), .string q, .pointer y2]] w fun e w' => e = .returned (.tuple #[]) ∧ TrAt w' t (leaveT σ d p j d2) Ls ∧ Only (fun k => k ∈ feet t Ls) w w' := by
  have hsv : leaveT σ d p j d2 = { σ with nodes := ((σ.nodes.modify d (fun x => x.del p)).modify d (fun x => x.more (-1))).modify d2 (fun x => x.more 1) } := by unfold leaveT; rw [if_pos hjk]
  rw [hsv]
  have k2 : (nodeAt σ.nodes j).kind = 2 := by rcases kind_two (nodeAt σ.nodes j) with ⟨_, k⟩ | ⟨k, _⟩; exact k; rw [hjk] at k; cases k
  have HT := Hid.mk hT
  clear hT hsv
  unfold ptrV strV
  go_enter Tryz.func60, Tryz.ntmps60
  go_upto_region 1 with fail
  obtain ⟨X, hX⟩ : ∃ X, X = (w.alloc (.cells #[.pointer (some ⟨locL Ls d, 0, none⟩), .string (mkS p), .pointer (some ⟨locL Ls j, 0, none⟩)] 69)).alloc (.cells #[.pointer (some ⟨locL Ls d2, 0, none⟩), .string q, .pointer y2] 69) := ⟨_, rfl⟩
  have hXB : Below w.heap.size w X := by rw [hX]; exact ((Below.refl _ w).alloc (Nat.le_refl _) _).alloc (by simp) _
  have hX0 : X.heap[w.heap.size]? = some (.cells #[.pointer (some ⟨locL Ls d, 0, none⟩), .string (mkS p), .pointer (some ⟨locL Ls j, 0, none⟩)] 69 (0, 0)) := by rw [hX, Below.heap_alloc _ _ _ (by simp)]; exact blk_new w _
  have hX1 : X.heap[w.heap.size + 1]? = some (.cells #[.pointer (some ⟨locL Ls d2, 0, none⟩), .string q, .pointer y2] 69 (0, 0)) := by
    rw [hX]
    have := blk_new (w.alloc (.cells #[.pointer (some ⟨locL Ls d, 0, none⟩), .string (mkS p), .pointer (some ⟨locL Ls j, 0, none⟩)] 69)) (.cells #[.pointer (some ⟨locL Ls d2, 0, none⟩), .string q, .pointer y2] 69)
    rwa [World.size_alloc] at this
  rw [← hX]
  clear hX
  have x0 := blk_cell hX0 0
  have x1 := blk_cell hX0 1
  simp at x0 x1
  have HR := Hid.mk (remove_tree X t σ Ls (HT.out.below rfl hXB) d p j hd hdk hlk hp)
  unfold ptrV strV at HR
  have HX0 := Hid.mk hX0
  have HX1 := Hid.mk hX1
  have HXB := Hid.mk hXB
  clear hX0 hX1 hXB
  go_upto_region 2 with (go_at_call 42; refine HR.out.mono ?_; rintro e' W1 ⟨rfl, hT1, ho1⟩; have HT1 := Hid.mk hT1; have HO1 := Hid.mk ho1; clear hT1 ho1)
  have hnf : ∀ k, w.heap.size ≤ k → k ∉ feet t Ls := fun k hk h => by have := HT.out.lt k h; omega
  have hb0 := (HO1.out.block w.heap.size (lt_of_block HX0.out) (hnf _ (Nat.le_refl _))).trans HX0.out
  have hb1 := (HO1.out.block (w.heap.size + 1) (lt_of_block HX1.out) (hnf _ (by omega))).trans HX1.out
  have u0 := blk_cell hb0 0
  have u2 := blk_cell hb0 2
  simp at u0 u2
  have g0 := (HT1.out.kindAt (j := j) (by simpa using hj)).1
  have g2 : (nodeAt (σ.nodes.modify d (fun x => x.del p)) j).kind = 2 := by rw [(del_kind j d p).1]; exact k2
  simp only [g2] at g0
  obtain ⟨m1, m2, m3⟩ := HT1.out.more (d := d) (by simpa using hd) (by rw [(del_kind d d p).2]; exact hdk) (-1)
  simp only at m1 m3
  obtain ⟨l1, hl1⟩ : ∃ l1, l1 = (nodeAt (σ.nodes.modify d (fun x => x.del p)) d).links := ⟨_, rfl⟩
  rw [← hl1] at m1 m3
  rw [show w64 (l1 + -1) = wrap64 (l1 - 1) from by rw [Int.sub_eq_add_neg]] at m3
  have HT3 := Hid.mk m3
  have HB1 := Hid.mk hb1
  have HON : Hid (Only (fun k => k ∈ feet t Ls) w W1) := Hid.mk ((Only.of_new (fun k => k ∈ feet t Ls) HXB.out).trans HO1.out (fun i hi => .inl hi))
  have HS1 : Hid (w.heap.size + 1 < W1.heap.size) := Hid.mk (lt_of_block hb1)
  clear m3 hb1 hb0 x0 x1 hl1 g2 HR HX0 HX1 HXB HO1
  go_upto_region 4 with fail
  have HLD : Hid (locL Ls d ∈ feet t Ls) := Hid.mk (by
    obtain ⟨b, m, r, c, l, z, s, q1, q2, q3, q4, q5⟩ := HT.out.dirAt hd hdk
    rw [q4]
    exact mem_feet q1 (by simp [Lay.foot]))
  have HLE : Hid (locL Ls d2 ∈ feet t Ls) := Hid.mk (by
    obtain ⟨b, m, r, c, l, z, s, q1, q2, q3, q4, q5⟩ := HT.out.dirAt hd2 hd2k
    rw [q4]
    exact mem_feet q1 (by simp [Lay.foot]))
  generalize hV : World.setCell W1 _ _ = V at *
  have hb2 : V.heap[w.heap.size + 1]? = some (.cells #[.pointer (some ⟨locL Ls d2, 0, none⟩), .string q, .pointer y2] 69 (0, 0)) := by
    rw [← hV]
    refine (Below.heap_setCell _ _ _ _ (fun e => ?_)).trans HB1.out
    exact hnf (w.heap.size + 1) (by omega) (by rw [e]; exact HLD.out)
  have v0 := blk_cell hb2 0
  simp at v0
  obtain ⟨n1, n2, n3⟩ := HT3.out.more (d := d2) (by simpa using hd2) (by rw [(more_kind d2 d (-1)).2, (del_kind d2 d p).2]; exact hd2k) 1
  simp only at n1 n3
  obtain ⟨l2, hl2⟩ : ∃ l2, l2 = (nodeAt ((σ.nodes.modify d (fun x => x.del p)).modify d (fun x => x.more (-1))) d2).links := ⟨_, rfl⟩
  rw [← hl2] at n1 n3
  have HT4 := Hid.mk n3
  have HV : Hid (Only (fun k => k ∈ feet t Ls) w V) := Hid.mk (by rw [← hV]; exact HON.out.setCell (p := ⟨locL Ls d, 1, none⟩) (.inl HLD.out) _)
  clear n3 hl2 hb2 hV HB1 HON HT3 u0 u2 g0 m1 m2
  go_wp2
  go_end0
  exact ⟨rfl, HT4.out, HV.out.setCell (p := ⟨locL Ls d2, 1, none⟩) (.inl HLE.out) _⟩
/-- The tree behind 'move', where there is room. -/
def moveT (σ : Tr) (d : Nat) (p : List UInt8) (j d2 : Nat) (q : List UInt8) : Tr :=
  leaveT { σ with inodes := w64 (σ.inodes + 0), blocks := w64 (σ.blocks + (nodeAt σ.nodes d2).growth), nodes := σ.nodes.modify d2 (fun x => x.add q j) } d p j d2
set_option maxRecDepth 100000 in
set_option maxHeartbeats 4000000 in
theorem move_tree (w : World) (t : Nat) (σ : Tr) (Ls : List Lay) (hT : TrAt w t σ Ls) (hOk : ∀ x ∈ σ.nodes, x.Ok) (d : Nat) (p : List UInt8) (j d2 : Nat) (q : List UInt8) (hd : d < σ.nodes.length) (hdk : (nodeAt σ.nodes d).isDir = true) (hlk : lookS (nodeAt σ.nodes d).slots p = some j) (hp : p.length ≤ 1000) (hj : j < σ.nodes.length) (hjk : (nodeAt σ.nodes j).isDir = true) (hd2 : d2 < σ.nodes.length) (hd2k : (nodeAt σ.nodes d2).isDir = true) (hno : lookS (nodeAt σ.nodes d2).slots q = none) (hq : q.length ≤ 1000) (hne : d ≠ d2) (hl : (nodeAt σ.nodes d2).links < 32000) (hfit : fitsB σ.G σ.I σ.D σ.inodes σ.blocks 0 (nodeAt σ.nodes d2).growth = true) :
    Calls Tryz.prog 47 #[ptrV t, .agg #[ptrV (locL Ls d), strV p, ptrV (locL Ls j)], .agg #[ptrV (locL Ls d2), strV q, .pointer none]] w fun e w' => e = .returned (.int .i64 0) ∧ StepL w t Ls w' (moveT σ d p j d2 q) := by
  have k2 : (nodeAt σ.nodes j).kind = 2 := by rcases kind_two (nodeAt σ.nodes j) with ⟨_, k⟩ | ⟨k, _⟩; exact k; rw [hjk] at k; cases k
  have HNQ : Hid (∀ W, Below w.heap.size w W → _) := Hid.mk (fun W (hB : Below w.heap.size w W) => run_neq_nodes (hT.below rfl hB) hd2 hd (fun e => hne e.symm))
  have HGR : Hid (∀ W, Below w.heap.size w W → Calls Tryz.prog 39 #[ptrV (locL Ls d2)] W fun e w' => e = .returned (.int .i64 (nodeAt σ.nodes d2).growth) ∧ Below W.heap.size W w') := Hid.mk (fun W hB => by
    obtain ⟨b, m, r, c, l, z, s, q1, q2, q3, q4, q5⟩ := (hT.below rfl hB).dirAt hd2 hd2k
    have hdok : (Nd.dir l z s).Ok := hOk _ (List.mem_of_getElem? q2)
    rw [q4, q5]
    exact growth_any W (locL Ls) b m r c l z s q3 hdok.2.2 hdok.1 hdok.2.1)
  have HTK : Hid (∀ W, Below w.heap.size w W → Calls Tryz.prog 38 #[ptrV t, .int .i64 0, .int .i64 (nodeAt σ.nodes d2).growth] W fun e w' => e = .returned (.int .i64 0) ∧ TrAt w' t { σ with inodes := w64 (σ.inodes + 0), blocks := w64 (σ.blocks + (nodeAt σ.nodes d2).growth) } Ls ∧ Only (fun k => k = t) W w') := Hid.mk (fun W hB => by
    have hTW := hT.below rfl hB
    refine (take_any W t (locL Ls 0) σ.G σ.I σ.D σ.inodes σ.blocks hTW.tree 0 (nodeAt σ.nodes d2).growth).mono ?_
    rintro e w' (⟨h1, _, _⟩ | ⟨h1, h2, h3, h4⟩)
    · rw [hfit] at h1; cases h1
    · exact ⟨h2, hTW.count h4 h3, h4⟩)
  have hll : ∃ l2, (nodeAt σ.nodes d2).links = l2 := ⟨_, rfl⟩
  obtain ⟨l2, hl2⟩ := hll
  have hl3 : ¬ (32000 : Int) ≤ l2 := by omega
  have HK : Hid (∀ W, Below w.heap.size w W → W.cell? ⟨locL Ls j, 0, none⟩ = some (.int .i64 2) ∧ W.cell? ⟨locL Ls d2, 1, none⟩ = some (.int .i64 l2)) := Hid.mk (fun W hB => ⟨by have := ((hT.below rfl hB).kindAt hj).1; rwa [k2] at this, by have := ((hT.below rfl hB).kindAt hd2).2.1; rwa [hl2] at this⟩)
  have HT := Hid.mk hT
  have HOK := Hid.mk hOk
  clear hT hOk hl hl2 hfit
  unfold ptrV at HGR HTK
  unfold ptrV strV
  go_enter Tryz.func47, Tryz.ntmps47
  go_upto_region 1 with fail
  obtain ⟨X, hX⟩ : ∃ X, X = (w.alloc (.cells #[.pointer (some ⟨locL Ls d, 0, none⟩), .string (mkS p), .pointer (some ⟨locL Ls j, 0, none⟩)] 69)).alloc (.cells #[.pointer (some ⟨locL Ls d2, 0, none⟩), .string (mkS q), .pointer none] 69) := ⟨_, rfl⟩
  have hXB : Below w.heap.size w X := by rw [hX]; exact ((Below.refl _ w).alloc (Nat.le_refl _) _).alloc (by simp) _
  have hX0 : X.heap[w.heap.size]? = some (.cells #[.pointer (some ⟨locL Ls d, 0, none⟩), .string (mkS p), .pointer (some ⟨locL Ls j, 0, none⟩)] 69 (0, 0)) := by rw [hX, Below.heap_alloc _ _ _ (by simp)]; exact blk_new w _
  have hX1 : X.heap[w.heap.size + 1]? = some (.cells #[.pointer (some ⟨locL Ls d2, 0, none⟩), .string (mkS q), .pointer none] 69 (0, 0)) := by
    rw [hX]
    have := blk_new (w.alloc (.cells #[.pointer (some ⟨locL Ls d, 0, none⟩), .string (mkS p), .pointer (some ⟨locL Ls j, 0, none⟩)] 69)) (.cells #[.pointer (some ⟨locL Ls d2, 0, none⟩), .string (mkS q), .pointer none] 69)
    rwa [World.size_alloc] at this
  rw [← hX]
  clear hX
  have x0 := blk_cell hX0 0
  have x2 := blk_cell hX0 2
  have y0 := blk_cell hX1 0
  simp at x0 x2 y0
  obtain ⟨g0, g1⟩ := HK.out X hXB
  have hcmp := HNQ.out X hXB
  have HX0 := Hid.mk hX0
  have HX1 := Hid.mk hX1
  have HXB := Hid.mk hXB
  clear hX0 hX1 hXB HK
  go_upto_region 4 with (first
    | (go_at_call 39; refine (HGR.out _ HXB.out).mono ?_; rintro e' Wg ⟨rfl, hbg⟩; have HG := Hid.mk hbg; clear hbg)
    | (go_at_call 38; refine (HTK.out _ (HXB.out.trans (HG.out.mono HXB.out.size))).mono ?_; rintro e' Wt ⟨rfl, hTt, hOt⟩; have HTt := Hid.mk hTt; have HOt := Hid.mk hOt; clear hTt hOt))
  have hnf : ∀ k, w.heap.size ≤ k → k ∉ feet t Ls := fun k hk h => by have := HT.out.lt k h; omega
  have htf : t ∈ feet t Ls := by simp [feet]
  have hXt : Only (fun k => k ∈ feet t Ls) X Wt := (Only.of_new (fun k => k ∈ feet t Ls) HG.out).trans (HOt.out.mono (fun i _ (hi : i = t) => by rw [hi]; exact htf)) (fun i hi => .inl hi)
  have hb0 := (hXt.block w.heap.size (lt_of_block HX0.out) (hnf _ (Nat.le_refl _))).trans HX0.out
  have hb1 := (hXt.block (w.heap.size + 1) (lt_of_block HX1.out) (hnf _ (by omega))).trans HX1.out
  have HON : Hid (Only (fun k => k ∈ feet t Ls) w Wt) := Hid.mk ((Only.of_new (fun k => k ∈ feet t Ls) HXB.out).trans hXt (fun i hi => .inl hi))
  have u2 := blk_cell hb0 2
  have v0 := blk_cell hb1 0
  have v1 := blk_cell hb1 1
  simp at u2 v0 v1
  have HAD := Hid.mk (add_tree Wt t _ Ls HTt.out HOK.out d2 q j hd2 hd2k hno hj hq)
  unfold ptrV strV at HAD
  have HB0 := Hid.mk hb0
  have HB1 := Hid.mk hb1
  have HSZ : Hid (w.heap.size + 1 < Wt.heap.size) := Hid.mk (lt_of_block hb1)
  clear hb0 hb1 hXt x0 x2 y0 g0 g1 hcmp HNQ HX0 HX1 HXB HGR HTK HG HOt
  go_upto_region 7 with (go_at_call 40; refine HAD.out.mono ?_; rintro e' Wa ⟨rfl, ⟨Ls', hTa, hLo, hFt⟩, hOa⟩; have HTa := Hid.mk hTa; have HLo := Hid.mk hLo; have HFt := Hid.mk hFt; have HOa := Hid.mk hOa; clear hTa hLo hFt hOa)
  have hc0 := (HOa.out.block w.heap.size (by have := HSZ.out; omega) (hnf _ (Nat.le_refl _))).trans HB0.out
  have hc1 := (HOa.out.block (w.heap.size + 1) HSZ.out (hnf _ (by omega))).trans HB1.out
  have u0 := blk_cell hc0 0
  have u1 := blk_cell hc0 1
  have u3 := blk_cell hc0 2
  have w0 := blk_cell hc1 0
  have w1 := blk_cell hc1 1
  have w2 := blk_cell hc1 2
  simp at u0 u1 u3 w0 w1 w2
  have HLV := Hid.mk (leave_tree Wa t { σ with inodes := w64 (σ.inodes + 0), blocks := w64 (σ.blocks + (nodeAt σ.nodes d2).growth), nodes := σ.nodes.modify d2 (fun x => x.add q j) } Ls' HTa.out d p j d2 (mkS q) none (by simpa using hd) (by rw [add_kind]; exact hdk) (by rw [node_other _ hne]; exact hlk) hp (by simpa using hj) (by rw [add_kind]; exact hjk) (by simpa using hd2) (by rw [add_kind]; exact hd2k))
  rw [HLo.out] at HLV
  unfold ptrV strV at HLV
  clear hc0 hc1 u2 v0 v1 HB0 HB1 HAD
  go_wp2_with (go_at_call 60; refine HLV.out.mono ?_; rintro e' Wl ⟨rfl, hTl, hOl⟩; have HTl := Hid.mk hTl; have HOl := Hid.mk hOl; clear hTl hOl)
  go_ret
  refine ⟨rfl, ⟨Ls', HTl.out, HLo.out, fun k hk => ?_⟩, ?_⟩
  · rcases HFt.out k hk with h | h
    · exact .inl h
    · exact .inr (by have := HSZ.out; omega)
  · refine (HON.out.trans HOa.out (fun i hi => .inl hi)).trans HOl.out (fun i hi => ?_)
    rcases HFt.out i hi with h | h
    · exact .inl h
    · exact .inr (by have := HSZ.out; omega)
end Go.Proofs.YtehaoeclnmelhacGreat
