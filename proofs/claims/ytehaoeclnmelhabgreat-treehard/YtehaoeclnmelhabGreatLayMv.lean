/-
  Within a tree: one more name for a node that is there, a name less, links to and fro.
-/
import Derived.Test.YtehaoeclnmelhabGreatLayRm
import Derived.Test.YtehaoeclnmelhabGreatTrDo
import Derived.Test.YtehaoeclnmelhabGreatLayLaw
import Derived.Test.YtehaoeclnmelhabGreatLayTop
namespace Go.Proofs.YtehaoeclnmelhabGreat
open Go Go.Proofs Go.RowKit Go.Shelf Go.Sort

/-- Between two worlds a tree has become another one, whose nodes lie where they lay. -/
structure StepL (w : World) (t : Nat) (Ls : List Lay) (w' : World) (σ' : Tr) : Prop where
  ex : ∃ Ls', TrAt w' t σ' Ls' ∧ locL Ls' = locL Ls ∧ ∀ k ∈ feet t Ls', k ∈ feet t Ls ∨ w.heap.size ≤ k
  only : Only (fun k => k ∈ feet t Ls) w w'
theorem StepL.step {w w' : World} {t : Nat} {Ls : List Lay} {σ' : Tr} (h : StepL w t Ls w' σ') : Step (fun k => k ∈ feet t Ls) w t w' σ' := by
  obtain ⟨⟨Ls', h1, _, h3⟩, h4⟩ := h
  exact ⟨⟨Ls', h1, h3⟩, h4⟩
theorem add_tree (w : World) (t : Nat) (σ : Tr) (Ls : List Lay) (hT : TrAt w t σ Ls) (hOk : ∀ x ∈ σ.nodes, x.Ok) (d : Nat) (p : List UInt8) (j : Nat) (hd : d < σ.nodes.length) (hdk : (nodeAt σ.nodes d).isDir = true) (hno : lookS (nodeAt σ.nodes d).slots p = none) (hj : j < σ.nodes.length) (hp : p.length ≤ 1000) :
    Calls Tryz.prog 45 #[ptrV (locL Ls d), strV p, ptrV (locL Ls j)] w fun e w' => e = .returned (.tuple #[]) ∧ StepL w t Ls w' { σ with nodes := σ.nodes.modify d (fun x => x.add p j) } := by
  obtain ⟨b, m, r, c, l, z, s, q1, q2, q3, q4, q5⟩ := hT.dirAt hd hdk
  have hnd : [b, m, r].Nodup := foot_nodup (List.nodup_cons.1 hT.apart).2 q1
  rw [q5] at hno
  rw [q4]
  refine (add_any w (locL Ls) b m r c l z s q3 hnd (hOk _ (List.mem_of_getElem? q2)).2.2 p hp hno j).mono ?_
  rintro e w' ⟨h1, r', c', z', s', ha, hD, hO, hr⟩
  refine ⟨h1, ?_⟩
  have hnd' : [b, m, r'].Nodup := by
    rcases hr with rfl | hr
    · exact hnd
    · have e1 := hT.lt b (mem_feet q1 (by simp [Lay.foot]))
      have e2 := hT.lt m (mem_feet q1 (by simp [Lay.foot]))
      simp at hnd ⊢
      exact ⟨⟨hnd.1.1, by omega⟩, by omega⟩
  have hft : ∀ k ∈ (Lay.dir b m r' c').foot, k ∈ (Lay.dir b m r c).foot ∨ w.heap.size ≤ k := by
    intro k hk
    simp only [Lay.foot, List.mem_cons, List.not_mem_nil, or_false] at hk ⊢
    rcases hk with rfl | rfl | rfl
    · exact .inl (.inl rfl)
    · exact .inl (.inr (.inl rfl))
    · rcases hr with rfl | hr
      · exact .inl (.inr (.inr rfl))
      · exact .inr hr.1
  have hslots : ∀ q, some q ∈ s' → q.1 < σ.nodes.length := by
    intro q hq
    have hold : ∀ q, some q ∈ s → q.1 < σ.nodes.length := fun q hq => hT.refs _ (List.mem_of_getElem? q2) q hq
    have hset : ∀ (u : List Slt) (k : Nat), some q ∈ u.set k (some (j, p)) → some q ∈ u ∨ q = (j, p) := fun u k h => by
      rcases List.mem_or_eq_of_mem_set h with h | h
      · exact .inl h
      · cases h; exact .inr rfl
    simp only [Nd.add] at ha
    split at ha
    · cases ha
      rcases hset _ _ hq with h | h
      · exact hold q h
      · rw [h]; exact hj
    · cases ha
      rcases hset _ _ hq with h | h
      · rcases List.mem_append.1 h with h | h
        · exact hold q h
        · have := List.eq_of_mem_replicate h; cases this
      · rw [h]; exact hj
  have htb : ¬ (t = b ∨ t = m ∨ t = r) := fun h => (List.nodup_cons.1 hT.apart).1 (List.mem_flatMap.2 ⟨_, List.mem_of_getElem? q1, by simpa [Lay.foot] using h⟩)
  have hfin := hT.turn (L' := .dir b m r' c') (n' := .dir l z' s') q1 rfl (hO.mono (fun i _ hi => .inr (by simpa [Lay.foot] using hi))) (i' := σ.inodes) (b' := σ.blocks)
    ((hO.block t (lt_of_block hT.tree) htb).trans hT.tree) hD hft hnd' hslots (fun _ => rfl)
  refine ⟨⟨Ls.set d (.dir b m r' c'), ?_, locL_set q1 rfl, fun k hk => ?_⟩, hO.mono (fun i _ h => mem_feet q1 (by simpa [Lay.foot] using h))⟩
  · rw [modify_set q2, ha]
    exact hfin
  · rcases (feet_set (t := t) (L' := .dir b m r' c') q1 hT.apart (fun k hk => hT.lt k hk) hft hnd').2 k hk with h | h
    · exact .inl h
    · exact .inr h.1
/-- The tree behind 'leave'. -/
def leaveT (σ : Tr) (d : Nat) (p : List UInt8) (j d2 : Nat) : Tr :=
  { σ with nodes := if (nodeAt σ.nodes j).isDir = true then ((σ.nodes.modify d (fun x => x.del p)).modify d (fun x => x.more (-1))).modify d2 (fun x => x.more 1) else σ.nodes.modify d (fun x => x.del p) }
theorem del_kind {N : List Nd} (i d : Nat) (p : List UInt8) : (nodeAt (N.modify d (fun x => x.del p)) i).kind = (nodeAt N i).kind ∧ (nodeAt (N.modify d (fun x => x.del p)) i).isDir = (nodeAt N i).isDir := by
  unfold nodeAt
  rw [List.getD, List.getElem?_modify, List.getD]
  cases hn : N[i]? with
  | none => simp
  | some y =>
    simp
    split
    · cases y <;> exact ⟨rfl, rfl⟩
    · exact ⟨rfl, rfl⟩
theorem more_kind {N : List Nd} (i d : Nat) (n : Int) : (nodeAt (N.modify d (fun x => x.more n)) i).kind = (nodeAt N i).kind ∧ (nodeAt (N.modify d (fun x => x.more n)) i).isDir = (nodeAt N i).isDir := by
  unfold nodeAt
  rw [List.getD, List.getElem?_modify, List.getD]
  cases hn : N[i]? with
  | none => simp
  | some y =>
    simp
    split
    · cases y <;> exact ⟨rfl, rfl⟩
    · exact ⟨rfl, rfl⟩
/-- A directory's links turn by so many. -/
theorem TrAt.more {W : World} {t : Nat} {σ : Tr} {Ls : List Lay} (h : TrAt W t σ Ls) {d : Nat} (hd : d < σ.nodes.length) (hk : (nodeAt σ.nodes d).isDir = true) (n : Int) : W.cell? ⟨locL Ls d, 1, none⟩ = some (.int .i64 (nodeAt σ.nodes d).links) ∧ W.frozen? ⟨locL Ls d, 1, none⟩ = false ∧ TrAt (W.setCell ⟨locL Ls d, 1, none⟩ (.int .i64 (w64 ((nodeAt σ.nodes d).links + n)))) t { σ with nodes := σ.nodes.modify d (fun x => x.more n) } Ls := by
  obtain ⟨b, m, r, c, l, z, s, q1, q2, q3, q4, q5⟩ := h.dirAt hd hk
  refine ⟨(h.kindAt hd).2.1, by rw [q4]; exact blk_free q3.node 1, ?_⟩
  rw [q4, q5, modify_set q2]
  exact h.links (l' := w64 (l + n)) q1 q2
theorem add_kind {N : List Nd} (i d : Nat) (p : List UInt8) (j : Nat) : (nodeAt (N.modify d (fun x => x.add p j)) i).isDir = (nodeAt N i).isDir := by
  unfold nodeAt
  rw [List.getD, List.getElem?_modify, List.getD]
  cases hn : N[i]? with
  | none => simp
  | some y =>
    simp
    split
    · cases y
      · rfl
      · simp only [Nd.add]; split <;> rfl
    · rfl
theorem node_other {N : List Nd} {i d : Nat} (f : Nd → Nd) (h : i ≠ d) : nodeAt (N.modify d f) i = nodeAt N i := by
  unfold nodeAt
  have hne : ¬ d = i := fun e => h e.symm
  rw [List.getD, List.getElem?_modify, List.getD]
  simp [hne]
theorem run_neq_ptr_other2 {P : Program} {w : World} {tp te : TypeId} {j : TypeInfo} {a b : Addr} {ca cb : Array Value} {ta tb : TypeId} (hp : P.underlying tp = some (.pointer te)) (hte : P.info? te = some j) (hsz : j.size ≠ 0)
    (hne : a ≠ b) (ha : w.heap[a.block]? = some (.cells ca ta (0, 0))) (hb : w.heap[b.block]? = some (.cells cb tb (0, 0))) :
    (binOp .neq tp (.pointer (some a)) (.pointer (some b))).run P w = .ok (.bool true) w := by
  have h : ∀ d : Nat, (Op.equalIn (d + 1) tp (.pointer (some a)) (.pointer (some b))).run P w = .ok false w := fun d => by
    simp [Op.equalIn, run_underlying hp, sizeOf, typeInfo, hte, hsz, run_sameAddr_other w hne ha hb]
  simp only [binOp]
  simp [Op.equal, Op.maxDepth, h 9999]
theorem run_neq_nodes {W : World} {t : Nat} {σ : Tr} {Ls : List Lay} (hT : TrAt W t σ Ls) {i j : Nat} (hi : i < σ.nodes.length) (hj : j < σ.nodes.length) (hne : i ≠ j) : (binOp .neq 52 (.pointer (some ⟨locL Ls i, 0, none⟩)) (.pointer (some ⟨locL Ls j, 0, none⟩))).run Tryz.prog W = .ok (.bool true) W := by
  obtain ⟨k, hjn, hsz⟩ := infoNode2
  obtain ⟨A, n4, a1, a2, a3, a4⟩ := hT.get hi
  obtain ⟨A', n4', a1', a2', a3', a4'⟩ := hT.get hj
  obtain ⟨_, _, _, h1⟩ := a3.head
  obtain ⟨_, _, _, h2⟩ := a3'.head
  refine run_neq_ptr_other2 (P := Tryz.prog) (tp := 52) (a := ⟨locL Ls i, 0, none⟩) (b := ⟨locL Ls j, 0, none⟩) Tryz.underlying52 hjn hsz (fun e => hne (hT.inj hi hj (congrArg Addr.block e))) (by rw [a4]; exact h1) (by rw [a4']; exact h2)
set_option maxRecDepth 100000 in
set_option maxHeartbeats 4000000 in
theorem leave_tree (w : World) (t : Nat) (σ : Tr) (Ls : List Lay) (hT : TrAt w t σ Ls) (d : Nat) (p : List UInt8) (j d2 : Nat) (q : ByteArray) (y2 : Option Addr) (hd : d < σ.nodes.length) (hdk : (nodeAt σ.nodes d).isDir = true) (hlk : lookS (nodeAt σ.nodes d).slots p = some j) (hp : p.length ≤ 1000) (hj : j < σ.nodes.length) (hjk : (nodeAt σ.nodes j).isDir = true) (hd2 : d2 < σ.nodes.length) (hd2k : (nodeAt σ.nodes d2).isDir = true) :
    Calls Tryz.prog 65 #[.agg #[ptrV (locL Ls d), strV p, ptrV (locL Ls j)], .agg #[ptrV (locL Ls d2), .string q, .pointer y2]] w fun e w' => e = .returned (.tuple #[]) ∧ TrAt w' t (leaveT σ d p j d2) Ls ∧ Only (fun k => k ∈ feet t Ls) w w' := by
  have hsv : leaveT σ d p j d2 = { σ with nodes := ((σ.nodes.modify d (fun x => x.del p)).modify d (fun x => x.more (-1))).modify d2 (fun x => x.more 1) } := by unfold leaveT; rw [if_pos hjk]
  rw [hsv]
  have k2 : (nodeAt σ.nodes j).kind = 2 := by rcases kind_two (nodeAt σ.nodes j) with ⟨_, k⟩ | ⟨k, _⟩; exact k; rw [hjk] at k; cases k
  have HT := Hid.mk hT
  clear hT hsv
  unfold ptrV strV
  go_enter Tryz.func65, Tryz.ntmps65
  go_upto_region 1 with fail
  obtain ⟨X, hX⟩ : ∃ X, X = (w.alloc (.cells #[.pointer (some ⟨locL Ls d, 0, none⟩), .string (mkS p), .pointer (some ⟨locL Ls j, 0, none⟩)] 73)).alloc (.cells #[.pointer (some ⟨locL Ls d2, 0, none⟩), .string q, .pointer y2] 73) := ⟨_, rfl⟩
  have hXB : Below w.heap.size w X := by rw [hX]; exact ((Below.refl _ w).alloc (Nat.le_refl _) _).alloc (by simp) _
  have hX0 : X.heap[w.heap.size]? = some (.cells #[.pointer (some ⟨locL Ls d, 0, none⟩), .string (mkS p), .pointer (some ⟨locL Ls j, 0, none⟩)] 73 (0, 0)) := by rw [hX, Below.heap_alloc _ _ _ (by simp)]; exact blk_new w _
  have hX1 : X.heap[w.heap.size + 1]? = some (.cells #[.pointer (some ⟨locL Ls d2, 0, none⟩), .string q, .pointer y2] 73 (0, 0)) := by
    rw [hX]
    have := blk_new (w.alloc (.cells #[.pointer (some ⟨locL Ls d, 0, none⟩), .string (mkS p), .pointer (some ⟨locL Ls j, 0, none⟩)] 73)) (.cells #[.pointer (some ⟨locL Ls d2, 0, none⟩), .string q, .pointer y2] 73)
    rwa [World.size_alloc] at this
  rw [← hX]
  clear hX
  have x0 := blk_cell hX0 0
  have x1 := blk_cell hX0 1
  simp at x0 x1
  have HR := Hid.mk (remove_tree X t σ Ls (HT.out.below rfl hXB) d p j hd hdk hlk hp)
  unfold ptrV strV at HR
  have HX0 := Hid.mk hX0
  have HX1 := Hid.mk hX1
  have HXB := Hid.mk hXB
  clear hX0 hX1 hXB
  go_upto_region 2 with (go_at_call 47; refine HR.out.mono ?_; rintro e' W1 ⟨rfl, hT1, ho1⟩; have HT1 := Hid.mk hT1; have HO1 := Hid.mk ho1; clear hT1 ho1)
  have hnf : ∀ k, w.heap.size ≤ k → k ∉ feet t Ls := fun k hk h => by have := HT.out.lt k h; omega
  have hb0 := (HO1.out.block w.heap.size (lt_of_block HX0.out) (hnf _ (Nat.le_refl _))).trans HX0.out
  have hb1 := (HO1.out.block (w.heap.size + 1) (lt_of_block HX1.out) (hnf _ (by omega))).trans HX1.out
  have u0 := blk_cell hb0 0
  have u2 := blk_cell hb0 2
  simp at u0 u2
  have g0 := (HT1.out.kindAt (j := j) (by simpa using hj)).1
  have g2 : (nodeAt (σ.nodes.modify d (fun x => x.del p)) j).kind = 2 := by rw [(del_kind j d p).1]; exact k2
  simp only [g2] at g0
  obtain ⟨m1, m2, m3⟩ := HT1.out.more (d := d) (by simpa using hd) (by rw [(del_kind d d p).2]; exact hdk) (-1)
  simp only at m1 m3
  obtain ⟨l1, hl1⟩ : ∃ l1, l1 = (nodeAt (σ.nodes.modify d (fun x => x.del p)) d).links := ⟨_, rfl⟩
  rw [← hl1] at m1 m3
  rw [show w64 (l1 + -1) = wrap64 (l1 - 1) from by rw [Int.sub_eq_add_neg]] at m3
  have HT3 := Hid.mk m3
  have HB1 := Hid.mk hb1
  have HON : Hid (Only (fun k => k ∈ feet t Ls) w W1) := Hid.mk ((Only.of_new (fun k => k ∈ feet t Ls) HXB.out).trans HO1.out (fun i hi => .inl hi))
  have HS1 : Hid (w.heap.size + 1 < W1.heap.size) := Hid.mk (lt_of_block hb1)
  clear m3 hb1 hb0 x0 x1 hl1 g2 HR HX0 HX1 HXB HO1
  go_upto_region 4 with fail
  have HLD : Hid (locL Ls d ∈ feet t Ls) := Hid.mk (by
    obtain ⟨b, m, r, c, l, z, s, q1, q2, q3, q4, q5⟩ := HT.out.dirAt hd hdk
    rw [q4]
    exact mem_feet q1 (by simp [Lay.foot]))
  have HLE : Hid (locL Ls d2 ∈ feet t Ls) := Hid.mk (by
    obtain ⟨b, m, r, c, l, z, s, q1, q2, q3, q4, q5⟩ := HT.out.dirAt hd2 hd2k
    rw [q4]
    exact mem_feet q1 (by simp [Lay.foot]))
  generalize hV : World.setCell W1 _ _ = V at *
  have hb2 : V.heap[w.heap.size + 1]? = some (.cells #[.pointer (some ⟨locL Ls d2, 0, none⟩), .string q, .pointer y2] 73 (0, 0)) := by
    rw [← hV]
    refine (Below.heap_setCell _ _ _ _ (fun e => ?_)).trans HB1.out
    exact hnf (w.heap.size + 1) (by omega) (by rw [e]; exact HLD.out)
  have v0 := blk_cell hb2 0
  simp at v0
  obtain ⟨n1, n2, n3⟩ := HT3.out.more (d := d2) (by simpa using hd2) (by rw [(more_kind d2 d (-1)).2, (del_kind d2 d p).2]; exact hd2k) 1
  simp only at n1 n3
  obtain ⟨l2, hl2⟩ : ∃ l2, l2 = (nodeAt ((σ.nodes.modify d (fun x => x.del p)).modify d (fun x => x.more (-1))) d2).links := ⟨_, rfl⟩
  rw [← hl2] at n1 n3
  have HT4 := Hid.mk n3
  have HV : Hid (Only (fun k => k ∈ feet t Ls) w V) := Hid.mk (by rw [← hV]; exact HON.out.setCell (p := ⟨locL Ls d, 1, none⟩) (.inl HLD.out) _)
  clear n3 hl2 hb2 hV HB1 HON HT3 u0 u2 g0 m1 m2
  go_wp2
  go_end0
  exact ⟨rfl, HT4.out, HV.out.setCell (p := ⟨locL Ls d2, 1, none⟩) (.inl HLE.out) _⟩
/-- The tree behind 'move', where there is room. -/
def moveT (σ : Tr) (d : Nat) (p : List UInt8) (j d2 : Nat) (q : List UInt8) : Tr :=
  leaveT { σ with inodes := w64 (σ.inodes + 0), blocks := w64 (σ.blocks + (nodeAt σ.nodes d2).growth), nodes := σ.nodes.modify d2 (fun x => x.add q j) } d p j d2
set_option maxRecDepth 100000 in
set_option maxHeartbeats 4000000 in
theorem move_tree (w : World) (t : Nat) (σ : Tr) (Ls : List Lay) (hT : TrAt w t σ Ls) (hOk : ∀ x ∈ σ.nodes, x.Ok) (d : Nat) (p : List UInt8) (j d2 : Nat) (q : List UInt8) (hd : d < σ.nodes.length) (hdk : (nodeAt σ.nodes d).isDir = true) (hlk : lookS (nodeAt σ.nodes d).slots p = some j) (hp : p.length ≤ 1000) (hj : j < σ.nodes.length) (hjk : (nodeAt σ.nodes j).isDir = true) (hd2 : d2 < σ.nodes.length) (hd2k : (nodeAt σ.nodes d2).isDir = true) (hno : lookS (nodeAt σ.nodes d2).slots q = none) (hq : q.length ≤ 1000) (hne : d ≠ d2) (hl : (nodeAt σ.nodes d2).links < 32000) (hfit : fitsB σ.G σ.I σ.D σ.inodes σ.blocks 0 (nodeAt σ.nodes d2).growth = true) :
    Calls Tryz.prog 52 #[ptrV t, .agg #[ptrV (locL Ls d), strV p, ptrV (locL Ls j)], .agg #[ptrV (locL Ls d2), strV q, .pointer none]] w fun e w' => e = .returned (.int .i64 0) ∧ StepL w t Ls w' (moveT σ d p j d2 q) := by
  have k2 : (nodeAt σ.nodes j).kind = 2 := by rcases kind_two (nodeAt σ.nodes j) with ⟨_, k⟩ | ⟨k, _⟩; exact k; rw [hjk] at k; cases k
  have HNQ : Hid (∀ W, Below w.heap.size w W → _) := Hid.mk (fun W (hB : Below w.heap.size w W) => run_neq_nodes (hT.below rfl hB) hd2 hd (fun e => hne e.symm))
  have HGR : Hid (∀ W, Below w.heap.size w W → Calls Tryz.prog 44 #[ptrV (locL Ls d2)] W fun e w' => e = .returned (.int .i64 (nodeAt σ.nodes d2).growth) ∧ Below W.heap.size W w') := Hid.mk (fun W hB => by
    obtain ⟨b, m, r, c, l, z, s, q1, q2, q3, q4, q5⟩ := (hT.below rfl hB).dirAt hd2 hd2k
    have hdok : (Nd.dir l z s).Ok := hOk _ (List.mem_of_getElem? q2)
    rw [q4, q5]
    exact growth_any W (locL Ls) b m r c l z s q3 hdok.2.2 hdok.1 hdok.2.1)
  have HTK : Hid (∀ W, Below w.heap.size w W → Calls Tryz.prog 43 #[ptrV t, .int .i64 0, .int .i64 (nodeAt σ.nodes d2).growth] W fun e w' => e = .returned (.int .i64 0) ∧ TrAt w' t { σ with inodes := w64 (σ.inodes + 0), blocks := w64 (σ.blocks + (nodeAt σ.nodes d2).growth) } Ls ∧ Only (fun k => k = t) W w') := Hid.mk (fun W hB => by
    have hTW := hT.below rfl hB
    refine (take_any W t (locL Ls 0) σ.G σ.I σ.D σ.inodes σ.blocks hTW.tree 0 (nodeAt σ.nodes d2).growth).mono ?_
    rintro e w' (⟨h1, _, _⟩ | ⟨h1, h2, h3, h4⟩)
    · rw [hfit] at h1; cases h1
    · exact ⟨h2, hTW.count h4 h3, h4⟩)
  have hll : ∃ l2, (nodeAt σ.nodes d2).links = l2 := ⟨_, rfl⟩
  obtain ⟨l2, hl2⟩ := hll
  have hl3 : ¬ (32000 : Int) ≤ l2 := by omega
  have HK : Hid (∀ W, Below w.heap.size w W → W.cell? ⟨locL Ls j, 0, none⟩ = some (.int .i64 2) ∧ W.cell? ⟨locL Ls d2, 1, none⟩ = some (.int .i64 l2)) := Hid.mk (fun W hB => ⟨by have := ((hT.below rfl hB).kindAt hj).1; rwa [k2] at this, by have := ((hT.below rfl hB).kindAt hd2).2.1; rwa [hl2] at this⟩)
  have HT := Hid.mk hT
  have HOK := Hid.mk hOk
  clear hT hOk hl hl2 hfit
  unfold ptrV at HGR HTK
  unfold ptrV strV
  go_enter Tryz.func52, Tryz.ntmps52
  go_upto_region 1 with fail
  obtain ⟨X, hX⟩ : ∃ X, X = (w.alloc (.cells #[.pointer (some ⟨locL Ls d, 0, none⟩), .string (mkS p), .pointer (some ⟨locL Ls j, 0, none⟩)] 73)).alloc (.cells #[.pointer (some ⟨locL Ls d2, 0, none⟩), .string (mkS q), .pointer none] 73) := ⟨_, rfl⟩
  have hXB : Below w.heap.size w X := by rw [hX]; exact ((Below.refl _ w).alloc (Nat.le_refl _) _).alloc (by simp) _
  have hX0 : X.heap[w.heap.size]? = some (.cells #[.pointer (some ⟨locL Ls d, 0, none⟩), .string (mkS p), .pointer (some ⟨locL Ls j, 0, none⟩)] 73 (0, 0)) := by rw [hX, Below.heap_alloc _ _ _ (by simp)]; exact blk_new w _
  have hX1 : X.heap[w.heap.size + 1]? = some (.cells #[.pointer (some ⟨locL Ls d2, 0, none⟩), .string (mkS q), .pointer none] 73 (0, 0)) := by
    rw [hX]
    have := blk_new (w.alloc (.cells #[.pointer (some ⟨locL Ls d, 0, none⟩), .string (mkS p), .pointer (some ⟨locL Ls j, 0, none⟩)] 73)) (.cells #[.pointer (some ⟨locL Ls d2, 0, none⟩), .string (mkS q), .pointer none] 73)
    rwa [World.size_alloc] at this
  rw [← hX]
  clear hX
  have x0 := blk_cell hX0 0
  have x2 := blk_cell hX0 2
  have y0 := blk_cell hX1 0
  simp at x0 x2 y0
  obtain ⟨g0, g1⟩ := HK.out X hXB
  have hcmp := HNQ.out X hXB
  have HX0 := Hid.mk hX0
  have HX1 := Hid.mk hX1
  have HXB := Hid.mk hXB
  clear hX0 hX1 hXB HK
  go_upto_region 4 with (first
    | (go_at_call 44; refine (HGR.out _ HXB.out).mono ?_; rintro e' Wg ⟨rfl, hbg⟩; have HG := Hid.mk hbg; clear hbg)
    | (go_at_call 43; refine (HTK.out _ (HXB.out.trans (HG.out.mono HXB.out.size))).mono ?_; rintro e' Wt ⟨rfl, hTt, hOt⟩; have HTt := Hid.mk hTt; have HOt := Hid.mk hOt; clear hTt hOt))
  have hnf : ∀ k, w.heap.size ≤ k → k ∉ feet t Ls := fun k hk h => by have := HT.out.lt k h; omega
  have htf : t ∈ feet t Ls := by simp [feet]
  have hXt : Only (fun k => k ∈ feet t Ls) X Wt := (Only.of_new (fun k => k ∈ feet t Ls) HG.out).trans (HOt.out.mono (fun i _ (hi : i = t) => by rw [hi]; exact htf)) (fun i hi => .inl hi)
  have hb0 := (hXt.block w.heap.size (lt_of_block HX0.out) (hnf _ (Nat.le_refl _))).trans HX0.out
  have hb1 := (hXt.block (w.heap.size + 1) (lt_of_block HX1.out) (hnf _ (by omega))).trans HX1.out
  have HON : Hid (Only (fun k => k ∈ feet t Ls) w Wt) := Hid.mk ((Only.of_new (fun k => k ∈ feet t Ls) HXB.out).trans hXt (fun i hi => .inl hi))
  have u2 := blk_cell hb0 2
  have v0 := blk_cell hb1 0
  have v1 := blk_cell hb1 1
  simp at u2 v0 v1
  have HAD := Hid.mk (add_tree Wt t _ Ls HTt.out HOK.out d2 q j hd2 hd2k hno hj hq)
  unfold ptrV strV at HAD
  have HB0 := Hid.mk hb0
  have HB1 := Hid.mk hb1
  have HSZ : Hid (w.heap.size + 1 < Wt.heap.size) := Hid.mk (lt_of_block hb1)
  clear hb0 hb1 hXt x0 x2 y0 g0 g1 hcmp HNQ HX0 HX1 HXB HGR HTK HG HOt
  go_upto_region 7 with (go_at_call 45; refine HAD.out.mono ?_; rintro e' Wa ⟨rfl, ⟨Ls', hTa, hLo, hFt⟩, hOa⟩; have HTa := Hid.mk hTa; have HLo := Hid.mk hLo; have HFt := Hid.mk hFt; have HOa := Hid.mk hOa; clear hTa hLo hFt hOa)
  have hc0 := (HOa.out.block w.heap.size (by have := HSZ.out; omega) (hnf _ (Nat.le_refl _))).trans HB0.out
  have hc1 := (HOa.out.block (w.heap.size + 1) HSZ.out (hnf _ (by omega))).trans HB1.out
  have u0 := blk_cell hc0 0
  have u1 := blk_cell hc0 1
  have u3 := blk_cell hc0 2
  have w0 := blk_cell hc1 0
  have w1 := blk_cell hc1 1
  have w2 := blk_cell hc1 2
  simp at u0 u1 u3 w0 w1 w2
  have HLV := Hid.mk (leave_tree Wa t { σ with inodes := w64 (σ.inodes + 0), blocks := w64 (σ.blocks + (nodeAt σ.nodes d2).growth), nodes := σ.nodes.modify d2 (fun x => x.add q j) } Ls' HTa.out d p j d2 (mkS q) none (by simpa using hd) (by rw [add_kind]; exact hdk) (by rw [node_other _ hne]; exact hlk) hp (by simpa using hj) (by rw [add_kind]; exact hjk) (by simpa using hd2) (by rw [add_kind]; exact hd2k))
  rw [HLo.out] at HLV
  unfold ptrV strV at HLV
  clear hc0 hc1 u2 v0 v1 HB0 HB1 HAD
  go_wp2_with (go_at_call 65; refine HLV.out.mono ?_; rintro e' Wl ⟨rfl, hTl, hOl⟩; have HTl := Hid.mk hTl; have HOl := Hid.mk hOl; clear hTl hOl)
  go_ret
  refine ⟨rfl, ⟨Ls', HTl.out, HLo.out, fun k hk => ?_⟩, ?_⟩
  · rcases HFt.out k hk with h | h
    · exact .inl h
    · exact .inr (by have := HSZ.out; omega)
  · refine (HON.out.trans HOa.out (fun i hi => .inl hi)).trans HOl.out (fun i hi => ?_)
    rcases HFt.out i hi with h | h
    · exact .inl h
    · exact .inr (by have := HSZ.out; omega)
end Go.Proofs.YtehaoeclnmelhabGreat
namespace Go.Proofs.YtehaoeclnmelhabGreat
open Go Go.Proofs Go.RowKit Go.Shelf Go.Sort

set_option maxRecDepth 100000 in
set_option maxHeartbeats 4000000 in
theorem rename_move (w : World) (t : Nat) (σ : Tr) (Ls : List Lay) (hT : TrAt w t σ Ls) (hOk : ∀ x ∈ σ.nodes, x.Ok) (k : Int) (s s2 : ByteArray) (off m : Int) (dp : Option Addr) (dl dc : Nat) (hs : s.size ≤ 16777216) (hs2 : s2.size ≤ 16777216) (L M : List (List UInt8)) (p q : List UInt8) (h1 : splitL (ofS s) = some (L ++ [p])) (h2 : splitL (ofS s2) = some (M ++ [q])) (d j d2 : Nat) (he : spotE σ.nodes L p = (0, some ⟨d, p, some j⟩)) (he2 : spotE σ.nodes M q = (0, some ⟨d2, q, none⟩)) (hj : j < σ.nodes.length) (hw : onWay σ.nodes M j = false) (hjk : (nodeAt σ.nodes j).isDir = true) (hne : d ≠ d2) (hl : (nodeAt σ.nodes d2).links < 32000) (hfit : fitsB σ.G σ.I σ.D σ.inodes σ.blocks 0 (nodeAt σ.nodes d2).growth = true) :
    Calls Tryz.prog 30 #[ptrV t, callV k s s2 off m (.slice dp dl dc)] w fun e w' => e = .returned (errV 0) ∧ Step (fun k => k ∈ feet t Ls) w t w' (moveT σ d p j d2 q) := by
  have mixed : Tryz.prog.follows Departure.mixedOrders = true := by kernel_rfl
  have HTL : Hid (∀ k ∈ feet t Ls, k < w.heap.size) := Hid.mk (fun k hk => hT.lt k hk)
  have HMT : Hid (∀ W, Below w.heap.size w W → Calls Tryz.prog 52 #[ptrV t, .agg #[ptrV (locL Ls d), strV p, ptrV (locL Ls j)], .agg #[ptrV (locL Ls d2), strV q, .pointer none]] W fun e w' => e = .returned (.int .i64 0) ∧ Step (fun k => k ∈ feet t Ls) W t w' (moveT σ d p j d2 q)) := Hid.mk (fun W hB => by
    obtain ⟨hdl, hdk, hdn⟩ : d < σ.nodes.length ∧ (nodeAt σ.nodes d).isDir = true ∧ lookS (nodeAt σ.nodes d).slots p = some j := by
      rcases spotE_or σ.nodes L p with ⟨d', o, h, h1, h2, h3⟩ | ⟨e, h, _⟩
      · rw [he] at h; cases h; exact ⟨wayE_lt hT L h1, h2, h3.symm⟩
      · rw [he] at h; cases h
    obtain ⟨hel, hek, hen⟩ : d2 < σ.nodes.length ∧ (nodeAt σ.nodes d2).isDir = true ∧ lookS (nodeAt σ.nodes d2).slots q = none := by
      rcases spotE_or σ.nodes M q with ⟨d', o, h, h1, h2, h3⟩ | ⟨e, h, _⟩
      · rw [he2] at h; cases h; exact ⟨wayE_lt hT M h1, h2, h3.symm⟩
      · rw [he2] at h; cases h
    exact (move_tree W t σ Ls (hT.below rfl hB) hOk d p j d2 q hdl hdk hdn ((split_bounds h1).1 p (by simp)) hj hjk hel hek hen ((split_bounds h2).1 q (by simp)) hne hl hfit).mono (fun e w' hh => ⟨hh.1, hh.2.step⟩))
  have HBO : Hid (∀ W, _) := Hid.mk (fun W => both_yes W k s s2 off m dp dl dc hs hs2 h1 h2)
  obtain ⟨b1, b2⟩ := split_bounds h1
  obtain ⟨b3, b4⟩ := split_bounds h2
  have hln : (L ++ [p]).length = L.length + 1 := by simp
  have hln2 : (M ++ [q]).length = M.length + 1 := by simp
  rw [hln, hln2] at HBO
  have HS1 : Hid (∀ W ao c, Below w.heap.size w W → SAt W ao (L.length + 1) (L ++ [p]) → L.length + 1 ≤ c → c ≤ 9223372036854775807 → _) := Hid.mk (fun W ao c (hB : Below w.heap.size w W) hS hc1 hc2 => spot_any W t σ Ls (hT.below rfl hB) ao c L p hS b1 (by omega) hc1 hc2)
  have HS2 : Hid (∀ W ao c, Below w.heap.size w W → SAt W ao (M.length + 1) (M ++ [q]) → M.length + 1 ≤ c → c ≤ 9223372036854775807 → _) := Hid.mk (fun W ao c (hB : Below w.heap.size w W) hS hc1 hc2 => spot_any W t σ Ls (hT.below rfl hB) ao c M q hS b3 (by omega) hc1 hc2)
  have HWI : Hid (∀ W ao c, Below w.heap.size w W → SAt W ao M.length M → _) := Hid.mk (fun W ao c (hB : Below w.heap.size w W) hS => within_any2 W t σ Ls (hT.below rfl hB) ao c M hS (fun x hx => b3 x (by simp [hx])) (by omega) j hj)
  rw [he] at HS1
  rw [he2] at HS2
  rw [hw] at HWI
  simp only [spotV, optV, ptrV, strV] at HS1
  simp only [spotV, optV, ptrV, strV] at HS2
  have hw2 : wrap64 (M.length : Int) = (M.length : Int) := by unfold wrap64; omega
  have hne1 : ¬ ((L.length : Int) + 1 = 0) := by omega
  have hne2 : ¬ ((M.length : Int) + 1 = 0) := by omega
  have hbe1 : (((L.length : Int) + 1) == 0) = false := by simp; omega
  have hbe2 : (((M.length : Int) + 1) == 0) = false := by simp; omega
  generalize L.length = nl at *
  generalize M.length = nm at *
  clear hT hOk hs hs2 h1 h2 he he2 hj hw b1 b2 b3 b4 hln hln2
  unfold callV at HBO
  unfold callV ptrV at *
  go_enter Tryz.func30, Tryz.ntmps30
  go_wp2_with fail
  obtain ⟨X, hX⟩ : ∃ X, X = (w.alloc (.cells #[.int .i64 k, .string s, .string s2, .int .i64 off, .int .i64 m, .slice dp dl dc] 35)).alloc (.cells #[.int .i64 0, .slice none 0 0, .int .i64 0, .int .i64 0, .int .i64 0, .slice none 0 0, .int .i64 0] 32) := ⟨_, rfl⟩
  have hXB : Below w.heap.size w X := by rw [hX]; exact ((Below.refl _ w).alloc (Nat.le_refl _) _).alloc (by simp) _
  have hXs : X.heap.size = w.heap.size + 2 := by rw [hX]; simp
  have hX0 : X.heap[w.heap.size]? = some (.cells #[.int .i64 k, .string s, .string s2, .int .i64 off, .int .i64 m, .slice dp dl dc] 35 (0, 0)) := by rw [hX, Below.heap_alloc _ _ _ (by simp)]; exact blk_new w _
  have hX1 : X.heap[w.heap.size + 1]? = some (.cells #[.int .i64 0, .slice none 0 0, .int .i64 0, .int .i64 0, .int .i64 0, .slice none 0 0, .int .i64 0] 32 (0, 0)) := by
    rw [hX]
    have := blk_new (w.alloc (.cells #[.int .i64 k, .string s, .string s2, .int .i64 off, .int .i64 m, .slice dp dl dc] 35)) (.cells #[.int .i64 0, .slice none 0 0, .int .i64 0, .int .i64 0, .int .i64 0, .slice none 0 0, .int .i64 0] 32)
    rwa [World.size_alloc] at this
  rw [← hX]
  clear hX
  have f0 := blk_cell hX0 0
  have f1 := blk_cell hX0 1
  have f2 := blk_cell hX0 2
  have f3 := blk_cell hX0 3
  have f4 := blk_cell hX0 4
  have f5 := blk_cell hX0 5
  simp at f0 f1 f2 f3 f4 f5
  have HXB := Hid.mk hXB
  have HXS := Hid.mk hXs
  have HX1 := Hid.mk hX1
  clear hXB hXs hX0 hX1
  try go_wp2_with fail
  refine (HBO.out X).mono ?_
  rintro e' W1 ⟨ao, c, bo, dd, rfl, hSA, hSB, hc1, hc2, hd1, hd2, hB1⟩
  have hBw : Below w.heap.size w W1 := HXB.out.trans (hB1.mono (by have := HXS.out; omega))
  have HP1 := Hid.mk (HS1.out W1 ao c hBw hSA hc1 hc2)
  have HR1 : Hid (W1.heap[w.heap.size + 1]? = some (.cells #[.int .i64 0, .slice none 0 0, .int .i64 0, .int .i64 0, .int .i64 0, .slice none 0 0, .int .i64 0] 32 (0, 0))) := Hid.mk ((hB1.block _ (by have := HXS.out; omega)).trans HX1.out)
  have HSB := Hid.mk hSB
  have HBW := Hid.mk hBw
  have HD1 := Hid.mk hd1
  have HD2 := Hid.mk hd2
  have hdc : (nm : Int) ≤ (dd : Int) := by omega
  clear hSA hSB hc1 hc2 hd1 hd2 hB1 hBw HXB HXS HX1 HBO HS1 f0 f1 f2 f3 f4 f5
  go_wp2_with fail
  refine HP1.out.mono ?_
  rintro e' W2 ⟨rfl, hB2⟩
  obtain ⟨Y2, hY2⟩ : ∃ Y2, Y2 = W2.alloc (.cells #[.pointer (some ⟨locL Ls d, 0, none⟩), .string (mkS p), .pointer (some ⟨locL Ls j, 0, none⟩)] 73) := ⟨_, rfl⟩
  have hBw2 : Below W1.heap.size W1 Y2 := by rw [hY2]; exact hB2.alloc hB2.size _
  have hsp : Y2.heap[W2.heap.size]? = some (.cells #[.pointer (some ⟨locL Ls d, 0, none⟩), .string (mkS p), .pointer (some ⟨locL Ls j, 0, none⟩)] 73 (0, 0)) := by rw [hY2]; exact blk_new W2 _
  have hw2Y : Below w.heap.size w Y2 := HBW.out.trans (hBw2.mono HBW.out.size)
  have HP2 := Hid.mk (HS2.out Y2 bo dd hw2Y (HSB.out.below hBw2) HD1.out HD2.out)
  go_upto_region 9 with fail
  rw [← hY2]
  clear hY2
  generalize W2.heap.size = sb at *
  have x0 := blk_cell hsp 2
  simp at x0
  have HSP := Hid.mk hsp
  have HY := Hid.mk hBw2
  have HWY := Hid.mk hw2Y
  clear hsp hBw2 hw2Y hB2 HP1
  go_upto_region 12 with (go_at_call 49; refine HP2.out.mono ?_; rintro e' W4 ⟨rfl, hB4⟩; have HB4 := Hid.mk hB4; clear hB4)
  obtain ⟨Y4, hY4⟩ : ∃ Y4, Y4 = W4.alloc (.cells #[.pointer (some ⟨locL Ls d2, 0, none⟩), .string (mkS q), .pointer none] 73) := ⟨_, rfl⟩
  have hB4Y : Below Y2.heap.size Y2 Y4 := by rw [hY4]; exact HB4.out.alloc HB4.out.size _
  have hsq4 : Y4.heap[W4.heap.size]? = some (.cells #[.pointer (some ⟨locL Ls d2, 0, none⟩), .string (mkS q), .pointer none] 73 (0, 0)) := by rw [hY4]; exact blk_new W4 _
  rw [← hY4]
  clear hY4
  have hsp4 := (hB4Y.block sb (lt_of_block HSP.out)).trans HSP.out
  have x4 := blk_cell hsp4 2
  simp at x4
  have hwY4 : Below w.heap.size w Y4 := HWY.out.trans (hB4Y.mono HWY.out.size)
  have HWW : Hid (∀ W, Below Y4.heap.size Y4 W → _) := Hid.mk (fun W (hB : Below Y4.heap.size Y4 W) => HWI.out W bo dd (hwY4.trans (hB.mono hwY4.size)) (((HSB.out.below HY.out).below hB4Y).below hB).front2)
  have HR4 : Hid (Y4.heap[w.heap.size + 1]? = some (.cells #[.int .i64 0, .slice none 0 0, .int .i64 0, .int .i64 0, .int .i64 0, .slice none 0 0, .int .i64 0] 32 (0, 0))) := Hid.mk ((hB4Y.block _ (Nat.lt_of_lt_of_le (lt_of_block HR1.out) HY.out.size)).trans ((HY.out.block _ (lt_of_block HR1.out)).trans HR1.out))
  have HW4 := Hid.mk hwY4
  unfold ptrV at HWW
  generalize hW4s : W4.heap.size = sb4 at *
  have HSP4 := Hid.mk hsp4
  have HSQ4 := Hid.mk hsq4
  have HMV4 : Hid (w.heap.size + 1 < Y4.heap.size) := Hid.mk (lt_of_block HR4.out)
  clear hB4Y hsp4 hsq4 hwY4 HWI HSB HY HP2 HS2 hW4s
  go_upto_region 14 with fail
  have k4 := cell_regrown x4
  have cW : ∀ dd' os, Calls Tryz.prog 50 #[.pointer (some ⟨t, 0, none⟩), .slice bo nm dd, .pointer (some ⟨locL Ls j, 0, none⟩)] (grow (redrawn Y4 dd') os) fun e w'' => e = .returned (.bool false) ∧ ∃ p : Regrown, w'' = grow (redrawn Y4 p.d) p.os := fun dd' os => Calls.regrown_of (HWW.out _ (below_regrown _ _ _))
  refine wp_region_quiet_below mixed (by kernel_rfl) ?_
  repeat (go_big_quiet_step (first | (go_at_call 50; exact cW _ _)))
  refine wpQuiet_nil ?_
  intro W5 hw'
  obtain ⟨⟨dq, osq⟩, hw''⟩ := hw'
  have hB5 := below_regrown Y4 dq osq
  rw [← hw''] at hB5
  have HB1 : Hid (W5.heap[w.heap.size + 1]? = some (.cells #[.int .i64 0, .slice none 0 0, .int .i64 0, .int .i64 0, .int .i64 0, .slice none 0 0, .int .i64 0] 32 (0, 0))) := Hid.mk ((hB5.block _ (lt_of_block HR4.out)).trans HR4.out)
  have HBB : Hid (Below w.heap.size w W5) := Hid.mk (HW4.out.trans (hB5.mono HW4.out.size))
  have hq0 := (hB5.block sb (lt_of_block HSP4.out)).trans HSP4.out
  have hq1 := (hB5.block sb4 (lt_of_block HSQ4.out)).trans HSQ4.out
  have u0 := blk_cell hq0 0
  have u1 := blk_cell hq0 1
  have u2 := blk_cell hq0 2
  have v0 := blk_cell hq1 0
  have v1 := blk_cell hq1 1
  have v2 := blk_cell hq1 2
  simp at u0 u1 u2 v0 v1 v2
  have HSZ : Hid (w.heap.size + 1 < W5.heap.size) := Hid.mk (lt_of_block HB1.out)
  have HM5 := Hid.mk (HMT.out W5 HBB.out)
  unfold ptrV strV at HM5
  clear hw'' hB5 cW k4 x4 HWW HR4 HW4 HSP4 HSQ4 HMT hq0 hq1
  go_wp2_with (first
    | (go_at_call 52; refine HM5.out.mono ?_; rintro e' W6 ⟨rfl, hst⟩; have ST := Hid.mk hst; clear hst)
    | (go_at_call 23; refine (failed_any _ _).mono ?_; rintro e' W3 ⟨rfl, hb3⟩; have hbx := (hb3.block _ (Nat.lt_of_lt_of_le HSZ.out ST.out.only.size)).trans ((ST.out.only.block _ HSZ.out (fun h => by have := HTL.out _ h; omega)).trans HB1.out); have z0 := blk_cell hbx 0; have y0 := blk_free hbx 0; have z1 := blk_cell hbx 1; have y1 := blk_free hbx 1; have z2 := blk_cell hbx 2; have y2 := blk_free hbx 2; have z3 := blk_cell hbx 3; have y3 := blk_free hbx 3; have z4 := blk_cell hbx 4; have y4 := blk_free hbx 4; have z5 := blk_cell hbx 5; have y5 := blk_free hbx 5; have z6 := blk_cell hbx 6; have y6 := blk_free hbx 6; simp at z0 z1 z2 z3 z4 z5 z6;  have BXX := Hid.mk hbx; have HB3 := Hid.mk hb3; unfold errV; clear hbx hb3))
  have hb7 := (box7 BXX.out (.int .i64 0) (.slice none 0 0) (.int .i64 0) (.int .i64 0) (.int .i64 0) (.slice none 0 0) (.int .i64 0)).1
  have ho7 := (box7 BXX.out (.int .i64 0) (.slice none 0 0) (.int .i64 0) (.int .i64 0) (.int .i64 0) (.slice none 0 0) (.int .i64 0)).2
  obtain ⟨Y, hY⟩ : ∃ Y, Y = (((((((W3.setCell ⟨w.heap.size + 1, 0, none⟩ (.int .i64 0)).setCell ⟨w.heap.size + 1, 1, none⟩ (.slice none 0 0)).setCell ⟨w.heap.size + 1, 2, none⟩ (.int .i64 0)).setCell ⟨w.heap.size + 1, 3, none⟩ (.int .i64 0)).setCell ⟨w.heap.size + 1, 4, none⟩ (.int .i64 0)).setCell ⟨w.heap.size + 1, 5, none⟩ (.slice none 0 0)).setCell ⟨w.heap.size + 1, 6, none⟩ (.int .i64 0)) := ⟨_, rfl⟩
  rw [← hY] at hb7 ho7 ⊢
  have k0 := blk_cell hb7 0
  have k1 := blk_cell hb7 1
  have k2 := blk_cell hb7 2
  have k3 := blk_cell hb7 3
  have k4 := blk_cell hb7 4
  have k5 := blk_cell hb7 5
  have k6 := blk_cell hb7 6
  simp at k0 k1 k2 k3 k4 k5 k6
  have hnot : w.heap.size + 1 ∉ feet t Ls := fun h => by have := HTL.out _ h; omega
  have hst := ST.out.out HBB.out (fun k hk => .inl hk) ((Only.of_new (fun k => k = w.heap.size + 1) HB3.out).trans ho7 (fun i hi => .inl hi) |>.mono (fun i _ hi => by subst hi; exact ⟨by omega, HSZ.out, hnot⟩))
  refine bodyPost_ret (v := errV 0) ?_ rfl ⟨rfl, hst⟩
  simp [results, Tryz.results30, go_sem, errV, k0, k1, k2, k3, k4, k5, k6]
theorem doo_move (w : World) (t : Nat) (σ : Tr) (Ls : List Lay) (hT : TrAt w t σ Ls) (hOk : ∀ x ∈ σ.nodes, x.Ok) (s s2 : ByteArray) (off m : Int) (dp : Option Addr) (dl dc : Nat) (hs : s.size ≤ 16777216) (hs2 : s2.size ≤ 16777216) (L M : List (List UInt8)) (p q : List UInt8) (h1 : splitL (ofS s) = some (L ++ [p])) (h2 : splitL (ofS s2) = some (M ++ [q])) (d j d2 : Nat) (he : spotE σ.nodes L p = (0, some ⟨d, p, some j⟩)) (he2 : spotE σ.nodes M q = (0, some ⟨d2, q, none⟩)) (hj : j < σ.nodes.length) (hw : onWay σ.nodes M j = false) (hjk : (nodeAt σ.nodes j).isDir = true) (hne : d ≠ d2) (hl : (nodeAt σ.nodes d2).links < 32000) (hfit : fitsB σ.G σ.I σ.D σ.inodes σ.blocks 0 (nodeAt σ.nodes d2).growth = true) :
    Calls Tryz.prog 12 #[ptrV t, callV 6 s s2 off m (.slice dp dl dc)] w fun e w' => e = .returned (errV 0) ∧ Step (fun k => k ∈ feet t Ls) w t w' (moveT σ d p j d2 q) := by
  refine (do_rename w t (moveT σ d p j d2 q) Ls s s2 off m dp dl dc 0 0 0 0 0 (fun x y _ => x = .slice none 0 0 ∧ y = .slice none 0 0) (fun k hk => hT.lt k hk) (fun _ _ _ _ h _ => h) (Hid.mk (fun W hB _ => (rename_move W t σ Ls (hT.below rfl hB) hOk 6 s s2 off m dp dl dc hs hs2 L M p q h1 h2 d j d2 he he2 hj hw hjk hne hl hfit).mono (fun e w' hh => ⟨none, 0, 0, none, 0, 0, hh.1, hh.2, rfl, rfl⟩)))).mono ?_
  rintro e w' ⟨a1, n1, c1, a5, n5, c5, rfl, hst, h1, h2⟩
  cases h1; cases h2
  exact ⟨rfl, hst⟩
end Go.Proofs.YtehaoeclnmelhabGreat
namespace Go.Proofs.YtehaoeclnmelhabGreat
open Go Go.Proofs Go.RowKit Go.Shelf Go.Sort

/-- The slots of the directory that is moved. -/
def mvD (us : List (List UInt8)) : List Slt := (us.zipIdx 4).map (fun x => some (x.2, x.1)) ++ List.replicate (30 - us.length) none
/-- Before the move. -/
def mvA (us : List (List UInt8)) : Tr := ⟨1, 1, 60, (us.length : Int) + 4, 4, .dir 4 1024 (some (1, [97]) :: some (2, [98]) :: List.replicate 28 none) :: .dir 3 1024 (some (3, [100]) :: List.replicate 29 none) :: .dir 2 1024 (List.replicate 30 none) :: .dir 2 1024 (mvD us) :: List.replicate us.length newF⟩
/-- Behind it. -/
def mvB (us : List (List UInt8)) : Tr := ⟨1, 1, 60, (us.length : Int) + 4, 4, .dir 4 1024 (some (1, [97]) :: some (2, [98]) :: List.replicate 28 none) :: .dir 2 1024 (List.replicate 30 none) :: .dir 3 1024 (some (3, [101]) :: List.replicate 29 none) :: .dir 2 1024 (mvD us) :: List.replicate us.length newF⟩
/-- The two trees on the way to the first. -/
def mv1 : Tr := (enterS (newT 1 1 60) [47, 97] newD).2
def mv2 : Tr := (enterS mv1 [47, 98] newD).2
theorem mv1_err : (enterS (newT 1 1 60) [47, 97] newD).1 = 0 := by decide +kernel
theorem mv2_err : (enterS mv1 [47, 98] newD).1 = 0 := by decide +kernel
theorem mv3_err : (enterS mv2 [47, 97, 47, 100] newD).1 = 0 := by decide +kernel
theorem mv3_is : (enterS mv2 [47, 97, 47, 100] newD).2 = mvA [] := by kernel_rfl
theorem mv1_nodes : mv1.nodes = [.dir 3 1024 (some (1, [97]) :: List.replicate 29 none), newD] := by kernel_rfl
theorem mv2_nodes : mv2.nodes = [.dir 4 1024 (some (1, [97]) :: some (2, [98]) :: List.replicate 28 none), newD, newD] := by kernel_rfl
theorem mv1_ok : ∀ x ∈ mv1.nodes, x.Ok := by
  rw [mv1_nodes]
  intro x hx
  simp only [List.mem_cons, List.not_mem_nil, or_false] at hx
  rcases hx with rfl | rfl
  · exact ⟨by omega, by omega, by simp⟩
  · exact dir_ok
theorem mv2_ok : ∀ x ∈ mv2.nodes, x.Ok := by
  rw [mv2_nodes]
  intro x hx
  simp only [List.mem_cons, List.not_mem_nil, or_false] at hx
  rcases hx with rfl | rfl | rfl
  · exact ⟨by omega, by omega, by simp⟩
  · exact dir_ok
  · exact dir_ok
theorem mvD_len {us : List (List UInt8)} (h : us.length ≤ 30) : (mvD us).length = 30 := by
  simp [mvD]
  omega
theorem mvA_ok {us : List (List UInt8)} (h : us.length ≤ 8) : ∀ x ∈ (mvA us).nodes, x.Ok := by
  intro x hx
  simp only [mvA, List.mem_cons, List.mem_replicate] at hx
  rcases hx with rfl | rfl | rfl | rfl | ⟨_, rfl⟩
  · exact ⟨by omega, by omega, by simp⟩
  · exact ⟨by omega, by omega, by simp⟩
  · exact ⟨by omega, by omega, by simp⟩
  · exact ⟨by omega, by omega, by rw [mvD_len (by omega)]; omega⟩
  · exact file_ok
theorem mvB_ok {us : List (List UInt8)} (h : us.length ≤ 8) : ∀ x ∈ (mvB us).nodes, x.Ok := by
  intro x hx
  simp only [mvB, List.mem_cons, List.mem_replicate] at hx
  rcases hx with rfl | rfl | rfl | rfl | ⟨_, rfl⟩
  · exact ⟨by omega, by omega, by simp⟩
  · exact ⟨by omega, by omega, by simp⟩
  · exact ⟨by omega, by omega, by simp⟩
  · exact ⟨by omega, by omega, by rw [mvD_len (by omega)]; omega⟩
  · exact file_ok
theorem mv_at {us : List (List UInt8)} {i : Nat} (h : i < us.length) : (mvD us)[i]? = some (some (4 + i, us[i])) := by
  unfold mvD
  rw [List.getElem?_append_left (by simpa using h)]
  simp [h]
theorem mv_behind {us : List (List UInt8)} {i : Nat} {o : Slt} (h : us.length ≤ i) (ho : (mvD us)[i]? = some o) : o = none := by
  unfold mvD at ho
  rw [List.getElem?_append_right (by simpa using h)] at ho
  exact List.eq_of_mem_replicate (List.mem_of_getElem? ho)
theorem mv_look_no {us : List (List UInt8)} {p : List UInt8} (h : p ∉ us) : lookS (mvD us) p = none := by
  have : ∀ o ∈ mvD us, hasB p o = false := by
    intro o ho
    obtain ⟨i, hi⟩ := List.mem_iff_getElem?.1 ho
    by_cases hl : i < us.length
    · rw [mv_at hl] at hi
      cases hi
      simp only [hasB, decide_eq_false_iff_not]
      intro e
      exact h (e ▸ List.getElem_mem hl)
    · rw [mv_behind (by omega) hi]; rfl
  unfold lookS nameAt
  rw [List.findIdx_eq_length_of_false (by simpa using this)]
  simp [List.getD]
theorem mv_look {us : List (List UInt8)} {p : List UInt8} (h : p ∈ us) : ∃ j, lookS (mvD us) p = some j := by
  obtain ⟨i, hi, rfl⟩ := List.mem_iff_getElem.1 h
  have hlt : nameAt (mvD us) us[i] < (mvD us).length := by
    unfold nameAt
    rw [List.findIdx_lt_length]
    exact ⟨_, List.mem_of_getElem? (mv_at hi), by simp [hasB]⟩
  have hyes : hasB us[i] ((mvD us)[nameAt (mvD us) us[i]]) = true := List.findIdx_getElem (w := hlt)
  unfold lookS
  rw [List.getD, List.getElem?_eq_getElem hlt]
  cases hq : (mvD us)[nameAt (mvD us) us[i]] with
  | none => rw [hq] at hyes; cases hyes
  | some q => exact ⟨q.1, rfl⟩
theorem mv_free {us : List (List UInt8)} (h : us.length < 30) : freeAt (mvD us) = us.length := by
  have hl := mvD_len (Nat.le_of_lt h)
  unfold freeAt
  rw [List.findIdx_eq (by omega)]
  refine ⟨?_, fun j hj => ?_⟩
  · have : (mvD us)[us.length]? = some (mvD us)[us.length] := List.getElem?_eq_getElem (by omega)
    rw [mv_behind (Nat.le_refl _) this]
    rfl
  · have : (mvD us)[j]? = some (mvD us)[j] := List.getElem?_eq_getElem (by omega)
    rw [mv_at hj] at this
    rw [← Option.some.inj this]
    rfl
theorem mv_set {us : List (List UInt8)} (h : us.length < 30) (p : List UInt8) : (mvD us).set us.length (some (4 + us.length, p)) = mvD (us ++ [p]) := by
  have e : ∀ n, 30 - us.length = n + 1 → List.replicate (30 - us.length) (none : Slt) = none :: List.replicate (30 - (us.length + 1)) none := fun n hn => by
    rw [hn, show 30 - (us.length + 1) = n by omega, List.replicate_succ]
  unfold mvD
  rw [e (29 - us.length) (by omega), List.set_append_right _ _ (by simp)]
  simp [List.zipIdx_append, Nat.add_comm]
theorem mv_list (us : List (List UInt8)) : (listL (mvD us)).length = us.length := by
  have h1 : ∀ (L : List (List UInt8 × Nat)), List.filterMap (fun o : Slt => o.map (·.2)) (L.map (fun x => some (x.2, x.1))) = L.map (·.1) := fun L => by
    induction L with
    | nil => rfl
    | cons a L ih => simp [ih]
  have h2 : ∀ n, List.filterMap (fun o : Slt => o.map (·.2)) (List.replicate n none) = [] := fun n => by
    induction n with
    | zero => rfl
    | succ n ih => rw [List.replicate_succ, List.filterMap_cons]; exact ih
  unfold listL mvD
  rw [List.filterMap_append, h1, h2]
  simp
theorem mv_inodes : inoI 1 1 60 = 16 := by kernel_rfl
theorem mv_blocks : blkI 1 1 60 = 60 := by kernel_rfl
theorem mv_room0 : roomL newF.nos = 0 := by kernel_rfl
theorem mv_spotA (us : List (List UInt8)) (p : List UInt8) : spotE (mvA us).nodes [[97], [100]] p = (0, some ⟨3, p, lookS (mvD us) p⟩) := rfl
theorem mv_growA {us : List (List UInt8)} (h : us.length < 30) : (nodeAt (mvA us).nodes 3).growth = 0 := by
  have hl := mvD_len (Nat.le_of_lt h)
  have hf := mv_free h
  show (Nd.dir 2 1024 (mvD us)).growth = 0
  unfold Nd.growth Nd.slots
  simp only
  rw [if_pos (by omega)]
theorem mv_enter_old {us : List (List UInt8)} {s p : List UInt8} (hs : splitL s = some [[97], [100], p]) (hp : p ∈ us) : enterS (mvA us) s newF = (11, mvA us) := by
  obtain ⟨j, hj⟩ := mv_look hp
  unfold enterS
  rw [hs]
  simp only [List.dropLast, List.getLastD, mv_spotA]
  simp [List.getLast, hj]
theorem mv_enter_new {us : List (List UInt8)} {s p : List UInt8} (hs : splitL s = some [[97], [100], p]) (hp : p ∉ us) (hn : us.length < 8) : enterS (mvA us) s newF = (0, mvA (us ++ [p])) := by
  have hl := mvD_len (us := us) (by omega)
  have hf := mv_free (us := us) (by omega)
  have hgr := mv_growA (us := us) (by omega)
  have hB : enterB (mvA us) 3 newF = 0 := by unfold enterB; rw [hgr, mv_room0]; unfold w64 wrap64; omega
  have hE : enterE (mvA us) 3 newF = 0 := by
    unfold enterE
    rw [if_neg (by simp [newF, Nd.isDir]), hB]
    have : fitsB (mvA us).G (mvA us).I (mvA us).D (mvA us).inodes (mvA us).blocks 1 0 = true := by
      unfold fitsB
      simp only [mvA, mv_inodes, mv_blocks, w64, Bool.and_eq_true, decide_eq_true_eq]
      unfold wrap64
      omega
    rw [if_pos this]
  have hT : enterT (mvA us) 3 p newF = mvA (us ++ [p]) := by
    unfold enterT
    rw [hB]
    have e1 : w64 ((mvA us).inodes + 1) = (us.length : Int) + 5 := by simp only [mvA, w64]; unfold wrap64; omega
    have e2 : w64 ((mvA us).blocks + 0) = 4 := by simp only [mvA, w64]; unfold wrap64; omega
    rw [e1, e2]
    have e3 : (mvA us).nodes.length = 4 + us.length := by simp [mvA]; omega
    rw [e3]
    have e4 : List.replicate us.length newF ++ [newF] = List.replicate (us.length + 1) newF := by rw [List.replicate_succ']
    have en : ((mvA us).nodes ++ [newF]).modify 3 (fun x => if newF.isDir = true then (x.add p (4 + us.length)).more 1 else x.add p (4 + us.length)) = (mvA (us ++ [p])).nodes := by
      simp only [mvA, List.cons_append, e4, List.modify_succ_cons, List.modify_zero_cons, List.length_append, List.length_singleton]
      congr 4
      simp only [newF, Nd.isDir, Nd.add, Bool.false_eq_true, if_false]
      rw [hf, if_pos (by omega), mv_set (by omega)]
    have ei : (us.length : Int) + 5 = ((us ++ [p]).length : Int) + 4 := by rw [List.length_append]; simp; omega
    rw [en, ei]
    rfl
  unfold enterS
  rw [hs]
  simp [mv_spotA, mv_look_no hp, hE, hT]
/-- The move: there. -/
theorem mv_spot1 (us : List (List UInt8)) : spotE (mvA us).nodes [[97]] [100] = (0, some ⟨1, [100], some 3⟩) := rfl
theorem mv_spot2 (us : List (List UInt8)) : spotE (mvA us).nodes [[98]] [101] = (0, some ⟨2, [101], none⟩) := rfl
theorem mv_spot3 (us : List (List UInt8)) : spotE (mvB us).nodes [[98]] [101] = (0, some ⟨2, [101], some 3⟩) := rfl
theorem mv_spot4 (us : List (List UInt8)) : spotE (mvB us).nodes [[97]] [100] = (0, some ⟨1, [100], none⟩) := rfl
theorem mv_way1 (us : List (List UInt8)) : onWay (mvA us).nodes [[98]] 3 = false := rfl
theorem mv_way2 (us : List (List UInt8)) : onWay (mvB us).nodes [[97]] 3 = false := rfl
theorem mv_statB1 (us : List (List UInt8)) : statV (mvB us).nodes [47, 97] = .agg #[.int .i64 0, .slice none 0 0, .int .i64 2, .int .i64 1024, .int .i64 2, .slice none 0 0, .int .i64 0] := rfl
theorem mv_statB2 (us : List (List UInt8)) : statV (mvB us).nodes [47, 98] = .agg #[.int .i64 0, .slice none 0 0, .int .i64 2, .int .i64 1024, .int .i64 3, .slice none 0 0, .int .i64 0] := rfl
theorem mv_statB3 (us : List (List UInt8)) : statV (mvB us).nodes [47, 97, 47, 100] = errV 10 := rfl
theorem mv_nodeB (us : List (List UInt8)) : nodeE (mvB us).nodes [47, 98, 47, 101] = (some 3, 0) := rfl
theorem mv_sp1 : splitL [47, 97, 47, 100] = some ([[97]] ++ [[100]]) := by decide
theorem mv_sp2 : splitL [47, 98, 47, 101] = some ([[98]] ++ [[101]]) := by decide
/-- There is room for it, and what a move makes of the lists. -/
theorem mv_growB (us : List (List UInt8)) : (nodeAt (mvA us).nodes 2).growth = 0 ∧ (nodeAt (mvB us).nodes 1).growth = 0 := by
  constructor <;> (show (Nd.dir 2 1024 (List.replicate 30 none)).growth = 0; kernel_rfl)
theorem mv_fitA {us : List (List UInt8)} (h : us.length ≤ 8) : fitsB (mvA us).G (mvA us).I (mvA us).D (mvA us).inodes (mvA us).blocks 0 (nodeAt (mvA us).nodes 2).growth = true := by
  rw [(mv_growB us).1]
  unfold fitsB
  simp only [mvA, mv_inodes, mv_blocks, w64, Bool.and_eq_true, decide_eq_true_eq]
  unfold wrap64
  omega
theorem mv_fitB {us : List (List UInt8)} (h : us.length ≤ 8) : fitsB (mvB us).G (mvB us).I (mvB us).D (mvB us).inodes (mvB us).blocks 0 (nodeAt (mvB us).nodes 1).growth = true := by
  rw [(mv_growB us).2]
  unfold fitsB
  simp only [mvB, mv_inodes, mv_blocks, w64, Bool.and_eq_true, decide_eq_true_eq]
  unfold wrap64
  omega
theorem mv_there0 (n : Int) (D : List Slt) (fs : List Nd) : leaveT ⟨1, 1, 60, n, w64 (4 + 0), (Nd.dir 4 1024 (some (1, [97]) :: some (2, [98]) :: List.replicate 28 none) :: .dir 3 1024 (some (3, [100]) :: List.replicate 29 none) :: .dir 2 1024 (List.replicate 30 none) :: .dir 2 1024 D :: fs).modify 2 (fun x => x.add [101] 3)⟩ 1 [100] 3 2 = ⟨1, 1, 60, n, 4, .dir 4 1024 (some (1, [97]) :: some (2, [98]) :: List.replicate 28 none) :: .dir 2 1024 (List.replicate 30 none) :: .dir 3 1024 (some (3, [101]) :: List.replicate 29 none) :: .dir 2 1024 D :: fs⟩ := by kernel_rfl
theorem mv_back0 (n : Int) (D : List Slt) (fs : List Nd) : leaveT ⟨1, 1, 60, n, w64 (4 + 0), (Nd.dir 4 1024 (some (1, [97]) :: some (2, [98]) :: List.replicate 28 none) :: .dir 2 1024 (List.replicate 30 none) :: .dir 3 1024 (some (3, [101]) :: List.replicate 29 none) :: .dir 2 1024 D :: fs).modify 1 (fun x => x.add [100] 3)⟩ 2 [101] 3 1 = ⟨1, 1, 60, n, 4, .dir 4 1024 (some (1, [97]) :: some (2, [98]) :: List.replicate 28 none) :: .dir 3 1024 (some (3, [100]) :: List.replicate 29 none) :: .dir 2 1024 (List.replicate 30 none) :: .dir 2 1024 D :: fs⟩ := by kernel_rfl
theorem mv_there {us : List (List UInt8)} (h : us.length ≤ 8) : moveT (mvA us) 1 [100] 3 2 [101] = mvB us := by
  have e : w64 ((us.length : Int) + 4 + 0) = (us.length : Int) + 4 := by unfold w64 wrap64; omega
  unfold moveT
  rw [(mv_growB us).1]
  simp only [mvA, e]
  exact mv_there0 _ _ _
theorem mv_back {us : List (List UInt8)} (h : us.length ≤ 8) : moveT (mvB us) 2 [101] 3 1 [100] = mvA us := by
  have e : w64 ((us.length : Int) + 4 + 0) = (us.length : Int) + 4 := by unfold w64 wrap64; omega
  unfold moveT
  rw [(mv_growB us).2]
  simp only [mvB, e]
  exact mv_back0 _ _ _
theorem mv1_is : enterS (newT 1 1 60) (ofS ⟨#[47, 97]⟩) newD = (0, mv1) := Prod.ext mv1_err rfl
theorem mv2_is : enterS mv1 (ofS ⟨#[47, 98]⟩) newD = (0, mv2) := Prod.ext mv2_err rfl
theorem mv3_all : enterS mv2 (ofS ⟨#[47, 97, 47, 100]⟩) newD = (0, mvA []) := Prod.ext mv3_err mv3_is
end Go.Proofs.YtehaoeclnmelhabGreat
namespace Go.Proofs.YtehaoeclnmelhabGreat
open Go Go.Proofs Go.RowKit Go.Shelf Go.Sort

/-- A result by its seven cells. -/
def rsO (v0 v1 v2 v3 v4 v5 v6 : Value) : Obj := .cells #[v0, v1, v2, v3, v4, v5, v6] 32
def rsZ : Obj := rsO (.int .i64 0) (.slice none 0 0) (.int .i64 0) (.int .i64 0) (.int .i64 0) (.slice none 0 0) (.int .i64 0)
set_option maxRecDepth 100000 in
theorem exec_allocR {ev : Operand → Value} {oi : Oper} {W : World} (ho : oi.op = .alloc 32) : (execOp ev oi).run Tryz.prog W = .ok (.value (.pointer (some ⟨W.heap.size, 0, none⟩))) (W.alloc rsZ) := by
  unfold execOp rsZ rsO
  simp only [ho]
  go_simp
set_option maxRecDepth 100000 in
/-- A result into a variable. -/
theorem exec_storeR {W : World} {b : Nat} (hb : W.heap[b]? = some rsZ) (e0 : Int) : ∃ W', (∀ (ev : Operand → Value) (oi : Oper) (p x : Operand), oi.op = .store 32 p x → ev p = .pointer (some ⟨b, 0, none⟩) → ev x = .agg #[.int .i64 e0, .slice none 0 0, .int .i64 0, .int .i64 0, .int .i64 0, .slice none 0 0, .int .i64 0] → (execOp ev oi).run Tryz.prog W = .ok .skip W') ∧ W'.heap[b]? = some (rsO (.int .i64 e0) (.slice none 0 0) (.int .i64 0) (.int .i64 0) (.int .i64 0) (.slice none 0 0) (.int .i64 0)) ∧ Only (fun k => k = b) W W' := by
  unfold rsZ rsO at hb
  have b1 := blk_set (i := 0) (u := (.int .i64 e0)) hb
  have b2 := blk_set (i := 1) (u := (.slice none 0 0)) b1
  have b3 := blk_set (i := 2) (u := (.int .i64 0)) b2
  have b4 := blk_set (i := 3) (u := (.int .i64 0)) b3
  have b5 := blk_set (i := 4) (u := (.int .i64 0)) b4
  have b6 := blk_set (i := 5) (u := (.slice none 0 0)) b5
  have b7 := blk_set (i := 6) (u := (.int .i64 0)) b6
  have c0 : W.cell? ⟨b, 0, none⟩ = some (.int .i64 0) := by rw [blk_cell hb]; rfl
  have f0 : W.frozen? ⟨b, 0, none⟩ = false := blk_free hb 0
  have c1 : (W.setCell ⟨b, 0, none⟩ (.int .i64 e0)).cell? ⟨b, 1, none⟩ = some (.slice none 0 0) := by rw [blk_cell b1]; rfl
  have f1 : (W.setCell ⟨b, 0, none⟩ (.int .i64 e0)).frozen? ⟨b, 1, none⟩ = false := blk_free b1 1
  have c2 : ((W.setCell ⟨b, 0, none⟩ (.int .i64 e0)).setCell ⟨b, 1, none⟩ (.slice none 0 0)).cell? ⟨b, 2, none⟩ = some (.int .i64 0) := by rw [blk_cell b2]; rfl
  have f2 : ((W.setCell ⟨b, 0, none⟩ (.int .i64 e0)).setCell ⟨b, 1, none⟩ (.slice none 0 0)).frozen? ⟨b, 2, none⟩ = false := blk_free b2 2
  have c3 : (((W.setCell ⟨b, 0, none⟩ (.int .i64 e0)).setCell ⟨b, 1, none⟩ (.slice none 0 0)).setCell ⟨b, 2, none⟩ (.int .i64 0)).cell? ⟨b, 3, none⟩ = some (.int .i64 0) := by rw [blk_cell b3]; rfl
  have f3 : (((W.setCell ⟨b, 0, none⟩ (.int .i64 e0)).setCell ⟨b, 1, none⟩ (.slice none 0 0)).setCell ⟨b, 2, none⟩ (.int .i64 0)).frozen? ⟨b, 3, none⟩ = false := blk_free b3 3
  have c4 : ((((W.setCell ⟨b, 0, none⟩ (.int .i64 e0)).setCell ⟨b, 1, none⟩ (.slice none 0 0)).setCell ⟨b, 2, none⟩ (.int .i64 0)).setCell ⟨b, 3, none⟩ (.int .i64 0)).cell? ⟨b, 4, none⟩ = some (.int .i64 0) := by rw [blk_cell b4]; rfl
  have f4 : ((((W.setCell ⟨b, 0, none⟩ (.int .i64 e0)).setCell ⟨b, 1, none⟩ (.slice none 0 0)).setCell ⟨b, 2, none⟩ (.int .i64 0)).setCell ⟨b, 3, none⟩ (.int .i64 0)).frozen? ⟨b, 4, none⟩ = false := blk_free b4 4
  have c5 : (((((W.setCell ⟨b, 0, none⟩ (.int .i64 e0)).setCell ⟨b, 1, none⟩ (.slice none 0 0)).setCell ⟨b, 2, none⟩ (.int .i64 0)).setCell ⟨b, 3, none⟩ (.int .i64 0)).setCell ⟨b, 4, none⟩ (.int .i64 0)).cell? ⟨b, 5, none⟩ = some (.slice none 0 0) := by rw [blk_cell b5]; rfl
  have f5 : (((((W.setCell ⟨b, 0, none⟩ (.int .i64 e0)).setCell ⟨b, 1, none⟩ (.slice none 0 0)).setCell ⟨b, 2, none⟩ (.int .i64 0)).setCell ⟨b, 3, none⟩ (.int .i64 0)).setCell ⟨b, 4, none⟩ (.int .i64 0)).frozen? ⟨b, 5, none⟩ = false := blk_free b5 5
  have c6 : ((((((W.setCell ⟨b, 0, none⟩ (.int .i64 e0)).setCell ⟨b, 1, none⟩ (.slice none 0 0)).setCell ⟨b, 2, none⟩ (.int .i64 0)).setCell ⟨b, 3, none⟩ (.int .i64 0)).setCell ⟨b, 4, none⟩ (.int .i64 0)).setCell ⟨b, 5, none⟩ (.slice none 0 0)).cell? ⟨b, 6, none⟩ = some (.int .i64 0) := by rw [blk_cell b6]; rfl
  have f6 : ((((((W.setCell ⟨b, 0, none⟩ (.int .i64 e0)).setCell ⟨b, 1, none⟩ (.slice none 0 0)).setCell ⟨b, 2, none⟩ (.int .i64 0)).setCell ⟨b, 3, none⟩ (.int .i64 0)).setCell ⟨b, 4, none⟩ (.int .i64 0)).setCell ⟨b, 5, none⟩ (.slice none 0 0)).frozen? ⟨b, 6, none⟩ = false := blk_free b6 6
  refine ⟨(((((((W.setCell ⟨b, 0, none⟩ (.int .i64 e0)).setCell ⟨b, 1, none⟩ (.slice none 0 0)).setCell ⟨b, 2, none⟩ (.int .i64 0)).setCell ⟨b, 3, none⟩ (.int .i64 0)).setCell ⟨b, 4, none⟩ (.int .i64 0)).setCell ⟨b, 5, none⟩ (.slice none 0 0)).setCell ⟨b, 6, none⟩ (.int .i64 0)), fun ev oi p x ho hp hx => ?_, ?_, ?_⟩
  · unfold execOp
    simp only [ho, hp, hx]
    go_simp
  · rw [b7]
    rfl
  · exact ((((((((Only.refl (fun k => k = b) W).setCell (p := ⟨b, 0, none⟩) (.inl rfl) _).setCell (p := ⟨b, 1, none⟩) (.inl rfl) _).setCell (p := ⟨b, 2, none⟩) (.inl rfl) _).setCell (p := ⟨b, 3, none⟩) (.inl rfl) _).setCell (p := ⟨b, 4, none⟩) (.inl rfl) _).setCell (p := ⟨b, 5, none⟩) (.inl rfl) _).setCell (p := ⟨b, 6, none⟩) (.inl rfl) _)
theorem OwnT.only {w W W' : World} {t b : Nat} {σ : Tr} {B : Nat → Prop} (h : OwnT w W t σ B) (hb : B b) (hw : w.heap.size ≤ b) (ho : Only (fun k => k = b) W W') : OwnT w W' t σ B := by
  obtain ⟨h1, Ls, h2, h3⟩ := h
  refine ⟨((Only.of_below (S := fun _ => False) h1 (fun k h1 h2 => by omega)).trans ho (fun i hi => .inr (by omega))).below (Nat.le_refl _) (fun _ h => h.elim), Ls, ?_, h3⟩
  exact h2.kept (fun k hk => ho.block k (h2.lt k hk) (fun e => (h3 k hk).2 (e ▸ hb)))
/-- The letter, and the path that ends with it. -/
def mvLet (q : Nat) : ByteArray := ⟨#[UInt8.ofNat (97 + q)]⟩
def mvPath (q : Nat) : ByteArray := ⟨#[47, 97, 47, 100, 47, UInt8.ofNat (97 + q)]⟩
def mvP (q : Nat) : List UInt8 := [UInt8.ofNat (97 + q)]
theorem mv_path (q : Nat) : ofS (mvPath q) = [47, 97, 47, 100, 47, UInt8.ofNat (97 + q)] := rfl
theorem mv_pathsplit {q : Nat} (h : q < 8) : splitL (ofS (mvPath q)) = some [[97], [100], mvP q] := by
  rw [mv_path]
  match q, h with
  | 0, _ => decide +kernel
  | 1, _ => decide +kernel
  | 2, _ => decide +kernel
  | 3, _ => decide +kernel
  | 4, _ => decide +kernel
  | 5, _ => decide +kernel
  | 6, _ => decide +kernel
  | 7, _ => decide +kernel
theorem mv_and (x : Int) : ∃ q : Nat, q < 8 ∧ bits .and .i64 x 7 = (q : Int) := by
  have h : ((BitVec.ofInt 64 x) &&& (BitVec.ofInt 64 7)).toNat ≤ 7 := by
    rw [BitVec.toNat_and]
    exact Nat.and_le_right
  refine ⟨((BitVec.ofInt 64 x) &&& (BitVec.ofInt 64 7)).toNat, by omega, ?_⟩
  show IntKind.i64.wrap ((((BitVec.ofInt 64 x) &&& (BitVec.ofInt 64 7)).toNat : Nat) : Int) = _
  generalize ((BitVec.ofInt 64 x) &&& (BitVec.ofInt 64 7)).toNat = n at *
  rw [IntKind.wrap_i64]
  omega
theorem exec_and7 {ev : Operand → Value} {oi : Oper} {x y : Operand} {u : TypeId} {w : World} (n : Int) (q : Nat) (hq : bits .and .i64 n 7 = (q : Int)) (ho : oi.op = .binOp .and 3 x y u) (hx : ev x = .int .i64 n) (hy : ev y = .int .i64 7) : (execOp ev oi).run Tryz.prog w = .ok (.value (.int .i64 (q : Int))) w := by
  unfold execOp
  rw [ho]
  simp only [hx, hy]
  go_simp
theorem exec_inc8 {ev : Operand → Value} {oi : Oper} {x y : Operand} {u : TypeId} {w : World} (q : Nat) (hq : q < 8) (ho : oi.op = .binOp .add 3 x y u) (hx : ev x = .int .i64 q) (hy : ev y = .int .i64 1) : (execOp ev oi).run Tryz.prog w = .ok (.value (.int .i64 ((q : Int) + 1))) w := by
  unfold execOp
  rw [ho]
  simp only [hx, hy]
  go_simp
  rw [IntKind.wrap_i64]
  omega
set_option maxRecDepth 100000 in
theorem exec_let {ev : Operand → Value} {oi : Oper} {x y : Operand} {w : World} (q : Nat) (hq : q < 8) (ho : oi.op = .slice 9 (.const (.string ⟨#[97, 98, 99, 100, 101, 102, 103, 104]⟩)) (some x) (some y) none) (hv : ev (.const (.string ⟨#[97, 98, 99, 100, 101, 102, 103, 104]⟩)) = .string ⟨#[97, 98, 99, 100, 101, 102, 103, 104]⟩) (hx : ev x = .int .i64 q) (hy : ev y = .int .i64 ((q : Int) + 1)) :
    (execOp ev oi).run Tryz.prog w = .ok (.value (.string (mvLet q))) w := by
  unfold execOp
  rw [ho]
  simp only [hx, hy, hv, Option.map]
  match q, hq with
  | 0, _ => rfl
  | 1, _ => rfl
  | 2, _ => rfl
  | 3, _ => rfl
  | 4, _ => rfl
  | 5, _ => rfl
  | 6, _ => rfl
  | 7, _ => rfl
set_option maxRecDepth 100000 in
theorem exec_path {ev : Operand → Value} {oi : Oper} {x y : Operand} {u : TypeId} {w : World} (q : Nat) (hq : q < 8) (ho : oi.op = .binOp .add 9 x y u) (hx : ev x = .string ⟨#[47, 97, 47, 100, 47]⟩) (hy : ev y = .string (mvLet q)) : (execOp ev oi).run Tryz.prog w = .ok (.value (.string (mvPath q))) w := by
  unfold execOp
  rw [ho]
  simp only [hx, hy]
  match q, hq with
  | 0, _ => rfl
  | 1, _ => rfl
  | 2, _ => rfl
  | 3, _ => rfl
  | 4, _ => rfl
  | 5, _ => rfl
  | 6, _ => rfl
  | 7, _ => rfl
/-- What a name makes of the tree. -/
def mvZ (us : List (List UInt8)) (p : List UInt8) : Int := if p ∈ us then 11 else 0
def mvU (us : List (List UInt8)) (p : List UInt8) : List (List UInt8) := if p ∈ us then us else us ++ [p]
theorem mv_do (w W : World) (t : Nat) (us : List (List UInt8)) (q : Nat) (B : Nat → Prop) (hn : us.length < 8) (hq : q < 8) (hO : OwnT w W t (mvA us) B) (hB : ∀ k, B k → k < W.heap.size) : Calls Tryz.prog 12 #[ptrV t, callV 1 (mvPath q) ⟨#[]⟩ 0 0 (.slice none 0 0)] W fun e w' => e = .returned (errV (mvZ us (mvP q))) ∧ OwnT w w' t (mvA (mvU us (mvP q))) B ∧ (∀ k, B k → w'.heap[k]? = W.heap[k]?) ∧ W.heap.size ≤ w'.heap.size :=
  own_do hO hB (fun Ls hT => by
    have := doo_create W t _ Ls hT (mvA_ok (by omega)) (mvPath q) ⟨#[]⟩ 0 0 none 0 0 (by show 6 ≤ 16777216; omega)
    by_cases hp : mvP q ∈ us
    · rw [mv_enter_old (mv_pathsplit hq) hp] at this
      unfold mvZ mvU
      rw [if_pos hp, if_pos hp]
      exact this
    · rw [mv_enter_new (mv_pathsplit hq) hp hn] at this
      unfold mvZ mvU
      rw [if_neg hp, if_neg hp]
      exact this)
theorem mv_to (w W : World) (t : Nat) (us : List (List UInt8)) (B : Nat → Prop) (hn : us.length ≤ 8) (hO : OwnT w W t (mvA us) B) (hB : ∀ k, B k → k < W.heap.size) : Calls Tryz.prog 12 #[ptrV t, callV 6 ⟨#[47, 97, 47, 100]⟩ ⟨#[47, 98, 47, 101]⟩ 0 0 (.slice none 0 0)] W fun e w' => e = .returned (errV 0) ∧ OwnT w w' t (mvB us) B ∧ (∀ k, B k → w'.heap[k]? = W.heap[k]?) ∧ W.heap.size ≤ w'.heap.size :=
  own_do hO hB (fun Ls hT => by
    have := doo_move W t _ Ls hT (mvA_ok hn) ⟨#[47, 97, 47, 100]⟩ ⟨#[47, 98, 47, 101]⟩ 0 0 none 0 0 (by decide) (by decide) [[97]] [[98]] [100] [101] mv_sp1 mv_sp2 1 3 2 (mv_spot1 us) (mv_spot2 us) (by simp [mvA]) (mv_way1 us) rfl (by decide) (by show (2 : Int) < 32000; decide) (mv_fitA hn)
    rw [mv_there hn] at this
    exact this)
theorem mv_fro (w W : World) (t : Nat) (us : List (List UInt8)) (B : Nat → Prop) (hn : us.length ≤ 8) (hO : OwnT w W t (mvB us) B) (hB : ∀ k, B k → k < W.heap.size) : Calls Tryz.prog 12 #[ptrV t, callV 6 ⟨#[47, 98, 47, 101]⟩ ⟨#[47, 97, 47, 100]⟩ 0 0 (.slice none 0 0)] W fun e w' => e = .returned (errV 0) ∧ OwnT w w' t (mvA us) B ∧ (∀ k, B k → w'.heap[k]? = W.heap[k]?) ∧ W.heap.size ≤ w'.heap.size :=
  own_do hO hB (fun Ls hT => by
    have := doo_move W t _ Ls hT (mvB_ok hn) ⟨#[47, 98, 47, 101]⟩ ⟨#[47, 97, 47, 100]⟩ 0 0 none 0 0 (by decide) (by decide) [[98]] [[97]] [101] [100] mv_sp2 mv_sp1 2 3 1 (mv_spot3 us) (mv_spot4 us) (by simp [mvB]) (mv_way2 us) rfl (by decide) (by show (2 : Int) < 32000; decide) (mv_fitB hn)
    rw [mv_back hn] at this
    exact this)
theorem mv_stat (w W : World) (t : Nat) (us : List (List UInt8)) (B : Nat → Prop) (s : ByteArray) (hs : s.size ≤ 16777216) (e0 e2 e3 e4 : Int) (hv : statV (mvB us).nodes (ofS s) = .agg #[.int .i64 e0, .slice none 0 0, .int .i64 e2, .int .i64 e3, .int .i64 e4, .slice none 0 0, .int .i64 0]) (hO : OwnT w W t (mvB us) B) (hB : ∀ k, B k → k < W.heap.size) : Calls Tryz.prog 12 #[ptrV t, callV 10 s ⟨#[]⟩ 0 0 (.slice none 0 0)] W fun e w' => e = .returned (.agg #[.int .i64 e0, .slice none 0 0, .int .i64 e2, .int .i64 e3, .int .i64 e4, .slice none 0 0, .int .i64 0]) ∧ OwnT w w' t (mvB us) B ∧ (∀ k, B k → w'.heap[k]? = W.heap[k]?) ∧ W.heap.size ≤ w'.heap.size :=
  own_do hO hB (fun Ls hT => doo_stat W t _ Ls hT s ⟨#[]⟩ 0 0 none 0 0 hs e0 e2 e3 e4 hv)
theorem mv_ls (w W : World) (t : Nat) (us : List (List UInt8)) (B : Nat → Prop) (hn : us.length ≤ 8) (hO : OwnT w W t (mvB us) B) (hB : ∀ k, B k → k < W.heap.size) : Calls Tryz.prog 12 #[ptrV t, callV 11 ⟨#[47, 98, 47, 101]⟩ ⟨#[]⟩ 0 0 (.slice none 0 0)] W fun e w' => ∃ ao c, e = .returned (.agg #[.int .i64 0, .slice none 0 0, .int .i64 0, .int .i64 0, .int .i64 0, .slice ao us.length c, .int .i64 0]) ∧ OwnT w w' t (mvB us) B ∧ (∀ k, B k → w'.heap[k]? = W.heap[k]?) ∧ W.heap.size ≤ w'.heap.size := by
  obtain ⟨h1, Ls, h2, h3⟩ := hO
  refine (doo_list W t _ Ls h2 ⟨#[47, 98, 47, 101]⟩ ⟨#[]⟩ 0 0 none 0 0 (by decide) 3 (mv_nodeB us) rfl (by show (mvD us).length ≤ 16777216; rw [mvD_len (by omega)]; omega)).mono ?_
  rintro e w' ⟨ao, c, rfl, -, -, -, -, ⟨Ls', h4, h5⟩, h6⟩
  refine ⟨ao, c, ?_, ⟨?_, Ls', h4, fun k hk => ?_⟩, fun k hk => h6.block k (hB k hk) (fun hf => (h3 k hf).2 hk), h6.size⟩
  · rw [show (nodeAt (mvB us).nodes 3).slots = mvD us from rfl, mv_list]
  · exact ((Only.of_below (S := fun _ => False) h1 (fun k h1 h2 => by omega)).trans h6 (fun i hi => .inr (h3 i hi).1)).below (Nat.le_refl _) (fun _ h => h.elim)
  · rcases h5 k hk with h | h
    · exact h3 k h
    · exact ⟨Nat.le_trans h1.size h, fun hb => by have := hB k hb; omega⟩
theorem mv_first (w W : World) (t : Nat) (σ : Tr) (s : ByteArray) (σ' : Tr) (hok : ∀ x ∈ σ.nodes, x.Ok) (hs : s.size ≤ 16777216) (he : enterS σ (ofS s) newD = (0, σ')) (hO : OwnT w W t σ (fun _ => False)) : Calls Tryz.prog 12 #[ptrV t, callV 2 s ⟨#[]⟩ 0 0 (.slice none 0 0)] W fun e w' => e = .returned (errV 0) ∧ OwnT w w' t σ' (fun _ => False) ∧ (∀ k : Nat, False → w'.heap[k]? = W.heap[k]?) ∧ W.heap.size ≤ w'.heap.size :=
  own_do hO (fun k h => h.elim) (fun Ls hT => by
    have := doo_mkdir W t _ Ls hT hok s ⟨#[]⟩ 0 0 none 0 0 hs
    rw [he] at this
    exact this)
end Go.Proofs.YtehaoeclnmelhabGreat
