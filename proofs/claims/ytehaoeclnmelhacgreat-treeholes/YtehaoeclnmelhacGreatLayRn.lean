/-
  Within a tree: one more name for a node that is there, a name less, links to and fro.
-/
import Derived.Test.YtehaoeclnmelhacGreatLayRm
import Derived.Test.YtehaoeclnmelhacGreatTrDo
import Derived.Test.YtehaoeclnmelhacGreatTrLaw
import Derived.Test.YtehaoeclnmelhacGreatLayTop
import Derived.Test.YtehaoeclnmelhacGreatTrDo3
namespace Go.Proofs.YtehaoeclnmelhacGreat
open Go Go.Proofs Go.RowKit Go.Shelf Go.Sort

/-- Between two worlds a tree has become another one, whose nodes lie where they lay. -/
structure StepL (w : World) (t : Nat) (Ls : List Lay) (w' : World) (σ' : Tr) : Prop where
  ex : ∃ Ls', TrAt w' t σ' Ls' ∧ locL Ls' = locL Ls ∧ ∀ k ∈ feet t Ls', k ∈ feet t Ls ∨ w.heap.size ≤ k
  only : Only (fun k => k ∈ feet t Ls) w w'
theorem StepL.step {w w' : World} {t : Nat} {Ls : List Lay} {σ' : Tr} (h : StepL w t Ls w' σ') : Step (fun k => k ∈ feet t Ls) w t w' σ' := by
  obtain ⟨⟨Ls', h1, _, h3⟩, h4⟩ := h
  exact ⟨⟨Ls', h1, h3⟩, h4⟩
theorem add_tree (w : World) (t : Nat) (σ : Tr) (Ls : List Lay) (hT : TrAt w t σ Ls) (hOk : ∀ x ∈ σ.nodes, x.Ok) (d : Nat) (p : List UInt8) (j : Nat) (hd : d < σ.nodes.length) (hdk : (nodeAt σ.nodes d).isDir = true) (hno : lookS (nodeAt σ.nodes d).slots p = none) (hj : j < σ.nodes.length) (hp : p.length ≤ 1000) :
    Calls Tryz.prog 40 #[ptrV (locL Ls d), strV p, ptrV (locL Ls j)] w fun e w' => e = .returned (.tuple #[]) ∧ StepL w t Ls w' { σ with nodes := σ.nodes.modify d (fun x => x.add p j) } := by
  obtain ⟨b, m, r, c, l, z, s, q1, q2, q3, q4, q5⟩ := hT.dirAt hd hdk
  have hnd : [b, m, r].Nodup := foot_nodup (List.nodup_cons.1 hT.apart).2 q1
  rw [q5] at hno
  rw [q4]
  refine (add_any w (locL Ls) b m r c l z s q3 hnd (hOk _ (List.mem_of_getElem? q2)).2.2 p hp hno j).mono ?_
  rintro e w' ⟨h1, r', c', z', s', ha, hD, hO, hr⟩
  refine ⟨h1, ?_⟩
  have hnd' : [b, m, r'].Nodup := by
    rcases hr with rfl | hr
    · exact hnd
    · have e1 := hT.lt b (mem_feet q1 (by simp [Lay.foot]))
      have e2 := hT.lt m (mem_feet q1 (by simp [Lay.foot]))
      simp at hnd ⊢
      exact ⟨⟨hnd.1.1, by omega⟩, by omega⟩
  have hft : ∀ k ∈ (Lay.dir b m r' c').foot, k ∈ (Lay.dir b m r c).foot ∨ w.heap.size ≤ k := by
    intro k hk
    simp only [Lay.foot, List.mem_cons, List.not_mem_nil, or_false] at hk ⊢
    rcases hk with rfl | rfl | rfl
    · exact .inl (.inl rfl)
    · exact .inl (.inr (.inl rfl))
    · rcases hr with rfl | hr
      · exact .inl (.inr (.inr rfl))
      · exact .inr hr.1
  have hslots : ∀ q, some q ∈ s' → q.1 < σ.nodes.length := by
    intro q hq
    have hold : ∀ q, some q ∈ s → q.1 < σ.nodes.length := fun q hq => hT.refs _ (List.mem_of_getElem? q2) q hq
    have hset : ∀ (u : List Slt) (k : Nat), some q ∈ u.set k (some (j, p)) → some q ∈ u ∨ q = (j, p) := fun u k h => by
      rcases List.mem_or_eq_of_mem_set h with h | h
      · exact .inl h
      · cases h; exact .inr rfl
    simp only [Nd.add] at ha
    split at ha
    · cases ha
      rcases hset _ _ hq with h | h
      · exact hold q h
      · rw [h]; exact hj
    · cases ha
      rcases hset _ _ hq with h | h
      · rcases List.mem_append.1 h with h | h
        · exact hold q h
        · have := List.eq_of_mem_replicate h; cases this
      · rw [h]; exact hj
  have htb : ¬ (t = b ∨ t = m ∨ t = r) := fun h => (List.nodup_cons.1 hT.apart).1 (List.mem_flatMap.2 ⟨_, List.mem_of_getElem? q1, by simpa [Lay.foot] using h⟩)
  have hfin := hT.turn (L' := .dir b m r' c') (n' := .dir l z' s') q1 rfl (hO.mono (fun i _ hi => .inr (by simpa [Lay.foot] using hi))) (i' := σ.inodes) (b' := σ.blocks)
    ((hO.block t (lt_of_block hT.tree) htb).trans hT.tree) hD hft hnd' hslots (fun _ => rfl)
  refine ⟨⟨Ls.set d (.dir b m r' c'), ?_, locL_set q1 rfl, fun k hk => ?_⟩, hO.mono (fun i _ h => mem_feet q1 (by simpa [Lay.foot] using h))⟩
  · rw [modify_set q2, ha]
    exact hfin
  · rcases (feet_set (t := t) (L' := .dir b m r' c') q1 hT.apart (fun k hk => hT.lt k hk) hft hnd').2 k hk with h | h
    · exact .inl h
    · exact .inr h.1
/-- The tree behind 'leave'. -/
def leaveT (σ : Tr) (d : Nat) (p : List UInt8) (j d2 : Nat) : Tr :=
  { σ with nodes := if (nodeAt σ.nodes j).isDir = true then ((σ.nodes.modify d (fun x => x.del p)).modify d (fun x => x.more (-1))).modify d2 (fun x => x.more 1) else σ.nodes.modify d (fun x => x.del p) }
theorem del_kind {N : List Nd} (i d : Nat) (p : List UInt8) : (nodeAt (N.modify d (fun x => x.del p)) i).kind = (nodeAt N i).kind ∧ (nodeAt (N.modify d (fun x => x.del p)) i).isDir = (nodeAt N i).isDir := by
  unfold nodeAt
  rw [List.getD, List.getElem?_modify, List.getD]
  cases hn : N[i]? with
  | none => simp
  | some y =>
    simp
    split
    · cases y <;> exact ⟨rfl, rfl⟩
    · exact ⟨rfl, rfl⟩
theorem more_kind {N : List Nd} (i d : Nat) (n : Int) : (nodeAt (N.modify d (fun x => x.more n)) i).kind = (nodeAt N i).kind ∧ (nodeAt (N.modify d (fun x => x.more n)) i).isDir = (nodeAt N i).isDir := by
  unfold nodeAt
  rw [List.getD, List.getElem?_modify, List.getD]
  cases hn : N[i]? with
  | none => simp
  | some y =>
    simp
    split
    · cases y <;> exact ⟨rfl, rfl⟩
    · exact ⟨rfl, rfl⟩
/-- A directory's links turn by so many. -/
theorem TrAt.more {W : World} {t : Nat} {σ : Tr} {Ls : List Lay} (h : TrAt W t σ Ls) {d : Nat} (hd : d < σ.nodes.length) (hk : (nodeAt σ.nodes d).isDir = true) (n : Int) : W.cell? ⟨locL Ls d, 1, none⟩ = some (.int .i64 (nodeAt σ.nodes d).links) ∧ W.frozen? ⟨locL Ls d, 1, none⟩ = false ∧ TrAt (W.setCell ⟨locL Ls d, 1, none⟩ (.int .i64 (w64 ((nodeAt σ.nodes d).links + n)))) t { σ with nodes := σ.nodes.modify d (fun x => x.more n) } Ls := by
  obtain ⟨b, m, r, c, l, z, s, q1, q2, q3, q4, q5⟩ := h.dirAt hd hk
  refine ⟨(h.kindAt hd).2.1, by rw [q4]; exact blk_free q3.node 1, ?_⟩
  rw [q4, q5, modify_set q2]
  exact h.links (l' := w64 (l + n)) q1 q2
theorem add_kind {N : List Nd} (i d : Nat) (p : List UInt8) (j : Nat) : (nodeAt (N.modify d (fun x => x.add p j)) i).isDir = (nodeAt N i).isDir := by
  unfold nodeAt
  rw [List.getD, List.getElem?_modify, List.getD]
  cases hn : N[i]? with
  | none => simp
  | some y =>
    simp
    split
    · cases y
      · rfl
      · simp only [Nd.add]; split <;> rfl
    · rfl
theorem node_other {N : List Nd} {i d : Nat} (f : Nd → Nd) (h : i ≠ d) : nodeAt (N.modify d f) i = nodeAt N i := by
  unfold nodeAt
  have hne : ¬ d = i := fun e => h e.symm
  rw [List.getD, List.getElem?_modify, List.getD]
  simp [hne]
theorem run_neq_ptr_other2 {P : Program} {w : World} {tp te : TypeId} {j : TypeInfo} {a b : Addr} {ca cb : Array Value} {ta tb : TypeId} (hp : P.underlying tp = some (.pointer te)) (hte : P.info? te = some j) (hsz : j.size ≠ 0)
    (hne : a ≠ b) (ha : w.heap[a.block]? = some (.cells ca ta (0, 0))) (hb : w.heap[b.block]? = some (.cells cb tb (0, 0))) :
    (binOp .neq tp (.pointer (some a)) (.pointer (some b))).run P w = .ok (.bool true) w := by
  have h : ∀ d : Nat, (Op.equalIn (d + 1) tp (.pointer (some a)) (.pointer (some b))).run P w = .ok false w := fun d => by
    simp [Op.equalIn, run_underlying hp, sizeOf, typeInfo, hte, hsz, run_sameAddr_other w hne ha hb]
  simp only [binOp]
  simp [Op.equal, Op.maxDepth, h 9999]
theorem run_neq_nodes {W : World} {t : Nat} {σ : Tr} {Ls : List Lay} (hT : TrAt W t σ Ls) {i j : Nat} (hi : i < σ.nodes.length) (hj : j < σ.nodes.length) (hne : i ≠ j) : (binOp .neq 49 (.pointer (some ⟨locL Ls i, 0, none⟩)) (.pointer (some ⟨locL Ls j, 0, none⟩))).run Tryz.prog W = .ok (.bool true) W := by
  obtain ⟨k, hjn, hsz⟩ := infoNode2
  obtain ⟨A, n4, a1, a2, a3, a4⟩ := hT.get hi
  obtain ⟨A', n4', a1', a2', a3', a4'⟩ := hT.get hj
  obtain ⟨_, _, _, h1⟩ := a3.head
  obtain ⟨_, _, _, h2⟩ := a3'.head
  refine run_neq_ptr_other2 (P := Tryz.prog) (tp := 49) (a := ⟨locL Ls i, 0, none⟩) (b := ⟨locL Ls j, 0, none⟩) Tryz.underlying49 hjn hsz (fun e => hne (hT.inj hi hj (congrArg Addr.block e))) (by rw [a4]; exact h1) (by rw [a4']; exact h2)
set_option maxRecDepth 100000 in
set_option maxHeartbeats 4000000 in
theorem leave_tree (w : World) (t : Nat) (σ : Tr) (Ls : List Lay) (hT : TrAt w t σ Ls) (d : Nat) (p : List UInt8) (j d2 : Nat) (q : ByteArray) (y2 : Option Addr) (hd : d < σ.nodes.length) (hdk : (nodeAt σ.nodes d).isDir = true) (hlk : lookS (nodeAt σ.nodes d).slots p = some j) (hp : p.length ≤ 1000) (hj : j < σ.nodes.length) (hjk : (nodeAt σ.nodes j).isDir = true) (hd2 : d2 < σ.nodes.length) (hd2k : (nodeAt σ.nodes d2).isDir = true) :
    Calls Tryz.prog 60 #[.agg #[ptrV (locL Ls d), strV p, ptrV (locL Ls j)], .agg #[ptrV (locL Ls d2), .string q, .pointer y2]] w fun e w' => e = .returned (.tuple #[]) ∧ TrAt w' t (leaveT σ d p j d2) Ls ∧ Only (fun k => k ∈ feet t Ls) w w' := by
  have hsv : leaveT σ d p j d2 = { σ with nodes := ((σ.nodes.modify d (fun x => x.del p)).modify d (fun x => x.more (-1))).modify d2 (fun x => x.more 1) } := by unfold leaveT; rw [if_pos hjk]
  rw [hsv]
  have k2 : (nodeAt σ.nodes j).kind = 2 := by rcases kind_two (nodeAt σ.nodes j) with ⟨_, k⟩ | ⟨k, _⟩; exact k; rw [hjk] at k; cases k
  have HT := Hid.mk hT
  clear hT hsv
  unfold ptrV strV
  go_enter Tryz.func60, Tryz.ntmps60
  go_upto_region 1 with fail
  obtain ⟨X, hX⟩ : ∃ X, X = (w.alloc (.cells #[.pointer (some ⟨locL Ls d, 0, none⟩), .string (mkS p), .pointer (some ⟨locL Ls j, 0, none⟩)] 69)).alloc (.cells #[.pointer (some ⟨locL Ls d2, 0, none⟩), .string q, .pointer y2] 69) := ⟨_, rfl⟩
  have hXB : Below w.heap.size w X := by rw [hX]; exact ((Below.refl _ w).alloc (Nat.le_refl _) _).alloc (by simp) _
  have hX0 : X.heap[w.heap.size]? = some (.cells #[.pointer (some ⟨locL Ls d, 0, none⟩), .string (mkS p), .pointer (some ⟨locL Ls j, 0, none⟩)] 69 (0, 0)) := by rw [hX, Below.heap_alloc _ _ _ (by simp)]; exact blk_new w _
  have hX1 : X.heap[w.heap.size + 1]? = some (.cells #[.pointer (some ⟨locL Ls d2, 0, none⟩), .string q, .pointer y2] 69 (0, 0)) := by
    rw [hX]
    have := blk_new (w.alloc (.cells #[.pointer (some ⟨locL Ls d, 0, none⟩), .string (mkS p), .pointer (some ⟨locL Ls j, 0, none⟩)] 69)) (.cells #[.pointer (some ⟨locL Ls d2, 0, none⟩), .string q, .pointer y2] 69)
    rwa [World.size_alloc] at this
  rw [← hX]
  clear hX
  have x0 := blk_cell hX0 0
  have x1 := blk_cell hX0 1
  simp at x0 x1
  have HR := Hid.mk (remove_tree X t σ Ls (HT.out.below rfl hXB) d p j hd hdk hlk hp)
  unfold ptrV strV at HR
  have HX0 := Hid.mk hX0
  have HX1 := Hid.mk hX1
  have HXB := Hid.mk hXB
  clear hX0 hX1 hXB
  go_upto_region 2 with (go_at_call 42; refine HR.out.mono ?_; rintro e' W1 ⟨rfl, hT1, ho1⟩; have HT1 := Hid.mk hT1; have HO1 := Hid.mk ho1; clear hT1 ho1)
  have hnf : ∀ k, w.heap.size ≤ k → k ∉ feet t Ls := fun k hk h => by have := HT.out.lt k h; omega
  have hb0 := (HO1.out.block w.heap.size (lt_of_block HX0.out) (hnf _ (Nat.le_refl _))).trans HX0.out
  have hb1 := (HO1.out.block (w.heap.size + 1) (lt_of_block HX1.out) (hnf _ (by omega))).trans HX1.out
  have u0 := blk_cell hb0 0
  have u2 := blk_cell hb0 2
  simp at u0 u2
  have g0 := (HT1.out.kindAt (j := j) (by simpa using hj)).1
  have g2 : (nodeAt (σ.nodes.modify d (fun x => x.del p)) j).kind = 2 := by rw [(del_kind j d p).1]; exact k2
  simp only [g2] at g0
  obtain ⟨m1, m2, m3⟩ := HT1.out.more (d := d) (by simpa using hd) (by rw [(del_kind d d p).2]; exact hdk) (-1)
  simp only at m1 m3
  obtain ⟨l1, hl1⟩ : ∃ l1, l1 = (nodeAt (σ.nodes.modify d (fun x => x.del p)) d).links := ⟨_, rfl⟩
  rw [← hl1] at m1 m3
  rw [show w64 (l1 + -1) = wrap64 (l1 - 1) from by rw [Int.sub_eq_add_neg]] at m3
  have HT3 := Hid.mk m3
  have HB1 := Hid.mk hb1
  have HON : Hid (Only (fun k => k ∈ feet t Ls) w W1) := Hid.mk ((Only.of_new (fun k => k ∈ feet t Ls) HXB.out).trans HO1.out (fun i hi => .inl hi))
  have HS1 : Hid (w.heap.size + 1 < W1.heap.size) := Hid.mk (lt_of_block hb1)
  clear m3 hb1 hb0 x0 x1 hl1 g2 HR HX0 HX1 HXB HO1
  go_upto_region 4 with fail
  have HLD : Hid (locL Ls d ∈ feet t Ls) := Hid.mk (by
    obtain ⟨b, m, r, c, l, z, s, q1, q2, q3, q4, q5⟩ := HT.out.dirAt hd hdk
    rw [q4]
    exact mem_feet q1 (by simp [Lay.foot]))
  have HLE : Hid (locL Ls d2 ∈ feet t Ls) := Hid.mk (by
    obtain ⟨b, m, r, c, l, z, s, q1, q2, q3, q4, q5⟩ := HT.out.dirAt hd2 hd2k
    rw [q4]
    exact mem_feet q1 (by simp [Lay.foot]))
  generalize hV : World.setCell W1 _ _ = V at *
  have hb2 : V.heap[w.heap.size + 1]? = some (.cells #[.pointer (some ⟨locL Ls d2, 0, none⟩), .string q, .pointer y2] 69 (0, 0)) := by
    rw [← hV]
    refine (Below.heap_setCell _ _ _ _ (fun e => ?_)).trans HB1.out
    exact hnf (w.heap.size + 1) (by omega) (by rw [e]; exact HLD.out)
  have v0 := blk_cell hb2 0
  simp at v0
  obtain ⟨n1, n2, n3⟩ := HT3.out.more (d := d2) (by simpa using hd2) (by rw [(more_kind d2 d (-1)).2, (del_kind d2 d p).2]; exact hd2k) 1
  simp only at n1 n3
  obtain ⟨l2, hl2⟩ : ∃ l2, l2 = (nodeAt ((σ.nodes.modify d (fun x => x.del p)).modify d (fun x => x.more (-1))) d2).links := ⟨_, rfl⟩
  rw [← hl2] at n1 n3
  have HT4 := Hid.mk n3
  have HV : Hid (Only (fun k => k ∈ feet t Ls) w V) := Hid.mk (by rw [← hV]; exact HON.out.setCell (p := ⟨locL Ls d, 1, none⟩) (.inl HLD.out) _)
  clear n3 hl2 hb2 hV HB1 HON HT3 u0 u2 g0 m1 m2
  go_wp2
  go_end0
  exact ⟨rfl, HT4.out, HV.out.setCell (p := ⟨locL Ls d2, 1, none⟩) (.inl HLE.out) _⟩
/-- The tree behind 'move', where there is room. -/
def moveT (σ : Tr) (d : Nat) (p : List UInt8) (j d2 : Nat) (q : List UInt8) : Tr :=
  leaveT { σ with inodes := w64 (σ.inodes + 0), blocks := w64 (σ.blocks + (nodeAt σ.nodes d2).growth), nodes := σ.nodes.modify d2 (fun x => x.add q j) } d p j d2
set_option maxRecDepth 100000 in
set_option maxHeartbeats 4000000 in
theorem move_tree (w : World) (t : Nat) (σ : Tr) (Ls : List Lay) (hT : TrAt w t σ Ls) (hOk : ∀ x ∈ σ.nodes, x.Ok) (d : Nat) (p : List UInt8) (j d2 : Nat) (q : List UInt8) (hd : d < σ.nodes.length) (hdk : (nodeAt σ.nodes d).isDir = true) (hlk : lookS (nodeAt σ.nodes d).slots p = some j) (hp : p.length ≤ 1000) (hj : j < σ.nodes.length) (hjk : (nodeAt σ.nodes j).isDir = true) (hd2 : d2 < σ.nodes.length) (hd2k : (nodeAt σ.nodes d2).isDir = true) (hno : lookS (nodeAt σ.nodes d2).slots q = none) (hq : q.length ≤ 1000) (hne : d ≠ d2) (hl : (nodeAt σ.nodes d2).links < 32000) (hfit : fitsB σ.G σ.I σ.D σ.inodes σ.blocks 0 (nodeAt σ.nodes d2).growth = true) :
    Calls Tryz.prog 47 #[ptrV t, .agg #[ptrV (locL Ls d), strV p, ptrV (locL Ls j)], .agg #[ptrV (locL Ls d2), strV q, .pointer none]] w fun e w' => e = .returned (.int .i64 0) ∧ StepL w t Ls w' (moveT σ d p j d2 q) := by
  have k2 : (nodeAt σ.nodes j).kind = 2 := by rcases kind_two (nodeAt σ.nodes j) with ⟨_, k⟩ | ⟨k, _⟩; exact k; rw [hjk] at k; cases k
  have HNQ : Hid (∀ W, Below w.heap.size w W → _) := Hid.mk (fun W (hB : Below w.heap.size w W) => run_neq_nodes (hT.below rfl hB) hd2 hd (fun e => hne e.symm))
  have HGR : Hid (∀ W, Below w.heap.size w W → Calls Tryz.prog 39 #[ptrV (locL Ls d2)] W fun e w' => e = .returned (.int .i64 (nodeAt σ.nodes d2).growth) ∧ Below W.heap.size W w') := Hid.mk (fun W hB => by
    obtain ⟨b, m, r, c, l, z, s, q1, q2, q3, q4, q5⟩ := (hT.below rfl hB).dirAt hd2 hd2k
    have hdok : (Nd.dir l z s).Ok := hOk _ (List.mem_of_getElem? q2)
    rw [q4, q5]
    exact growth_any W (locL Ls) b m r c l z s q3 hdok.2.2 hdok.1 hdok.2.1)
  have HTK : Hid (∀ W, Below w.heap.size w W → Calls Tryz.prog 38 #[ptrV t, .int .i64 0, .int .i64 (nodeAt σ.nodes d2).growth] W fun e w' => e = .returned (.int .i64 0) ∧ TrAt w' t { σ with inodes := w64 (σ.inodes + 0), blocks := w64 (σ.blocks + (nodeAt σ.nodes d2).growth) } Ls ∧ Only (fun k => k = t) W w') := Hid.mk (fun W hB => by
    have hTW := hT.below rfl hB
    refine (take_any W t (locL Ls 0) σ.G σ.I σ.D σ.inodes σ.blocks hTW.tree 0 (nodeAt σ.nodes d2).growth).mono ?_
    rintro e w' (⟨h1, _, _⟩ | ⟨h1, h2, h3, h4⟩)
    · rw [hfit] at h1; cases h1
    · exact ⟨h2, hTW.count h4 h3, h4⟩)
  have hll : ∃ l2, (nodeAt σ.nodes d2).links = l2 := ⟨_, rfl⟩
  obtain ⟨l2, hl2⟩ := hll
  have hl3 : ¬ (32000 : Int) ≤ l2 := by omega
  have HK : Hid (∀ W, Below w.heap.size w W → W.cell? ⟨locL Ls j, 0, none⟩ = some (.int .i64 2) ∧ W.cell? ⟨locL Ls d2, 1, none⟩ = some (.int .i64 l2)) := Hid.mk (fun W hB => ⟨by have := ((hT.below rfl hB).kindAt hj).1; rwa [k2] at this, by have := ((hT.below rfl hB).kindAt hd2).2.1; rwa [hl2] at this⟩)
  have HT := Hid.mk hT
  have HOK := Hid.mk hOk
  clear hT hOk hl hl2 hfit
  unfold ptrV at HGR HTK
  unfold ptrV strV
  go_enter Tryz.func47, Tryz.ntmps47
  go_upto_region 1 with fail
  obtain ⟨X, hX⟩ : ∃ X, X = (w.alloc (.cells #[.pointer (some ⟨locL Ls d, 0, none⟩), .string (mkS p), .pointer (some ⟨locL Ls j, 0, none⟩)] 69)).alloc (.cells #[.pointer (some ⟨locL Ls d2, 0, none⟩), .string (mkS q), .pointer none] 69) := ⟨_, rfl⟩
  have hXB : Below w.heap.size w X := by rw [hX]; exact ((Below.refl _ w).alloc (Nat.le_refl _) _).alloc (by simp) _
  have hX0 : X.heap[w.heap.size]? = some (.cells #[.pointer (some ⟨locL Ls d, 0, none⟩), .string (mkS p), .pointer (some ⟨locL Ls j, 0, none⟩)] 69 (0, 0)) := by rw [hX, Below.heap_alloc _ _ _ (by simp)]; exact blk_new w _
  have hX1 : X.heap[w.heap.size + 1]? = some (.cells #[.pointer (some ⟨locL Ls d2, 0, none⟩), .string (mkS q), .pointer none] 69 (0, 0)) := by
    rw [hX]
    have := blk_new (w.alloc (.cells #[.pointer (some ⟨locL Ls d, 0, none⟩), .string (mkS p), .pointer (some ⟨locL Ls j, 0, none⟩)] 69)) (.cells #[.pointer (some ⟨locL Ls d2, 0, none⟩), .string (mkS q), .pointer none] 69)
    rwa [World.size_alloc] at this
  rw [← hX]
  clear hX
  have x0 := blk_cell hX0 0
  have x2 := blk_cell hX0 2
  have y0 := blk_cell hX1 0
  simp at x0 x2 y0
  obtain ⟨g0, g1⟩ := HK.out X hXB
  have hcmp := HNQ.out X hXB
  have HX0 := Hid.mk hX0
  have HX1 := Hid.mk hX1
  have HXB := Hid.mk hXB
  clear hX0 hX1 hXB HK
  go_upto_region 4 with (first
    | (go_at_call 39; refine (HGR.out _ HXB.out).mono ?_; rintro e' Wg ⟨rfl, hbg⟩; have HG := Hid.mk hbg; clear hbg)
    | (go_at_call 38; refine (HTK.out _ (HXB.out.trans (HG.out.mono HXB.out.size))).mono ?_; rintro e' Wt ⟨rfl, hTt, hOt⟩; have HTt := Hid.mk hTt; have HOt := Hid.mk hOt; clear hTt hOt))
  have hnf : ∀ k, w.heap.size ≤ k → k ∉ feet t Ls := fun k hk h => by have := HT.out.lt k h; omega
  have htf : t ∈ feet t Ls := by simp [feet]
  have hXt : Only (fun k => k ∈ feet t Ls) X Wt := (Only.of_new (fun k => k ∈ feet t Ls) HG.out).trans (HOt.out.mono (fun i _ (hi : i = t) => by rw [hi]; exact htf)) (fun i hi => .inl hi)
  have hb0 := (hXt.block w.heap.size (lt_of_block HX0.out) (hnf _ (Nat.le_refl _))).trans HX0.out
  have hb1 := (hXt.block (w.heap.size + 1) (lt_of_block HX1.out) (hnf _ (by omega))).trans HX1.out
  have HON : Hid (Only (fun k => k ∈ feet t Ls) w Wt) := Hid.mk ((Only.of_new (fun k => k ∈ feet t Ls) HXB.out).trans hXt (fun i hi => .inl hi))
  have u2 := blk_cell hb0 2
  have v0 := blk_cell hb1 0
  have v1 := blk_cell hb1 1
  simp at u2 v0 v1
  have HAD := Hid.mk (add_tree Wt t _ Ls HTt.out HOK.out d2 q j hd2 hd2k hno hj hq)
  unfold ptrV strV at HAD
  have HB0 := Hid.mk hb0
  have HB1 := Hid.mk hb1
  have HSZ : Hid (w.heap.size + 1 < Wt.heap.size) := Hid.mk (lt_of_block hb1)
  clear hb0 hb1 hXt x0 x2 y0 g0 g1 hcmp HNQ HX0 HX1 HXB HGR HTK HG HOt
  go_upto_region 7 with (go_at_call 40; refine HAD.out.mono ?_; rintro e' Wa ⟨rfl, ⟨Ls', hTa, hLo, hFt⟩, hOa⟩; have HTa := Hid.mk hTa; have HLo := Hid.mk hLo; have HFt := Hid.mk hFt; have HOa := Hid.mk hOa; clear hTa hLo hFt hOa)
  have hc0 := (HOa.out.block w.heap.size (by have := HSZ.out; omega) (hnf _ (Nat.le_refl _))).trans HB0.out
  have hc1 := (HOa.out.block (w.heap.size + 1) HSZ.out (hnf _ (by omega))).trans HB1.out
  have u0 := blk_cell hc0 0
  have u1 := blk_cell hc0 1
  have u3 := blk_cell hc0 2
  have w0 := blk_cell hc1 0
  have w1 := blk_cell hc1 1
  have w2 := blk_cell hc1 2
  simp at u0 u1 u3 w0 w1 w2
  have HLV := Hid.mk (leave_tree Wa t { σ with inodes := w64 (σ.inodes + 0), blocks := w64 (σ.blocks + (nodeAt σ.nodes d2).growth), nodes := σ.nodes.modify d2 (fun x => x.add q j) } Ls' HTa.out d p j d2 (mkS q) none (by simpa using hd) (by rw [add_kind]; exact hdk) (by rw [node_other _ hne]; exact hlk) hp (by simpa using hj) (by rw [add_kind]; exact hjk) (by simpa using hd2) (by rw [add_kind]; exact hd2k))
  rw [HLo.out] at HLV
  unfold ptrV strV at HLV
  clear hc0 hc1 u2 v0 v1 HB0 HB1 HAD
  go_wp2_with (go_at_call 60; refine HLV.out.mono ?_; rintro e' Wl ⟨rfl, hTl, hOl⟩; have HTl := Hid.mk hTl; have HOl := Hid.mk hOl; clear hTl hOl)
  go_ret
  refine ⟨rfl, ⟨Ls', HTl.out, HLo.out, fun k hk => ?_⟩, ?_⟩
  · rcases HFt.out k hk with h | h
    · exact .inl h
    · exact .inr (by have := HSZ.out; omega)
  · refine (HON.out.trans HOa.out (fun i hi => .inl hi)).trans HOl.out (fun i hi => ?_)
    rcases HFt.out i hi with h | h
    · exact .inl h
    · exact .inr (by have := HSZ.out; omega)
end Go.Proofs.YtehaoeclnmelhacGreat
namespace Go.Proofs.YtehaoeclnmelhacGreat
open Go Go.Proofs Go.RowKit Go.Shelf Go.Sort

theorem run_eql_node (W : World) (b : Nat) : (binOp .eql 49 (.pointer (some ⟨b, 0, none⟩)) (.pointer (some ⟨b, 0, none⟩))).run Tryz.prog W = .ok (.bool true) W := by
  obtain ⟨j, hj, _⟩ := infoNode2
  exact run_eql_ptr_same W _ Tryz.underlying49 hj
theorem run_eql_nodes {W : World} {t : Nat} {σ : Tr} {Ls : List Lay} (hT : TrAt W t σ Ls) {i j : Nat} (hi : i < σ.nodes.length) (hj : j < σ.nodes.length) (hne : i ≠ j) : (binOp .eql 49 (.pointer (some ⟨locL Ls i, 0, none⟩)) (.pointer (some ⟨locL Ls j, 0, none⟩))).run Tryz.prog W = .ok (.bool false) W := by
  obtain ⟨k, hjn, hsz⟩ := infoNode2
  obtain ⟨A, n4, a1, a2, a3, a4⟩ := hT.get hi
  obtain ⟨A', n4', a1', a2', a3', a4'⟩ := hT.get hj
  obtain ⟨_, _, _, h1⟩ := a3.head
  obtain ⟨_, _, _, h2⟩ := a3'.head
  refine run_eql_ptr_other W (P := Tryz.prog) (tp := 49) (a := ⟨locL Ls i, 0, none⟩) (b := ⟨locL Ls j, 0, none⟩) Tryz.underlying49 hjn hsz (fun e => hne (hT.inj hi hj (congrArg Addr.block e))) (by rw [a4]; exact h1) (by rw [a4']; exact h2)
set_option maxRecDepth 100000 in
set_option maxHeartbeats 4000000 in
theorem lose_dirK (w : World) (t : Nat) (σ : Tr) (Ls : List Lay) (hT : TrAt w t σ Ls) (hOk : ∀ x ∈ σ.nodes, x.Ok) (d j : Nat) (p : ByteArray) (hd : d < σ.nodes.length) (hdk : (nodeAt σ.nodes d).isDir = true) (hj : j < σ.nodes.length) (hjk : (nodeAt σ.nodes j).isDir = true) :
    Calls Tryz.prog 43 #[ptrV t, .agg #[ptrV (locL Ls d), .string p, ptrV (locL Ls j)]] w fun e w' => e = .returned (.tuple #[]) ∧ TrAt w' t (loseT σ d j) Ls ∧ Only (fun k => k ∈ feet t Ls) w w' := by
  have k2 : (nodeAt σ.nodes j).kind = 2 := by rcases kind_two (nodeAt σ.nodes j) with ⟨_, k⟩ | ⟨k, _⟩; exact k; rw [hjk] at k; cases k
  have HT := Hid.mk hT
  have HOK := Hid.mk hOk
  clear hT hOk
  unfold ptrV
  go_enter Tryz.func43, Tryz.ntmps43
  go_upto_region 1 with fail
  obtain ⟨X, hX⟩ : ∃ X, X = w.alloc (.cells #[.pointer (some ⟨locL Ls d, 0, none⟩), .string p, .pointer (some ⟨locL Ls j, 0, none⟩)] 69) := ⟨_, rfl⟩
  have hXB : Below w.heap.size w X := by rw [hX]; exact (Below.refl _ w).alloc (Nat.le_refl _) _
  have hX0 : X.heap[w.heap.size]? = some (.cells #[.pointer (some ⟨locL Ls d, 0, none⟩), .string p, .pointer (some ⟨locL Ls j, 0, none⟩)] 69 (0, 0)) := by rw [hX]; exact blk_new w _
  rw [← hX]
  clear hX
  have x0 := blk_cell hX0 0
  have x2 := blk_cell hX0 2
  simp at x0 x2
  have hT1 := HT.out.below rfl hXB
  obtain ⟨b, m, r, c, l, z, s, q1, q2, q3, q4, q5⟩ := hT1.dirAt hd hdk
  obtain ⟨g0, -, -⟩ := hT1.kindAt hj
  rw [k2] at g0
  have e1 := blk_cell q3.node 1
  have f1 := blk_free q3.node 1
  simp at e1
  have e4 := blk_cell hT1.tree 4
  have f4 := blk_free hT1.tree 4
  simp at e4
  have htb : t ≠ b := fun e => (List.nodup_cons.1 hT1.apart).1 (List.mem_flatMap.2 ⟨_, List.mem_of_getElem? q1, by rw [e]; simp [Lay.foot]⟩)
  have hbt : ¬ b = t := fun e => htb e.symm
  rw [q4] at x0 ⊢
  have HT2 := Hid.mk (hT1.links (l' := wrap64 (l - 1)) q1 q2)
  have h4 := HT2.out.count (i' := wrap64 (σ.inodes - 1)) (b' := σ.blocks) ((Only.refl (fun k => k = t) _).setCell (p := ⟨t, 4, none⟩) (.inl rfl) (.int .i64 (wrap64 (σ.inodes - 1)))) (by unfold TbAt; rw [blk_set HT2.out.tree]; rfl)
  have HT4 := Hid.mk h4
  have HX := Hid.mk hXB
  have e4' : (X.setCell ⟨b, 1, none⟩ (.int .i64 (wrap64 (l - 1)))).cell? ⟨t, 4, none⟩ = some (.int .i64 σ.inodes) := by rw [blk_cell HT2.out.tree]; rfl
  have f4' : (X.setCell ⟨b, 1, none⟩ (.int .i64 (wrap64 (l - 1)))).frozen? ⟨t, 4, none⟩ = false := blk_free HT2.out.tree 4
  have HQ2 := Hid.mk q2
  have HBF : Hid (b ∈ feet t Ls) := Hid.mk (mem_feet q1 (by simp [Lay.foot]))
  clear hT1 q1 q2 q3 q5 hX0 hXB h4 e4 f4
  go_upto_region 7 with fail
  generalize hV : World.setCell (World.setCell X _ _) _ _ = V at *
  have HV := Hid.mk hV
  have hjl : j < (σ.nodes.set d (.dir (wrap64 (l - 1)) z s)).length := by simpa using hj
  obtain ⟨A, n4, a1, a2, a3, a4⟩ := HT4.out.get hjl
  have hn4 : n4.nos = (nodeAt σ.nodes j).nos ∧ n4.Ok := by
    have hq := HQ2.out
    have a2' : (σ.nodes.set d (.dir (wrap64 (l - 1)) z s))[j]? = some n4 := a2
    by_cases e : j = d
    · subst e
      rw [List.getElem?_set_self (by simpa using hj)] at a2'
      cases a2'
      have e2 : nodeAt σ.nodes j = .dir l z s := by unfold nodeAt; rw [List.getD, hq]; rfl
      rw [e2]
      have hok := HOK.out _ (List.mem_of_getElem? hq)
      exact ⟨rfl, hok⟩
    · rw [List.getElem?_set_ne (fun h => e h.symm)] at a2'
      have e2 : nodeAt σ.nodes j = n4 := by unfold nodeAt; rw [List.getD, a2']; rfl
      rw [e2]
      exact ⟨rfl, HOK.out _ (List.mem_of_getElem? a2')⟩
  have HNO : Hid (∀ W, Below V.heap.size V W → _) := Hid.mk (fun W (hB : Below V.heap.size V W) => nos_any W (locL Ls) A n4 (a3.kept (fun k hk => hB.block k (a3.lt k hk))) hn4.2)
  rw [← a4] at HNO
  have HLN := Hid.mk (nos_len n4 hn4.2)
  have HNE := Hid.mk hn4.1
  have HT5 : Hid (∀ W, Below V.heap.size V W → W.cell? ⟨t, 5, none⟩ = some (.int .i64 σ.blocks) ∧ W.frozen? ⟨t, 5, none⟩ = false) := Hid.mk (fun W hB => by
    have e := (hB.block t (lt_of_block HT4.out.tree)).trans HT4.out.tree
    exact ⟨by rw [blk_cell e]; rfl, blk_free e 5⟩)
  obtain ⟨u5, v5⟩ := HT5.out V.drew (Below.refl _ V).drew
  have XB0 : Hid (Below V.heap.size V V.drew) := Hid.mk (Below.refl _ V).drew
  clear hV a1 a2 a3 a4 hn4 hjl e1 f1 e4' f4' g0 x0 x2
  go_region_with (first
    | (go_at_call 51; refine (HNO.out _ XB0.out).mono ?_; rintro e' Wn ⟨ao', c', rfl, hown, hbn⟩; obtain ⟨ao2, c2, ev, hla⟩ := owns_lat hown; cases ev; have XN : Hid (Below V.heap.size V Wn) := Hid.mk (XB0.out.trans (hbn.mono XB0.out.size)); have LN := Hid.mk hla; obtain ⟨u6, v6⟩ := HT5.out _ XN.out; clear hown hbn hla)
    | (go_at_call 52; refine (room_any _ _ _ _ n4.nos LN.out (by have := HLN.out; omega)).mono ?_; rintro e' Wr ⟨rfl, hbr⟩; have XR : Hid (Below V.heap.size V Wr) := Hid.mk (XN.out.trans (hbr.mono XN.out.size)); obtain ⟨u7, v7⟩ := HT5.out _ XR.out; clear hbr))
  all_goals
    have hr := XR.out
    have hTr := HT4.out.below rfl hr
    go_wp2
    go_end0
    refine ⟨rfl, ?_⟩
    have hfin := hTr.count (i' := wrap64 (σ.inodes - 1)) (b' := wrap64 (σ.blocks - roomL n4.nos)) ((Only.refl (fun k => k = t) Wr).setCell (p := ⟨t, 5, none⟩) (.inl rfl) (.int .i64 (wrap64 (σ.blocks - roomL n4.nos)))) (by unfold TbAt; rw [blk_set hTr.tree]; rfl)
    have hon : Only (fun k => k ∈ feet t Ls) w V := by
      rw [← HV.out]
      exact ((Only.of_new (fun k => k ∈ feet t Ls) HX.out).setCell (p := ⟨b, 1, none⟩) (.inl HBF.out) _).setCell (p := ⟨t, 4, none⟩) (.inl (by simp [feet])) _
    refine ⟨?_, (hon.trans (Only.of_new (fun _ => False) hr) (fun _ h => h.elim)).setCell (p := ⟨t, 5, none⟩) (.inl (by simp [feet])) _⟩
    unfold loseT
    rw [wrap_eq, modify_set HQ2.out, ← HNE.out, show (Nd.dir l z s).more (-1) = .dir (wrap64 (l - 1)) z s from by simp only [Nd.more, w64, Int.sub_eq_add_neg]]
    exact hfin
set_option maxRecDepth 100000 in
set_option maxHeartbeats 4000000 in
theorem lose_moreK (w : World) (t : Nat) (σ : Tr) (Ls : List Lay) (hT : TrAt w t σ Ls) (hOk : ∀ x ∈ σ.nodes, x.Ok) (d j : Nat) (p : ByteArray) (hj : j < σ.nodes.length) (hjk : (nodeAt σ.nodes j).isDir = false) (hl :  0 < wrap64 ((nodeAt σ.nodes j).links - 1)) :
    Calls Tryz.prog 43 #[ptrV t, .agg #[ptrV (locL Ls d), .string p, ptrV (locL Ls j)]] w fun e w' => e = .returned (.tuple #[]) ∧ TrAt w' t (loseM σ j) Ls ∧ Only (fun k => k ∈ feet t Ls) w w' := by
  have HT := Hid.mk hT
  have HOK := Hid.mk hOk
  clear hT hOk
  unfold ptrV
  go_enter Tryz.func43, Tryz.ntmps43
  go_upto_region 1 with fail
  obtain ⟨X, hX⟩ : ∃ X, X = w.alloc (.cells #[.pointer (some ⟨locL Ls d, 0, none⟩), .string p, .pointer (some ⟨locL Ls j, 0, none⟩)] 69) := ⟨_, rfl⟩
  have hXB : Below w.heap.size w X := by rw [hX]; exact (Below.refl _ w).alloc (Nat.le_refl _) _
  have hX0 : X.heap[w.heap.size]? = some (.cells #[.pointer (some ⟨locL Ls d, 0, none⟩), .string p, .pointer (some ⟨locL Ls j, 0, none⟩)] 69 (0, 0)) := by rw [hX]; exact blk_new w _
  rw [← hX]
  clear hX
  have x2 := blk_cell hX0 2
  simp at x2
  have hT1 := HT.out.below rfl hXB
  obtain ⟨b, m, r, l, z, s, q1, q2, q3, q4, q5⟩ := hT1.fileAt hj hjk
  rw [q5] at hl
  simp only [Nd.links] at hl
  have g0 := blk_cell q3.node 0
  have e1 := blk_cell q3.node 1
  have f1 := blk_free q3.node 1
  simp at g0 e1
  have htb : t ≠ b := fun e => (List.nodup_cons.1 hT1.apart).1 (List.mem_flatMap.2 ⟨_, List.mem_of_getElem? q1, by rw [e]; simp [Lay.foot]⟩)
  have hbt : ¬ b = t := fun e => htb e.symm
  rw [q4] at x2 ⊢
  have HT2 := Hid.mk (hT1.flinks (l' := wrap64 (l - 1)) q1 q2)
  have HX := Hid.mk hXB
  have HQ2 := Hid.mk q2
  have HBF : Hid (b ∈ feet t Ls) := Hid.mk (mem_feet q1 (by simp [Lay.foot]))
  have e1' : (X.setCell ⟨b, 1, none⟩ (.int .i64 (wrap64 (l - 1)))).cell? ⟨b, 1, none⟩ = some (.int .i64 (wrap64 (l - 1))) := by rw [blk_cell (blk_set q3.node)]; rfl
  clear hT1 q1 q2 q3 q4 q5 hX0 hXB
  go_wp2
  refine bodyPost_ret (results_none rfl _ _ _) rfl ?_
  refine ⟨rfl, ⟨?_, (Only.of_new (fun k => k ∈ feet t Ls) HX.out).setCell (p := ⟨b, 1, none⟩) (.inl HBF.out) _⟩⟩
  unfold loseM
  rw [modify_set HQ2.out, show (Nd.file l z s).more (-1) = .file (wrap64 (l - 1)) z s from by simp only [Nd.more, w64, Int.sub_eq_add_neg]]
  exact HT2.out
set_option maxRecDepth 100000 in
set_option maxHeartbeats 4000000 in
theorem lose_lastK (w : World) (t : Nat) (σ : Tr) (Ls : List Lay) (hT : TrAt w t σ Ls) (hOk : ∀ x ∈ σ.nodes, x.Ok) (d j : Nat) (p : ByteArray) (hj : j < σ.nodes.length) (hjk : (nodeAt σ.nodes j).isDir = false) (hl : ¬ 0 < wrap64 ((nodeAt σ.nodes j).links - 1)) :
    Calls Tryz.prog 43 #[ptrV t, .agg #[ptrV (locL Ls d), .string p, ptrV (locL Ls j)]] w fun e w' => e = .returned (.tuple #[]) ∧ TrAt w' t (loseL σ j) Ls ∧ Only (fun k => k ∈ feet t Ls) w w' := by
  have HT := Hid.mk hT
  have HOK := Hid.mk hOk
  clear hT hOk
  unfold ptrV
  go_enter Tryz.func43, Tryz.ntmps43
  go_upto_region 1 with fail
  obtain ⟨X, hX⟩ : ∃ X, X = w.alloc (.cells #[.pointer (some ⟨locL Ls d, 0, none⟩), .string p, .pointer (some ⟨locL Ls j, 0, none⟩)] 69) := ⟨_, rfl⟩
  have hXB : Below w.heap.size w X := by rw [hX]; exact (Below.refl _ w).alloc (Nat.le_refl _) _
  have hX0 : X.heap[w.heap.size]? = some (.cells #[.pointer (some ⟨locL Ls d, 0, none⟩), .string p, .pointer (some ⟨locL Ls j, 0, none⟩)] 69 (0, 0)) := by rw [hX]; exact blk_new w _
  rw [← hX]
  clear hX
  have x2 := blk_cell hX0 2
  simp at x2
  have hT1 := HT.out.below rfl hXB
  obtain ⟨b, m, r, l, z, s, q1, q2, q3, q4, q5⟩ := hT1.fileAt hj hjk
  rw [q5] at hl
  simp only [Nd.links] at hl
  have g0 := blk_cell q3.node 0
  have e1 := blk_cell q3.node 1
  have f1 := blk_free q3.node 1
  simp at g0 e1
  have htb : t ≠ b := fun e => (List.nodup_cons.1 hT1.apart).1 (List.mem_flatMap.2 ⟨_, List.mem_of_getElem? q1, by rw [e]; simp [Lay.foot]⟩)
  have hbt : ¬ b = t := fun e => htb e.symm
  rw [q4] at x2 ⊢
  have HT2 := Hid.mk (hT1.flinks (l' := wrap64 (l - 1)) q1 q2)
  have HX := Hid.mk hXB
  have HQ2 := Hid.mk q2
  have HBF : Hid (b ∈ feet t Ls) := Hid.mk (mem_feet q1 (by simp [Lay.foot]))
  have e1' : (X.setCell ⟨b, 1, none⟩ (.int .i64 (wrap64 (l - 1)))).cell? ⟨b, 1, none⟩ = some (.int .i64 (wrap64 (l - 1))) := by rw [blk_cell (blk_set q3.node)]; rfl
  have h4 := HT2.out.count (i' := wrap64 (σ.inodes - 1)) (b' := σ.blocks) ((Only.refl (fun k => k = t) _).setCell (p := ⟨t, 4, none⟩) (.inl rfl) (.int .i64 (wrap64 (σ.inodes - 1)))) (by unfold TbAt; rw [blk_set HT2.out.tree]; rfl)
  have HT4 := Hid.mk h4
  have e4' : (X.setCell ⟨b, 1, none⟩ (.int .i64 (wrap64 (l - 1)))).cell? ⟨t, 4, none⟩ = some (.int .i64 σ.inodes) := by rw [blk_cell HT2.out.tree]; rfl
  have f4' : (X.setCell ⟨b, 1, none⟩ (.int .i64 (wrap64 (l - 1)))).frozen? ⟨t, 4, none⟩ = false := blk_free HT2.out.tree 4
  clear hT1 q1 q2 q3 q5 hX0 hXB h4
  go_upto_region 7 with fail
  generalize hV : World.setCell (World.setCell X _ _) _ _ = V at *
  have HV := Hid.mk hV
  have hjl : j < (σ.nodes.set j (.file (wrap64 (l - 1)) z s)).length := by simpa using hj
  obtain ⟨A, n4, a1, a2, a3, a4⟩ := HT4.out.get hjl
  have hn4 : n4.nos = (nodeAt σ.nodes j).nos ∧ n4.Ok := by
    have hq := HQ2.out
    have a2' : (σ.nodes.set j (.file (wrap64 (l - 1)) z s))[j]? = some n4 := a2
    rw [List.getElem?_set_self (by simpa using hj)] at a2'
    cases a2'
    have e2 : nodeAt σ.nodes j = .file l z s := by unfold nodeAt; rw [List.getD, hq]; rfl
    rw [e2]
    have hok := HOK.out _ (List.mem_of_getElem? hq)
    exact ⟨rfl, hok⟩
  have HNO : Hid (∀ W, Below V.heap.size V W → _) := Hid.mk (fun W (hB : Below V.heap.size V W) => nos_any W (locL Ls) A n4 (a3.kept (fun k hk => hB.block k (a3.lt k hk))) hn4.2)
  rw [← a4, q4] at HNO
  have HLN := Hid.mk (nos_len n4 hn4.2)
  have HNE := Hid.mk hn4.1
  have HT5 : Hid (∀ W, Below V.heap.size V W → W.cell? ⟨t, 5, none⟩ = some (.int .i64 σ.blocks) ∧ W.frozen? ⟨t, 5, none⟩ = false) := Hid.mk (fun W hB => by
    have e := (hB.block t (lt_of_block HT4.out.tree)).trans HT4.out.tree
    exact ⟨by rw [blk_cell e]; rfl, blk_free e 5⟩)
  obtain ⟨u5, v5⟩ := HT5.out V.drew (Below.refl _ V).drew
  have XB0 : Hid (Below V.heap.size V V.drew) := Hid.mk (Below.refl _ V).drew
  clear hV a1 a2 a3 a4 hn4 hjl e1 f1 e4' f4' g0 x2 e1' q4
  go_region_with (first
    | (go_at_call 51; refine (HNO.out _ XB0.out).mono ?_; rintro e' Wn ⟨ao', c', rfl, hown, hbn⟩; obtain ⟨ao2, c2, ev, hla⟩ := owns_lat hown; cases ev; have XN : Hid (Below V.heap.size V Wn) := Hid.mk (XB0.out.trans (hbn.mono XB0.out.size)); have LN := Hid.mk hla; obtain ⟨u6, v6⟩ := HT5.out _ XN.out; clear hown hbn hla)
    | (go_at_call 52; refine (room_any _ _ _ _ n4.nos LN.out (by have := HLN.out; omega)).mono ?_; rintro e' Wr ⟨rfl, hbr⟩; have XR : Hid (Below V.heap.size V Wr) := Hid.mk (XN.out.trans (hbr.mono XN.out.size)); obtain ⟨u7, v7⟩ := HT5.out _ XR.out; clear hbr))
  all_goals
    have hr := XR.out
    have hTr := HT4.out.below rfl hr
    go_wp2
    go_end0
    refine ⟨rfl, ?_⟩
    have hfin := hTr.count (i' := wrap64 (σ.inodes - 1)) (b' := wrap64 (σ.blocks - roomL n4.nos)) ((Only.refl (fun k => k = t) Wr).setCell (p := ⟨t, 5, none⟩) (.inl rfl) (.int .i64 (wrap64 (σ.blocks - roomL n4.nos)))) (by unfold TbAt; rw [blk_set hTr.tree]; rfl)
    have hon : Only (fun k => k ∈ feet t Ls) w V := by
      rw [← HV.out]
      exact ((Only.of_new (fun k => k ∈ feet t Ls) HX.out).setCell (p := ⟨b, 1, none⟩) (.inl HBF.out) _).setCell (p := ⟨t, 4, none⟩) (.inl (by simp [feet])) _
    refine ⟨?_, (hon.trans (Only.of_new (fun _ => False) hr) (fun _ h => h.elim)).setCell (p := ⟨t, 5, none⟩) (.inl (by simp [feet])) _⟩
    unfold loseL
    rw [wrap_eq, modify_set HQ2.out, ← HNE.out, show (Nd.file l z s).more (-1) = .file (wrap64 (l - 1)) z s from by simp only [Nd.more, w64, Int.sub_eq_add_neg]]
    exact hfin
set_option maxRecDepth 100000 in
set_option maxHeartbeats 4000000 in
theorem leave_file (w : World) (t : Nat) (σ : Tr) (Ls : List Lay) (hT : TrAt w t σ Ls) (d : Nat) (p : List UInt8) (j d2 : Nat) (q : ByteArray) (y2 : Option Addr) (hd : d < σ.nodes.length) (hdk : (nodeAt σ.nodes d).isDir = true) (hlk : lookS (nodeAt σ.nodes d).slots p = some j) (hp : p.length ≤ 1000) (hj : j < σ.nodes.length) (hjk : (nodeAt σ.nodes j).isDir = false) :
    Calls Tryz.prog 60 #[.agg #[ptrV (locL Ls d), strV p, ptrV (locL Ls j)], .agg #[ptrV (locL Ls d2), .string q, .pointer y2]] w fun e w' => e = .returned (.tuple #[]) ∧ TrAt w' t (leaveT σ d p j d2) Ls ∧ Only (fun k => k ∈ feet t Ls) w w' := by
  have hsv : leaveT σ d p j d2 = { σ with nodes := σ.nodes.modify d (fun x => x.del p) } := by unfold leaveT; rw [hjk]; rfl
  rw [hsv]
  have k2 : (nodeAt σ.nodes j).kind = 1 := by rcases kind_two (nodeAt σ.nodes j) with ⟨k, _⟩ | ⟨_, k⟩; rw [hjk] at k; cases k; exact k
  have HT := Hid.mk hT
  clear hT hsv
  unfold ptrV strV
  go_enter Tryz.func60, Tryz.ntmps60
  go_upto_region 1 with fail
  obtain ⟨X, hX⟩ : ∃ X, X = (w.alloc (.cells #[.pointer (some ⟨locL Ls d, 0, none⟩), .string (mkS p), .pointer (some ⟨locL Ls j, 0, none⟩)] 69)).alloc (.cells #[.pointer (some ⟨locL Ls d2, 0, none⟩), .string q, .pointer y2] 69) := ⟨_, rfl⟩
  have hXB : Below w.heap.size w X := by rw [hX]; exact ((Below.refl _ w).alloc (Nat.le_refl _) _).alloc (by simp) _
  have hX0 : X.heap[w.heap.size]? = some (.cells #[.pointer (some ⟨locL Ls d, 0, none⟩), .string (mkS p), .pointer (some ⟨locL Ls j, 0, none⟩)] 69 (0, 0)) := by rw [hX, Below.heap_alloc _ _ _ (by simp)]; exact blk_new w _
  have hX1 : X.heap[w.heap.size + 1]? = some (.cells #[.pointer (some ⟨locL Ls d2, 0, none⟩), .string q, .pointer y2] 69 (0, 0)) := by
    rw [hX]
    have := blk_new (w.alloc (.cells #[.pointer (some ⟨locL Ls d, 0, none⟩), .string (mkS p), .pointer (some ⟨locL Ls j, 0, none⟩)] 69)) (.cells #[.pointer (some ⟨locL Ls d2, 0, none⟩), .string q, .pointer y2] 69)
    rwa [World.size_alloc] at this
  rw [← hX]
  clear hX
  have x0 := blk_cell hX0 0
  have x1 := blk_cell hX0 1
  simp at x0 x1
  have HR := Hid.mk (remove_tree X t σ Ls (HT.out.below rfl hXB) d p j hd hdk hlk hp)
  unfold ptrV strV at HR
  have HX0 := Hid.mk hX0
  have HX1 := Hid.mk hX1
  have HXB := Hid.mk hXB
  clear hX0 hX1 hXB
  go_upto_region 2 with (go_at_call 42; refine HR.out.mono ?_; rintro e' W1 ⟨rfl, hT1, ho1⟩; have HT1 := Hid.mk hT1; have HO1 := Hid.mk ho1; clear hT1 ho1)
  have hnf : ∀ k, w.heap.size ≤ k → k ∉ feet t Ls := fun k hk h => by have := HT.out.lt k h; omega
  have hb0 := (HO1.out.block w.heap.size (lt_of_block HX0.out) (hnf _ (Nat.le_refl _))).trans HX0.out
  have hb1 := (HO1.out.block (w.heap.size + 1) (lt_of_block HX1.out) (hnf _ (by omega))).trans HX1.out
  have u0 := blk_cell hb0 0
  have u2 := blk_cell hb0 2
  simp at u0 u2
  have g0 := (HT1.out.kindAt (j := j) (by simpa using hj)).1
  have g2 : (nodeAt (σ.nodes.modify d (fun x => x.del p)) j).kind = 1 := by rw [(del_kind j d p).1]; exact k2
  simp only [g2] at g0
  have HON : Hid (Only (fun k => k ∈ feet t Ls) w W1) := Hid.mk ((Only.of_new (fun k => k ∈ feet t Ls) HXB.out).trans HO1.out (fun i hi => .inl hi))
  clear hb1 hb0 x0 x1 g2 HR HX0 HX1 HXB HO1
  go_wp2
  go_end0
  exact ⟨rfl, HT1.out, HON.out⟩
theorem look_at {s : List Slt} (h : namesOk s) {i a : Nat} {p : List UInt8} (e : s[i]? = some (some (a, p))) : lookS s p = some a := by
  unfold lookS
  rw [h.1 i a p e, List.getD, e]
  rfl
theorem at_look {s : List Slt} {p : List UInt8} {a : Nat} (h : lookS s p = some a) : nameAt s p < s.length ∧ s[nameAt s p]? = some (some (a, p)) := by
  rcases pf_char s p with ⟨a', h1, h2, _, h3⟩ | ⟨_, _, h3⟩
  · rw [h] at h3; cases h3; exact ⟨h1, h2⟩
  · rw [h] at h3; cases h3
/-- Another name keeps what it names where one is put. -/
theorem look_put {s : List Slt} (h : namesOk s) {p q : List UInt8} {a b : Nat} (j : Nat) (hp : lookS s p = some a) (hq : lookS s q = some b) (hne : p ≠ q) : lookS (s.set (nameAt s q) (some (j, q))) p = some a := by
  obtain ⟨h1, h2⟩ := at_look hp
  obtain ⟨h3, h4⟩ := at_look hq
  refine look_at (i := nameAt s p) (names_put h h3 j) ?_
  rw [set_other (fun e => ?_)]
  · exact h2
  · rw [e, h4] at h2; cases h2; exact hne rfl
theorem look_put_self {s : List Slt} (h : namesOk s) {q : List UInt8} {b : Nat} (j : Nat) (hq : lookS s q = some b) : lookS (s.set (nameAt s q) (some (j, q))) q = some j := by
  obtain ⟨h3, h4⟩ := at_look hq
  refine look_at (i := nameAt s q) (names_put h h3 j) ?_
  rw [List.getElem?_set_self h3]
theorem put_ok' {N : List Nd} (h : ∀ x ∈ N, x.Ok) (d : Nat) (p : List UInt8) (j : Nat) : ∀ x ∈ N.modify d (fun x => x.put p j), x.Ok := by
  intro x hx
  obtain ⟨i, hi, e⟩ := List.getElem_of_mem hx
  have e2 : (N.modify d (fun x => x.put p j))[i]? = some x := by rw [List.getElem?_eq_getElem hi, e]
  rw [List.getElem?_modify] at e2
  cases hn : N[i]? with
  | none => rw [hn] at e2; cases e2
  | some y =>
    rw [hn] at e2
    have hy := h y (List.mem_of_getElem? hn)
    simp at e2
    split at e2
    · subst e2
      cases y with
      | file l z q => exact hy
      | dir l z s => exact ⟨hy.1, hy.2.1, by simpa using hy.2.2⟩
    · subst e2; exact hy
theorem putK_kind {N : List Nd} (i d : Nat) (p : List UInt8) (j : Nat) : (nodeAt (N.modify d (fun x => x.put p j)) i).isDir = (nodeAt N i).isDir ∧ (nodeAt (N.modify d (fun x => x.put p j)) i).links = (nodeAt N i).links ∧ (nodeAt (N.modify d (fun x => x.put p j)) i).kind = (nodeAt N i).kind := by
  unfold nodeAt
  rw [List.getD, List.getElem?_modify, List.getD]
  cases hn : N[i]? with
  | none => simp
  | some y =>
    simp
    split
    · cases y <;> simp [Nd.put, Nd.isDir, Nd.links, Nd.kind]
    · simp
theorem more_slots {N : List Nd} (i d : Nat) (n : Int) : (nodeAt (N.modify d (fun x => x.more n)) i).slots = (nodeAt N i).slots := by
  unfold nodeAt
  rw [List.getD, List.getElem?_modify, List.getD]
  cases hn : N[i]? with
  | none => simp
  | some y =>
    simp
    split
    · cases y <;> simp [Nd.more, Nd.slots]
    · rfl
theorem put_tree (w : World) (t : Nat) (σ : Tr) (Ls : List Lay) (hT : TrAt w t σ Ls) (d : Nat) (p : List UInt8) (j j2 : Nat) (hd : d < σ.nodes.length) (hdk : (nodeAt σ.nodes d).isDir = true) (hlk : lookS (nodeAt σ.nodes d).slots p = some j2) (hp : p.length ≤ 1000) (hj : j < σ.nodes.length) :
    Calls Tryz.prog 59 #[ptrV (locL Ls d), strV p, ptrV (locL Ls j)] w fun e w' => e = .returned (.tuple #[]) ∧ TrAt w' t { σ with nodes := σ.nodes.modify d (fun x => x.put p j) } Ls ∧ Only (fun k => k ∈ feet t Ls) w w' := by
  obtain ⟨b, m, r, c, l, z, s, q1, q2, q3, q4, q5⟩ := hT.dirAt hd hdk
  have hnd : [b, m, r].Nodup := foot_nodup (List.nodup_cons.1 hT.apart).2 q1
  rw [q5] at hlk
  have hlt : nameAt s p < s.length := (at_look hlk).1
  rw [q4]
  refine (put_any w (locL Ls) b m r c l z s q3 hnd p hp hlt j).mono ?_
  rintro e w' ⟨h1, h2, h3⟩
  have htr : t ≠ r := fun e => (List.nodup_cons.1 hT.apart).1 (List.mem_flatMap.2 ⟨_, List.mem_of_getElem? q1, by rw [e]; simp [Lay.foot]⟩)
  have hfin := hT.turn (L' := .dir b m r c) (n' := .dir l z (s.set (nameAt s p) (some (j, p)))) (i' := σ.inodes) (b' := σ.blocks) q1 rfl (h3.mono (fun i _ hi => .inr (by rw [hi]; simp [Lay.foot])))
    ((h3.block t (lt_of_block hT.tree) htr).trans hT.tree) h2 (fun k hk => .inl hk) hnd (fun q hq => by
      rcases List.mem_or_eq_of_mem_set hq with h | h
      · exact hT.refs _ (List.mem_of_getElem? q2) q h
      · cases h; exact hj) (fun _ => rfl)
  have e2 : Ls.set d (.dir b m r c) = Ls := by
    apply List.ext_getElem?
    intro i
    by_cases hi : i = d
    · subst hi; rw [List.getElem?_set_self (List.getElem?_eq_some_iff.1 q1).1, q1]
    · rw [List.getElem?_set_ne (fun h => hi h.symm)]
  rw [e2] at hfin
  refine ⟨h1, ?_, h3.mono (fun i _ hi => mem_feet q1 (by rw [hi]; simp [Lay.foot]))⟩
  rw [modify_set q2]
  exact hfin
/-- The tree behind 'lose'. -/
def loseS (σ : Tr) (d j : Nat) : Tr := if (nodeAt σ.nodes j).isDir = true then loseT σ d j else if 0 < wrap64 ((nodeAt σ.nodes j).links - 1) then loseM σ j else loseL σ j
theorem lose_anyK (w : World) (t : Nat) (σ : Tr) (Ls : List Lay) (hT : TrAt w t σ Ls) (hOk : ∀ x ∈ σ.nodes, x.Ok) (d j : Nat) (p : ByteArray) (hd : d < σ.nodes.length) (hdk : (nodeAt σ.nodes d).isDir = true) (hj : j < σ.nodes.length) :
    Calls Tryz.prog 43 #[ptrV t, .agg #[ptrV (locL Ls d), .string p, ptrV (locL Ls j)]] w fun e w' => e = .returned (.tuple #[]) ∧ TrAt w' t (loseS σ d j) Ls ∧ Only (fun k => k ∈ feet t Ls) w w' := by
  unfold loseS
  rcases kind_two (nodeAt σ.nodes j) with ⟨h, _⟩ | ⟨h, _⟩
  · rw [if_pos h]
    exact lose_dirK w t σ Ls hT hOk d j p hd hdk hj h
  · rw [if_neg (by rw [h]; decide)]
    split
    · next hl => exact lose_moreK w t σ Ls hT hOk d j p hj h hl
    · next hl => exact lose_lastK w t σ Ls hT hOk d j p hj h hl
theorem leave_any (w : World) (t : Nat) (σ : Tr) (Ls : List Lay) (hT : TrAt w t σ Ls) (d : Nat) (p : List UInt8) (j d2 : Nat) (q : ByteArray) (y2 : Option Addr) (hd : d < σ.nodes.length) (hdk : (nodeAt σ.nodes d).isDir = true) (hlk : lookS (nodeAt σ.nodes d).slots p = some j) (hp : p.length ≤ 1000) (hj : j < σ.nodes.length) (hd2 : d2 < σ.nodes.length) (hd2k : (nodeAt σ.nodes d2).isDir = true) :
    Calls Tryz.prog 60 #[.agg #[ptrV (locL Ls d), strV p, ptrV (locL Ls j)], .agg #[ptrV (locL Ls d2), .string q, .pointer y2]] w fun e w' => e = .returned (.tuple #[]) ∧ TrAt w' t (leaveT σ d p j d2) Ls ∧ Only (fun k => k ∈ feet t Ls) w w' := by
  rcases kind_two (nodeAt σ.nodes j) with ⟨h, _⟩ | ⟨h, _⟩
  · exact leave_tree w t σ Ls hT d p j d2 q y2 hd hdk hlk hp hj h hd2 hd2k
  · exact leave_file w t σ Ls hT d p j d2 q y2 hd hdk hlk hp hj h
theorem loseS_len (σ : Tr) (d j : Nat) : (loseS σ d j).nodes.length = σ.nodes.length := by
  unfold loseS
  split
  · simp [loseT]
  · split <;> simp [loseM, loseL]
theorem loseS_kind (σ : Tr) (d j i : Nat) : (nodeAt (loseS σ d j).nodes i).isDir = (nodeAt σ.nodes i).isDir ∧ (nodeAt (loseS σ d j).nodes i).slots = (nodeAt σ.nodes i).slots := by
  unfold loseS
  split
  · exact ⟨(more_kind i d (-1)).2, more_slots i d (-1)⟩
  · split
    · exact ⟨(more_kind i j (-1)).2, more_slots i j (-1)⟩
    · exact ⟨(more_kind i j (-1)).2, more_slots i j (-1)⟩
/-- The tree behind 'moveOnto', where nothing is wrong. -/
def ontoT (σ : Tr) (d : Nat) (p : List UInt8) (j d2 : Nat) (q : List UInt8) (j2 : Nat) : Tr := leaveT (loseS { σ with nodes := σ.nodes.modify d2 (fun x => x.put q j) } d2 j2) d p j d2
/-- What 'moveOnto' answers. -/
def ontoE (σ : Tr) (j j2 : Nat) : Int := if j = j2 then 0 else if (nodeAt σ.nodes j).isDir = true ∧ (nodeAt σ.nodes j2).isDir = false then 12 else if (nodeAt σ.nodes j).isDir = false ∧ (nodeAt σ.nodes j2).isDir = true then 13 else if (nodeAt σ.nodes j2).isDir = true ∧ 0 < usedN (nodeAt σ.nodes j2).slots then 14 else 0
/-- What it makes of the tree. -/
def ontoR (σ : Tr) (d : Nat) (p : List UInt8) (j d2 : Nat) (q : List UInt8) (j2 : Nat) : Tr := if j = j2 ∨ ontoE σ j j2 ≠ 0 then σ else ontoT σ d p j d2 q j2
end Go.Proofs.YtehaoeclnmelhacGreat
namespace Go.Proofs.YtehaoeclnmelhacGreat
open Go Go.Proofs Go.RowKit Go.Shelf Go.Sort

set_option maxRecDepth 100000 in
set_option maxHeartbeats 4000000 in
theorem onto_same (w : World) (t : Nat) (σ : Tr) (Ls : List Lay) (hT : TrAt w t σ Ls) (d : Nat) (p : List UInt8) (j d2 : Nat) (q : List UInt8) (j2 : Nat) (hjj : j = j2) (hj : j < σ.nodes.length) :
    Calls Tryz.prog 46 #[ptrV t, .agg #[ptrV (locL Ls d), strV p, ptrV (locL Ls j)], .agg #[ptrV (locL Ls d2), strV q, ptrV (locL Ls j2)]] w fun e w' => e = .returned (.int .i64 0) ∧ Below w.heap.size w w' := by
  subst hjj
  have HK : Hid (∀ W, Below w.heap.size w W → W.cell? ⟨locL Ls j, 0, none⟩ = some (.int .i64 (nodeAt σ.nodes j).kind)) := Hid.mk (fun W hB => ((hT.below rfl hB).kindAt hj).1)
  generalize (nodeAt σ.nodes j).kind = kk at *
  clear hT
  unfold ptrV strV
  go_enter Tryz.func46, Tryz.ntmps46
  go_upto_region 1 with fail
  obtain ⟨X, hX⟩ : ∃ X, X = (w.alloc (.cells #[.pointer (some ⟨locL Ls d, 0, none⟩), .string (mkS p), .pointer (some ⟨locL Ls j, 0, none⟩)] 69)).alloc (.cells #[.pointer (some ⟨locL Ls d2, 0, none⟩), .string (mkS q), .pointer (some ⟨locL Ls j, 0, none⟩)] 69) := ⟨_, rfl⟩
  have hXB : Below w.heap.size w X := by rw [hX]; exact ((Below.refl _ w).alloc (Nat.le_refl _) _).alloc (by simp) _
  have hX0 : X.heap[w.heap.size]? = some (.cells #[.pointer (some ⟨locL Ls d, 0, none⟩), .string (mkS p), .pointer (some ⟨locL Ls j, 0, none⟩)] 69 (0, 0)) := by rw [hX, Below.heap_alloc _ _ _ (by simp)]; exact blk_new w _
  have hX1 : X.heap[w.heap.size + 1]? = some (.cells #[.pointer (some ⟨locL Ls d2, 0, none⟩), .string (mkS q), .pointer (some ⟨locL Ls j, 0, none⟩)] 69 (0, 0)) := by
    rw [hX]
    have := blk_new (w.alloc (.cells #[.pointer (some ⟨locL Ls d, 0, none⟩), .string (mkS p), .pointer (some ⟨locL Ls j, 0, none⟩)] 69)) (.cells #[.pointer (some ⟨locL Ls d2, 0, none⟩), .string (mkS q), .pointer (some ⟨locL Ls j, 0, none⟩)] 69)
    rwa [World.size_alloc] at this
  rw [← hX]
  clear hX
  have x2 := blk_cell hX0 2
  have y2 := blk_cell hX1 2
  simp at x2 y2
  have g0 := HK.out X hXB
  have hcmp := run_eql_node X (locL Ls j)
  have hcmp2 := run_eql_node X.drew (locL Ls j)
  have HXB := Hid.mk hXB
  have g1 := HK.out X.drew hXB.drew
  clear hX0 hX1 hXB HK
  go_region
  go_wp2
  go_ret
  exact ⟨rfl, HXB.out.drew⟩
set_option maxRecDepth 100000 in
set_option maxHeartbeats 4000000 in
theorem onto_notdir (w : World) (t : Nat) (σ : Tr) (Ls : List Lay) (hT : TrAt w t σ Ls) (d : Nat) (p : List UInt8) (j d2 : Nat) (q : List UInt8) (j2 : Nat) (hne : j ≠ j2) (hj : j < σ.nodes.length) (hj2 : j2 < σ.nodes.length) (hjk : (nodeAt σ.nodes j).isDir = true) (hj2k : (nodeAt σ.nodes j2).isDir = false) :
    Calls Tryz.prog 46 #[ptrV t, .agg #[ptrV (locL Ls d), strV p, ptrV (locL Ls j)], .agg #[ptrV (locL Ls d2), strV q, ptrV (locL Ls j2)]] w fun e w' => e = .returned (.int .i64 12) ∧ Below w.heap.size w w' := by
  have k1 : (nodeAt σ.nodes j).kind = 2 := by rcases kind_two (nodeAt σ.nodes j) with ⟨k, k'⟩ | ⟨k, k'⟩; exact k'; rw [hjk] at k; cases k
  have k2 : (nodeAt σ.nodes j2).kind = 1 := by rcases kind_two (nodeAt σ.nodes j2) with ⟨k, k'⟩ | ⟨k, k'⟩; rw [hj2k] at k; cases k; exact k'
  have HK : Hid (∀ W, Below w.heap.size w W → W.cell? ⟨locL Ls j, 0, none⟩ = some (.int .i64 2) ∧ W.cell? ⟨locL Ls j2, 0, none⟩ = some (.int .i64 1) ∧ _) := Hid.mk (fun W (hB : Below w.heap.size w W) => ⟨by have := ((hT.below rfl hB).kindAt hj).1; rwa [k1] at this, by have := ((hT.below rfl hB).kindAt hj2).1; rwa [k2] at this, run_eql_nodes (hT.below rfl hB) hj hj2 hne⟩)
  clear hT hne hj hj2 hjk hj2k k1 k2
  unfold ptrV strV
  go_enter Tryz.func46, Tryz.ntmps46
  go_upto_region 1 with fail
  obtain ⟨X, hX⟩ : ∃ X, X = (w.alloc (.cells #[.pointer (some ⟨locL Ls d, 0, none⟩), .string (mkS p), .pointer (some ⟨locL Ls j, 0, none⟩)] 69)).alloc (.cells #[.pointer (some ⟨locL Ls d2, 0, none⟩), .string (mkS q), .pointer (some ⟨locL Ls j2, 0, none⟩)] 69) := ⟨_, rfl⟩
  have hXB : Below w.heap.size w X := by rw [hX]; exact ((Below.refl _ w).alloc (Nat.le_refl _) _).alloc (by simp) _
  have hX0 : X.heap[w.heap.size]? = some (.cells #[.pointer (some ⟨locL Ls d, 0, none⟩), .string (mkS p), .pointer (some ⟨locL Ls j, 0, none⟩)] 69 (0, 0)) := by rw [hX, Below.heap_alloc _ _ _ (by simp)]; exact blk_new w _
  have hX1 : X.heap[w.heap.size + 1]? = some (.cells #[.pointer (some ⟨locL Ls d2, 0, none⟩), .string (mkS q), .pointer (some ⟨locL Ls j2, 0, none⟩)] 69 (0, 0)) := by
    rw [hX]
    have := blk_new (w.alloc (.cells #[.pointer (some ⟨locL Ls d, 0, none⟩), .string (mkS p), .pointer (some ⟨locL Ls j, 0, none⟩)] 69)) (.cells #[.pointer (some ⟨locL Ls d2, 0, none⟩), .string (mkS q), .pointer (some ⟨locL Ls j2, 0, none⟩)] 69)
    rwa [World.size_alloc] at this
  rw [← hX]
  clear hX
  have x2 := blk_cell hX0 2
  have y2 := blk_cell hX1 2
  simp at x2 y2
  obtain ⟨g0, g1, hcmp⟩ := HK.out X hXB
  obtain ⟨g2, g3, hcmp2⟩ := HK.out X.drew hXB.drew
  have HXB := Hid.mk hXB
  clear hX0 hX1 hXB HK
  go_region
  go_wp2
  go_ret
  exact ⟨rfl, HXB.out.drew⟩
set_option maxRecDepth 100000 in
set_option maxHeartbeats 4000000 in
theorem onto_isdir (w : World) (t : Nat) (σ : Tr) (Ls : List Lay) (hT : TrAt w t σ Ls) (d : Nat) (p : List UInt8) (j d2 : Nat) (q : List UInt8) (j2 : Nat) (hne : j ≠ j2) (hj : j < σ.nodes.length) (hj2 : j2 < σ.nodes.length) (hjk : (nodeAt σ.nodes j).isDir = false) (hj2k : (nodeAt σ.nodes j2).isDir = true) :
    Calls Tryz.prog 46 #[ptrV t, .agg #[ptrV (locL Ls d), strV p, ptrV (locL Ls j)], .agg #[ptrV (locL Ls d2), strV q, ptrV (locL Ls j2)]] w fun e w' => e = .returned (.int .i64 13) ∧ Below w.heap.size w w' := by
  have k1 : (nodeAt σ.nodes j).kind = 1 := by rcases kind_two (nodeAt σ.nodes j) with ⟨k, k'⟩ | ⟨k, k'⟩; rw [hjk] at k; cases k; exact k'
  have k2 : (nodeAt σ.nodes j2).kind = 2 := by rcases kind_two (nodeAt σ.nodes j2) with ⟨k, k'⟩ | ⟨k, k'⟩; exact k'; rw [hj2k] at k; cases k
  have HK : Hid (∀ W, Below w.heap.size w W → W.cell? ⟨locL Ls j, 0, none⟩ = some (.int .i64 1) ∧ W.cell? ⟨locL Ls j2, 0, none⟩ = some (.int .i64 2) ∧ _) := Hid.mk (fun W (hB : Below w.heap.size w W) => ⟨by have := ((hT.below rfl hB).kindAt hj).1; rwa [k1] at this, by have := ((hT.below rfl hB).kindAt hj2).1; rwa [k2] at this, run_eql_nodes (hT.below rfl hB) hj hj2 hne⟩)
  clear hT hne hj hj2 hjk hj2k k1 k2
  unfold ptrV strV
  go_enter Tryz.func46, Tryz.ntmps46
  go_upto_region 1 with fail
  obtain ⟨X, hX⟩ : ∃ X, X = (w.alloc (.cells #[.pointer (some ⟨locL Ls d, 0, none⟩), .string (mkS p), .pointer (some ⟨locL Ls j, 0, none⟩)] 69)).alloc (.cells #[.pointer (some ⟨locL Ls d2, 0, none⟩), .string (mkS q), .pointer (some ⟨locL Ls j2, 0, none⟩)] 69) := ⟨_, rfl⟩
  have hXB : Below w.heap.size w X := by rw [hX]; exact ((Below.refl _ w).alloc (Nat.le_refl _) _).alloc (by simp) _
  have hX0 : X.heap[w.heap.size]? = some (.cells #[.pointer (some ⟨locL Ls d, 0, none⟩), .string (mkS p), .pointer (some ⟨locL Ls j, 0, none⟩)] 69 (0, 0)) := by rw [hX, Below.heap_alloc _ _ _ (by simp)]; exact blk_new w _
  have hX1 : X.heap[w.heap.size + 1]? = some (.cells #[.pointer (some ⟨locL Ls d2, 0, none⟩), .string (mkS q), .pointer (some ⟨locL Ls j2, 0, none⟩)] 69 (0, 0)) := by
    rw [hX]
    have := blk_new (w.alloc (.cells #[.pointer (some ⟨locL Ls d, 0, none⟩), .string (mkS p), .pointer (some ⟨locL Ls j, 0, none⟩)] 69)) (.cells #[.pointer (some ⟨locL Ls d2, 0, none⟩), .string (mkS q), .pointer (some ⟨locL Ls j2, 0, none⟩)] 69)
    rwa [World.size_alloc] at this
  rw [← hX]
  clear hX
  have x2 := blk_cell hX0 2
  have y2 := blk_cell hX1 2
  simp at x2 y2
  obtain ⟨g0, g1, hcmp⟩ := HK.out X hXB
  obtain ⟨g2, g3, hcmp2⟩ := HK.out X.drew hXB.drew
  have HXB := Hid.mk hXB
  clear hX0 hX1 hXB HK
  go_region
  go_wp2
  go_ret
  exact ⟨rfl, HXB.out.drew⟩
set_option maxRecDepth 100000 in
set_option maxHeartbeats 4000000 in
theorem onto_full (w : World) (t : Nat) (σ : Tr) (Ls : List Lay) (hT : TrAt w t σ Ls) (d : Nat) (p : List UInt8) (j d2 : Nat) (q : List UInt8) (j2 : Nat) (hne : j ≠ j2) (hj : j < σ.nodes.length) (hj2 : j2 < σ.nodes.length) (hjk : (nodeAt σ.nodes j).isDir = true) (hj2k : (nodeAt σ.nodes j2).isDir = true) (hu : 0 < usedN (nodeAt σ.nodes j2).slots) :
    Calls Tryz.prog 46 #[ptrV t, .agg #[ptrV (locL Ls d), strV p, ptrV (locL Ls j)], .agg #[ptrV (locL Ls d2), strV q, ptrV (locL Ls j2)]] w fun e w' => e = .returned (.int .i64 14) ∧ Below w.heap.size w w' := by
  have k1 : (nodeAt σ.nodes j).kind = 2 := by rcases kind_two (nodeAt σ.nodes j) with ⟨k, k'⟩ | ⟨k, k'⟩; exact k'; rw [hjk] at k; cases k
  have k2 : (nodeAt σ.nodes j2).kind = 2 := by rcases kind_two (nodeAt σ.nodes j2) with ⟨k, k'⟩ | ⟨k, k'⟩; exact k'; rw [hj2k] at k; cases k
  have HPL : Hid (∀ W, Below w.heap.size w W → ∃ mj, W.cell? ⟨locL Ls j2, 5, none⟩ = some (.map (some mj)) ∧ (Builtin.len_ #[59] 3 #[.map (some mj)]).run Tryz.prog W = .ok (.int .i64 (usedN (nodeAt σ.nodes j2).slots : Nat)) W) := Hid.mk (fun W hB => by
    obtain ⟨b, m, r, c, l, z, sl, q1, q2, q3, q4, q5⟩ := (hT.below rfl hB).dirAt hj2 hj2k
    refine ⟨m, by rw [q4, blk_cell q3.node]; rfl, ?_⟩
    rw [q5]
    exact q3.places.len Tryz.underlying59 3)
  have hui : (0 : Int) < (usedN (nodeAt σ.nodes j2).slots : Nat) := by omega
  generalize usedN (nodeAt σ.nodes j2).slots = un at *
  clear hu
  have HK : Hid (∀ W, Below w.heap.size w W → W.cell? ⟨locL Ls j, 0, none⟩ = some (.int .i64 2) ∧ W.cell? ⟨locL Ls j2, 0, none⟩ = some (.int .i64 2) ∧ _) := Hid.mk (fun W (hB : Below w.heap.size w W) => ⟨by have := ((hT.below rfl hB).kindAt hj).1; rwa [k1] at this, by have := ((hT.below rfl hB).kindAt hj2).1; rwa [k2] at this, run_eql_nodes (hT.below rfl hB) hj hj2 hne⟩)
  clear hT hne hj hj2 hjk hj2k k1 k2
  unfold ptrV strV
  go_enter Tryz.func46, Tryz.ntmps46
  go_upto_region 1 with fail
  obtain ⟨X, hX⟩ : ∃ X, X = (w.alloc (.cells #[.pointer (some ⟨locL Ls d, 0, none⟩), .string (mkS p), .pointer (some ⟨locL Ls j, 0, none⟩)] 69)).alloc (.cells #[.pointer (some ⟨locL Ls d2, 0, none⟩), .string (mkS q), .pointer (some ⟨locL Ls j2, 0, none⟩)] 69) := ⟨_, rfl⟩
  have hXB : Below w.heap.size w X := by rw [hX]; exact ((Below.refl _ w).alloc (Nat.le_refl _) _).alloc (by simp) _
  have hX0 : X.heap[w.heap.size]? = some (.cells #[.pointer (some ⟨locL Ls d, 0, none⟩), .string (mkS p), .pointer (some ⟨locL Ls j, 0, none⟩)] 69 (0, 0)) := by rw [hX, Below.heap_alloc _ _ _ (by simp)]; exact blk_new w _
  have hX1 : X.heap[w.heap.size + 1]? = some (.cells #[.pointer (some ⟨locL Ls d2, 0, none⟩), .string (mkS q), .pointer (some ⟨locL Ls j2, 0, none⟩)] 69 (0, 0)) := by
    rw [hX]
    have := blk_new (w.alloc (.cells #[.pointer (some ⟨locL Ls d, 0, none⟩), .string (mkS p), .pointer (some ⟨locL Ls j, 0, none⟩)] 69)) (.cells #[.pointer (some ⟨locL Ls d2, 0, none⟩), .string (mkS q), .pointer (some ⟨locL Ls j2, 0, none⟩)] 69)
    rwa [World.size_alloc] at this
  rw [← hX]
  clear hX
  have x2 := blk_cell hX0 2
  have y2 := blk_cell hX1 2
  simp at x2 y2
  obtain ⟨g0, g1, hcmp⟩ := HK.out X hXB
  obtain ⟨g2, g3, hcmp2⟩ := HK.out X.drew hXB.drew
  obtain ⟨mj, p5, plen⟩ := HPL.out X hXB
  obtain ⟨mj2, p6, plen2⟩ := HPL.out X.drew hXB.drew
  clear HPL
  have HXB := Hid.mk hXB
  clear hX0 hX1 hXB HK
  go_region
  go_wp2
  go_ret
  exact ⟨rfl, HXB.out.drew⟩
set_option maxRecDepth 100000 in
set_option maxHeartbeats 4000000 in
theorem onto_file (w : World) (t : Nat) (σ : Tr) (Ls : List Lay) (hT : TrAt w t σ Ls) (hOk : ∀ x ∈ σ.nodes, x.Ok) (d : Nat) (p : List UInt8) (j d2 : Nat) (q : List UInt8) (j2 : Nat) (hne : j ≠ j2) (hd : d < σ.nodes.length) (hdk : (nodeAt σ.nodes d).isDir = true) (hlk : lookS (nodeAt σ.nodes d).slots p = some j) (hp : p.length ≤ 1000) (hj : j < σ.nodes.length) (hd2 : d2 < σ.nodes.length) (hd2k : (nodeAt σ.nodes d2).isDir = true) (hlq : lookS (nodeAt σ.nodes d2).slots q = some j2) (hq : q.length ≤ 1000) (hj2 : j2 < σ.nodes.length) (hjk : (nodeAt σ.nodes j).isDir = false) (hj2k : (nodeAt σ.nodes j2).isDir = false) :
    Calls Tryz.prog 46 #[ptrV t, .agg #[ptrV (locL Ls d), strV p, ptrV (locL Ls j)], .agg #[ptrV (locL Ls d2), strV q, ptrV (locL Ls j2)]] w fun e w' => e = .returned (.int .i64 0) ∧ TrAt w' t (ontoT σ d p j d2 q j2) Ls ∧ Only (fun k => k ∈ feet t Ls) w w' := by
  have k1 : (nodeAt σ.nodes j).kind = 1 := by rcases kind_two (nodeAt σ.nodes j) with ⟨k, k'⟩ | ⟨k, k'⟩; rw [hjk] at k; cases k; exact k'
  have k2 : (nodeAt σ.nodes j2).kind = 1 := by rcases kind_two (nodeAt σ.nodes j2) with ⟨k, k'⟩ | ⟨k, k'⟩; rw [hj2k] at k; cases k; exact k'
  have hlp : lookS (nodeAt (σ.nodes.modify d2 (fun x => x.put q j)) d).slots p = some j := by
    by_cases e : d = d2
    · subst e
      obtain ⟨b, m, r, c, l, z, s, q1, q2, q3, q4, q5⟩ := hT.dirAt hd hdk
      rw [q5] at hlk hlq
      have e5 : nodeAt (σ.nodes.modify d (fun x => x.put q j)) d = .dir l z (s.set (nameAt s q) (some (j, q))) := by
        rw [modify_set q2]
        unfold nodeAt
        rw [List.getD, List.getElem?_set_self (List.getElem?_eq_some_iff.1 q2).1]
        rfl
      rw [e5]
      by_cases e6 : p = q
      · subst e6; exact look_put_self q3.names j hlk
      · exact look_put q3.names j hlk hlq e6
    · rw [node_other _ e]; exact hlk
  have HK : Hid (∀ W, Below w.heap.size w W → W.cell? ⟨locL Ls j, 0, none⟩ = some (.int .i64 1) ∧ W.cell? ⟨locL Ls j2, 0, none⟩ = some (.int .i64 1) ∧ _) := Hid.mk (fun W (hB : Below w.heap.size w W) => ⟨by have := ((hT.below rfl hB).kindAt hj).1; rwa [k1] at this, by have := ((hT.below rfl hB).kindAt hj2).1; rwa [k2] at this, run_eql_nodes (hT.below rfl hB) hj hj2 hne⟩)
  have HPU : Hid (∀ W, Below w.heap.size w W → _) := Hid.mk (fun W (hB : Below w.heap.size w W) => put_tree W t σ Ls (hT.below rfl hB) d2 q j j2 hd2 hd2k hlq hq hj)
  have HLO : Hid (∀ W, TrAt W t { σ with nodes := σ.nodes.modify d2 (fun x => x.put q j) } Ls → _) := Hid.mk (fun W (hT1 : TrAt W t { σ with nodes := σ.nodes.modify d2 (fun x => x.put q j) } Ls) => lose_anyK W t { σ with nodes := σ.nodes.modify d2 (fun x => x.put q j) } Ls hT1 (put_ok' hOk d2 q j) d2 j2 (mkS q) (by simpa using hd2) (by rw [(putK_kind d2 d2 q j).1]; exact hd2k) (by simpa using hj2))
  have HLE : Hid (∀ W, TrAt W t (loseS { σ with nodes := σ.nodes.modify d2 (fun x => x.put q j) } d2 j2) Ls → _) := Hid.mk (fun W (hT1 : TrAt W t (loseS { σ with nodes := σ.nodes.modify d2 (fun x => x.put q j) } d2 j2) Ls) => leave_any W t _ Ls hT1 d p j d2 (mkS q) (some ⟨locL Ls j2, 0, none⟩) (by rw [loseS_len]; simpa using hd) (by rw [(loseS_kind _ _ _ _).1, (putK_kind d d2 q j).1]; exact hdk) (by rw [(loseS_kind _ _ _ _).2]; exact hlp) hp (by rw [loseS_len]; simpa using hj) (by rw [loseS_len]; simpa using hd2) (by rw [(loseS_kind _ _ _ _).1, (putK_kind d2 d2 q j).1]; exact hd2k))
  have HTL : Hid (∀ k ∈ feet t Ls, k < w.heap.size) := Hid.mk (fun k hk => hT.lt k hk)
  clear hT hOk hne hd hdk hlk hlp hp hj hd2 hd2k hlq hq hj2 hjk hj2k k1 k2
  unfold ptrV strV at HPU
  unfold ptrV at HLO
  unfold ptrV strV at HLE
  unfold ontoT
  unfold ptrV strV
  go_enter Tryz.func46, Tryz.ntmps46
  go_upto_region 1 with fail
  obtain ⟨X, hX⟩ : ∃ X, X = (w.alloc (.cells #[.pointer (some ⟨locL Ls d, 0, none⟩), .string (mkS p), .pointer (some ⟨locL Ls j, 0, none⟩)] 69)).alloc (.cells #[.pointer (some ⟨locL Ls d2, 0, none⟩), .string (mkS q), .pointer (some ⟨locL Ls j2, 0, none⟩)] 69) := ⟨_, rfl⟩
  have hXB : Below w.heap.size w X := by rw [hX]; exact ((Below.refl _ w).alloc (Nat.le_refl _) _).alloc (by simp) _
  have hX0 : X.heap[w.heap.size]? = some (.cells #[.pointer (some ⟨locL Ls d, 0, none⟩), .string (mkS p), .pointer (some ⟨locL Ls j, 0, none⟩)] 69 (0, 0)) := by rw [hX, Below.heap_alloc _ _ _ (by simp)]; exact blk_new w _
  have hX1 : X.heap[w.heap.size + 1]? = some (.cells #[.pointer (some ⟨locL Ls d2, 0, none⟩), .string (mkS q), .pointer (some ⟨locL Ls j2, 0, none⟩)] 69 (0, 0)) := by
    rw [hX]
    have := blk_new (w.alloc (.cells #[.pointer (some ⟨locL Ls d, 0, none⟩), .string (mkS p), .pointer (some ⟨locL Ls j, 0, none⟩)] 69)) (.cells #[.pointer (some ⟨locL Ls d2, 0, none⟩), .string (mkS q), .pointer (some ⟨locL Ls j2, 0, none⟩)] 69)
    rwa [World.size_alloc] at this
  rw [← hX]
  clear hX
  have x2 := blk_cell hX0 2
  have y2 := blk_cell hX1 2
  simp at x2 y2
  obtain ⟨g0, g1, hcmp⟩ := HK.out X hXB
  obtain ⟨g2, g3, hcmp2⟩ := HK.out X.drew hXB.drew
  have y0 := blk_cell hX1 0
  have y1 := blk_cell hX1 1
  simp at y0 y1
  have HXB := Hid.mk hXB
  have HX0 := Hid.mk hX0
  have HX1 := Hid.mk hX1
  clear hX0 hX1 hXB HK
  go_region
  go_upto_region 11 with (go_at_call 59; refine (HPU.out _ HXB.out.drew).mono ?_; rintro e' W1 ⟨rfl, hT1, ho1⟩; have HT1 := Hid.mk hT1; have HO1 : Hid (Only (fun k => k ∈ feet t Ls) X W1) := Hid.mk ((Only.of_new (fun k => k ∈ feet t Ls) (Below.refl _ X).drew).trans ho1 (fun i hi => .inl hi)); clear hT1 ho1)
  have hnf : ∀ k, w.heap.size ≤ k → k ∉ feet t Ls := fun k hk h => by have := HTL.out k h; omega
  have hz1 := (HO1.out.block (w.heap.size + 1) (lt_of_block HX1.out) (hnf _ (by omega))).trans HX1.out
  have hz0 := (HO1.out.block (w.heap.size) (lt_of_block HX0.out) (hnf _ (by omega))).trans HX0.out
  have v0 := blk_cell hz1 0
  have v1 := blk_cell hz1 1
  have v2 := blk_cell hz1 2
  simp at v0 v1 v2
  have HZ1 := Hid.mk hz1
  have HZ0 := Hid.mk hz0
  have HL1 := Hid.mk (HLO.out W1 HT1.out)
  clear hz1 hz0 y0 y1 x2 y2 g0 g1 g2 g3 hcmp hcmp2 HPU HLO 
  go_upto_region 12 with (go_at_call 43; refine HL1.out.mono ?_; rintro e' W2 ⟨rfl, hT2, ho2⟩; have HT2 := Hid.mk hT2; have HO2 := Hid.mk ho2; clear hT2 ho2)
  have hy1 := (HO2.out.block (w.heap.size + 1) (lt_of_block HZ1.out) (hnf _ (by omega))).trans HZ1.out
  have hy0 := (HO2.out.block (w.heap.size) (lt_of_block HZ0.out) (hnf _ (by omega))).trans HZ0.out
  have u0 := blk_cell hy1 0
  have u1 := blk_cell hy1 1
  have u2 := blk_cell hy1 2
  have w0 := blk_cell hy0 0
  have w1 := blk_cell hy0 1
  have w2 := blk_cell hy0 2
  simp at u0 u1 u2 w0 w1 w2
  have HL2 := Hid.mk (HLE.out W2 HT2.out)
  clear hy1 hy0 v0 v1 v2 HLE HL1 HZ1 HZ0
  go_wp2_with (go_at_call 60; refine HL2.out.mono ?_; rintro e' W3 ⟨rfl, hT3, ho3⟩; have HT3 := Hid.mk hT3; have HO3 := Hid.mk ho3; clear hT3 ho3)
  go_ret
  exact ⟨rfl, HT3.out, ((((Only.of_new (fun k => k ∈ feet t Ls) HXB.out).trans HO1.out (fun i hi => .inl hi)).trans HO2.out (fun i hi => .inl hi)).trans HO3.out (fun i hi => .inl hi))⟩
set_option maxRecDepth 100000 in
set_option maxHeartbeats 4000000 in
theorem onto_dir (w : World) (t : Nat) (σ : Tr) (Ls : List Lay) (hT : TrAt w t σ Ls) (hOk : ∀ x ∈ σ.nodes, x.Ok) (d : Nat) (p : List UInt8) (j d2 : Nat) (q : List UInt8) (j2 : Nat) (hne : j ≠ j2) (hd : d < σ.nodes.length) (hdk : (nodeAt σ.nodes d).isDir = true) (hlk : lookS (nodeAt σ.nodes d).slots p = some j) (hp : p.length ≤ 1000) (hj : j < σ.nodes.length) (hd2 : d2 < σ.nodes.length) (hd2k : (nodeAt σ.nodes d2).isDir = true) (hlq : lookS (nodeAt σ.nodes d2).slots q = some j2) (hq : q.length ≤ 1000) (hj2 : j2 < σ.nodes.length) (hjk : (nodeAt σ.nodes j).isDir = true) (hj2k : (nodeAt σ.nodes j2).isDir = true) (hu : ¬ 0 < usedN (nodeAt σ.nodes j2).slots) :
    Calls Tryz.prog 46 #[ptrV t, .agg #[ptrV (locL Ls d), strV p, ptrV (locL Ls j)], .agg #[ptrV (locL Ls d2), strV q, ptrV (locL Ls j2)]] w fun e w' => e = .returned (.int .i64 0) ∧ TrAt w' t (ontoT σ d p j d2 q j2) Ls ∧ Only (fun k => k ∈ feet t Ls) w w' := by
  have k1 : (nodeAt σ.nodes j).kind = 2 := by rcases kind_two (nodeAt σ.nodes j) with ⟨k, k'⟩ | ⟨k, k'⟩; exact k'; rw [hjk] at k; cases k
  have k2 : (nodeAt σ.nodes j2).kind = 2 := by rcases kind_two (nodeAt σ.nodes j2) with ⟨k, k'⟩ | ⟨k, k'⟩; exact k'; rw [hj2k] at k; cases k
  have HPL : Hid (∀ W, Below w.heap.size w W → ∃ mj, W.cell? ⟨locL Ls j2, 5, none⟩ = some (.map (some mj)) ∧ (Builtin.len_ #[59] 3 #[.map (some mj)]).run Tryz.prog W = .ok (.int .i64 (usedN (nodeAt σ.nodes j2).slots : Nat)) W) := Hid.mk (fun W hB => by
    obtain ⟨b, m, r, c, l, z, sl, q1, q2, q3, q4, q5⟩ := (hT.below rfl hB).dirAt hj2 hj2k
    refine ⟨m, by rw [q4, blk_cell q3.node]; rfl, ?_⟩
    rw [q5]
    exact q3.places.len Tryz.underlying59 3)
  have hui : ¬ (0 : Int) < (usedN (nodeAt σ.nodes j2).slots : Nat) := by omega
  generalize usedN (nodeAt σ.nodes j2).slots = un at *
  clear hu
  have hlp : lookS (nodeAt (σ.nodes.modify d2 (fun x => x.put q j)) d).slots p = some j := by
    by_cases e : d = d2
    · subst e
      obtain ⟨b, m, r, c, l, z, s, q1, q2, q3, q4, q5⟩ := hT.dirAt hd hdk
      rw [q5] at hlk hlq
      have e5 : nodeAt (σ.nodes.modify d (fun x => x.put q j)) d = .dir l z (s.set (nameAt s q) (some (j, q))) := by
        rw [modify_set q2]
        unfold nodeAt
        rw [List.getD, List.getElem?_set_self (List.getElem?_eq_some_iff.1 q2).1]
        rfl
      rw [e5]
      by_cases e6 : p = q
      · subst e6; exact look_put_self q3.names j hlk
      · exact look_put q3.names j hlk hlq e6
    · rw [node_other _ e]; exact hlk
  have HK : Hid (∀ W, Below w.heap.size w W → W.cell? ⟨locL Ls j, 0, none⟩ = some (.int .i64 2) ∧ W.cell? ⟨locL Ls j2, 0, none⟩ = some (.int .i64 2) ∧ _) := Hid.mk (fun W (hB : Below w.heap.size w W) => ⟨by have := ((hT.below rfl hB).kindAt hj).1; rwa [k1] at this, by have := ((hT.below rfl hB).kindAt hj2).1; rwa [k2] at this, run_eql_nodes (hT.below rfl hB) hj hj2 hne⟩)
  have HPU : Hid (∀ W, Below w.heap.size w W → _) := Hid.mk (fun W (hB : Below w.heap.size w W) => put_tree W t σ Ls (hT.below rfl hB) d2 q j j2 hd2 hd2k hlq hq hj)
  have HLO : Hid (∀ W, TrAt W t { σ with nodes := σ.nodes.modify d2 (fun x => x.put q j) } Ls → _) := Hid.mk (fun W (hT1 : TrAt W t { σ with nodes := σ.nodes.modify d2 (fun x => x.put q j) } Ls) => lose_anyK W t { σ with nodes := σ.nodes.modify d2 (fun x => x.put q j) } Ls hT1 (put_ok' hOk d2 q j) d2 j2 (mkS q) (by simpa using hd2) (by rw [(putK_kind d2 d2 q j).1]; exact hd2k) (by simpa using hj2))
  have HLE : Hid (∀ W, TrAt W t (loseS { σ with nodes := σ.nodes.modify d2 (fun x => x.put q j) } d2 j2) Ls → _) := Hid.mk (fun W (hT1 : TrAt W t (loseS { σ with nodes := σ.nodes.modify d2 (fun x => x.put q j) } d2 j2) Ls) => leave_any W t _ Ls hT1 d p j d2 (mkS q) (some ⟨locL Ls j2, 0, none⟩) (by rw [loseS_len]; simpa using hd) (by rw [(loseS_kind _ _ _ _).1, (putK_kind d d2 q j).1]; exact hdk) (by rw [(loseS_kind _ _ _ _).2]; exact hlp) hp (by rw [loseS_len]; simpa using hj) (by rw [loseS_len]; simpa using hd2) (by rw [(loseS_kind _ _ _ _).1, (putK_kind d2 d2 q j).1]; exact hd2k))
  have HTL : Hid (∀ k ∈ feet t Ls, k < w.heap.size) := Hid.mk (fun k hk => hT.lt k hk)
  clear hT hOk hne hd hdk hlk hlp hp hj hd2 hd2k hlq hq hj2 hjk hj2k k1 k2
  unfold ptrV strV at HPU
  unfold ptrV at HLO
  unfold ptrV strV at HLE
  unfold ontoT
  unfold ptrV strV
  go_enter Tryz.func46, Tryz.ntmps46
  go_upto_region 1 with fail
  obtain ⟨X, hX⟩ : ∃ X, X = (w.alloc (.cells #[.pointer (some ⟨locL Ls d, 0, none⟩), .string (mkS p), .pointer (some ⟨locL Ls j, 0, none⟩)] 69)).alloc (.cells #[.pointer (some ⟨locL Ls d2, 0, none⟩), .string (mkS q), .pointer (some ⟨locL Ls j2, 0, none⟩)] 69) := ⟨_, rfl⟩
  have hXB : Below w.heap.size w X := by rw [hX]; exact ((Below.refl _ w).alloc (Nat.le_refl _) _).alloc (by simp) _
  have hX0 : X.heap[w.heap.size]? = some (.cells #[.pointer (some ⟨locL Ls d, 0, none⟩), .string (mkS p), .pointer (some ⟨locL Ls j, 0, none⟩)] 69 (0, 0)) := by rw [hX, Below.heap_alloc _ _ _ (by simp)]; exact blk_new w _
  have hX1 : X.heap[w.heap.size + 1]? = some (.cells #[.pointer (some ⟨locL Ls d2, 0, none⟩), .string (mkS q), .pointer (some ⟨locL Ls j2, 0, none⟩)] 69 (0, 0)) := by
    rw [hX]
    have := blk_new (w.alloc (.cells #[.pointer (some ⟨locL Ls d, 0, none⟩), .string (mkS p), .pointer (some ⟨locL Ls j, 0, none⟩)] 69)) (.cells #[.pointer (some ⟨locL Ls d2, 0, none⟩), .string (mkS q), .pointer (some ⟨locL Ls j2, 0, none⟩)] 69)
    rwa [World.size_alloc] at this
  rw [← hX]
  clear hX
  have x2 := blk_cell hX0 2
  have y2 := blk_cell hX1 2
  simp at x2 y2
  obtain ⟨g0, g1, hcmp⟩ := HK.out X hXB
  obtain ⟨g2, g3, hcmp2⟩ := HK.out X.drew hXB.drew
  obtain ⟨mj, p5, plen⟩ := HPL.out X hXB
  obtain ⟨mj2, p6, plen2⟩ := HPL.out X.drew hXB.drew
  clear HPL
  have y0 := blk_cell hX1 0
  have y1 := blk_cell hX1 1
  simp at y0 y1
  have HXB := Hid.mk hXB
  have HX0 := Hid.mk hX0
  have HX1 := Hid.mk hX1
  clear hX0 hX1 hXB HK
  go_region
  go_upto_region 11 with (go_at_call 59; refine (HPU.out _ HXB.out.drew).mono ?_; rintro e' W1 ⟨rfl, hT1, ho1⟩; have HT1 := Hid.mk hT1; have HO1 : Hid (Only (fun k => k ∈ feet t Ls) X W1) := Hid.mk ((Only.of_new (fun k => k ∈ feet t Ls) (Below.refl _ X).drew).trans ho1 (fun i hi => .inl hi)); clear hT1 ho1)
  have hnf : ∀ k, w.heap.size ≤ k → k ∉ feet t Ls := fun k hk h => by have := HTL.out k h; omega
  have hz1 := (HO1.out.block (w.heap.size + 1) (lt_of_block HX1.out) (hnf _ (by omega))).trans HX1.out
  have hz0 := (HO1.out.block (w.heap.size) (lt_of_block HX0.out) (hnf _ (by omega))).trans HX0.out
  have v0 := blk_cell hz1 0
  have v1 := blk_cell hz1 1
  have v2 := blk_cell hz1 2
  simp at v0 v1 v2
  have HZ1 := Hid.mk hz1
  have HZ0 := Hid.mk hz0
  have HL1 := Hid.mk (HLO.out W1 HT1.out)
  clear hz1 hz0 y0 y1 x2 y2 g0 g1 g2 g3 hcmp hcmp2 HPU HLO p5 plen p6 plen2
  go_upto_region 12 with (go_at_call 43; refine HL1.out.mono ?_; rintro e' W2 ⟨rfl, hT2, ho2⟩; have HT2 := Hid.mk hT2; have HO2 := Hid.mk ho2; clear hT2 ho2)
  have hy1 := (HO2.out.block (w.heap.size + 1) (lt_of_block HZ1.out) (hnf _ (by omega))).trans HZ1.out
  have hy0 := (HO2.out.block (w.heap.size) (lt_of_block HZ0.out) (hnf _ (by omega))).trans HZ0.out
  have u0 := blk_cell hy1 0
  have u1 := blk_cell hy1 1
  have u2 := blk_cell hy1 2
  have w0 := blk_cell hy0 0
  have w1 := blk_cell hy0 1
  have w2 := blk_cell hy0 2
  simp at u0 u1 u2 w0 w1 w2
  have HL2 := Hid.mk (HLE.out W2 HT2.out)
  clear hy1 hy0 v0 v1 v2 HLE HL1 HZ1 HZ0
  go_wp2_with (go_at_call 60; refine HL2.out.mono ?_; rintro e' W3 ⟨rfl, hT3, ho3⟩; have HT3 := Hid.mk hT3; have HO3 := Hid.mk ho3; clear hT3 ho3)
  go_ret
  exact ⟨rfl, HT3.out, ((((Only.of_new (fun k => k ∈ feet t Ls) HXB.out).trans HO1.out (fun i hi => .inl hi)).trans HO2.out (fun i hi => .inl hi)).trans HO3.out (fun i hi => .inl hi))⟩
/-- moveOnto, whatever stands there. -/
theorem onto_any (w : World) (t : Nat) (σ : Tr) (Ls : List Lay) (hT : TrAt w t σ Ls) (hOk : ∀ x ∈ σ.nodes, x.Ok) (d : Nat) (p : List UInt8) (j d2 : Nat) (q : List UInt8) (j2 : Nat) (hd : d < σ.nodes.length) (hdk : (nodeAt σ.nodes d).isDir = true) (hlk : lookS (nodeAt σ.nodes d).slots p = some j) (hp : p.length ≤ 1000) (hj : j < σ.nodes.length) (hd2 : d2 < σ.nodes.length) (hd2k : (nodeAt σ.nodes d2).isDir = true) (hlq : lookS (nodeAt σ.nodes d2).slots q = some j2) (hq : q.length ≤ 1000) (hj2 : j2 < σ.nodes.length) :
    Calls Tryz.prog 46 #[ptrV t, .agg #[ptrV (locL Ls d), strV p, ptrV (locL Ls j)], .agg #[ptrV (locL Ls d2), strV q, ptrV (locL Ls j2)]] w fun e w' => e = .returned (.int .i64 (ontoE σ j j2)) ∧ StepL w t Ls w' (ontoR σ d p j d2 q j2) := by
  have still : ∀ w', Below w.heap.size w w' → StepL w t Ls w' σ := fun w' h => ⟨⟨Ls, hT.below rfl h, rfl, fun k hk => .inl hk⟩, Only.of_new (fun k => k ∈ feet t Ls) h⟩
  by_cases h0 : j = j2
  · have e1 : ontoE σ j j2 = 0 := by unfold ontoE; rw [if_pos h0]
    have e2 : ontoR σ d p j d2 q j2 = σ := by unfold ontoR; rw [if_pos (.inl h0)]
    rw [e1, e2]
    exact (onto_same w t σ Ls hT d p j d2 q j2 h0 hj).mono (fun e w' h => ⟨h.1, still w' h.2⟩)
  · rcases kind_two (nodeAt σ.nodes j) with ⟨a, _⟩ | ⟨a, _⟩ <;> rcases kind_two (nodeAt σ.nodes j2) with ⟨b, _⟩ | ⟨b, _⟩
    · by_cases hu : 0 < usedN (nodeAt σ.nodes j2).slots
      · have e1 : ontoE σ j j2 = 14 := by unfold ontoE; rw [if_neg h0, a, b]; simp [hu]
        have e2 : ontoR σ d p j d2 q j2 = σ := by unfold ontoR; rw [if_pos (.inr (by rw [e1]; decide))]
        rw [e1, e2]
        exact (onto_full w t σ Ls hT d p j d2 q j2 h0 hj hj2 a b hu).mono (fun e w' h => ⟨h.1, still w' h.2⟩)
      · have e1 : ontoE σ j j2 = 0 := by unfold ontoE; rw [if_neg h0, a, b]; simp [hu]
        have e2 : ontoR σ d p j d2 q j2 = ontoT σ d p j d2 q j2 := by unfold ontoR; rw [if_neg (by simp [h0, e1])]
        rw [e1, e2]
        exact (onto_dir w t σ Ls hT hOk d p j d2 q j2 h0 hd hdk hlk hp hj hd2 hd2k hlq hq hj2 a b hu).mono (fun e w' h => ⟨h.1, ⟨Ls, h.2.1, rfl, fun k hk => .inl hk⟩, h.2.2⟩)
    · have e1 : ontoE σ j j2 = 12 := by unfold ontoE; rw [if_neg h0, a, b]; simp
      have e2 : ontoR σ d p j d2 q j2 = σ := by unfold ontoR; rw [if_pos (.inr (by rw [e1]; decide))]
      rw [e1, e2]
      exact (onto_notdir w t σ Ls hT d p j d2 q j2 h0 hj hj2 a b).mono (fun e w' h => ⟨h.1, still w' h.2⟩)
    · have e1 : ontoE σ j j2 = 13 := by unfold ontoE; rw [if_neg h0, a, b]; simp
      have e2 : ontoR σ d p j d2 q j2 = σ := by unfold ontoR; rw [if_pos (.inr (by rw [e1]; decide))]
      rw [e1, e2]
      exact (onto_isdir w t σ Ls hT d p j d2 q j2 h0 hj hj2 a b).mono (fun e w' h => ⟨h.1, still w' h.2⟩)
    · have e1 : ontoE σ j j2 = 0 := by unfold ontoE; rw [if_neg h0, a, b]; simp
      have e2 : ontoR σ d p j d2 q j2 = ontoT σ d p j d2 q j2 := by unfold ontoR; rw [if_neg (by simp [h0, e1])]
      rw [e1, e2]
      exact (onto_file w t σ Ls hT hOk d p j d2 q j2 h0 hd hdk hlk hp hj hd2 hd2k hlq hq hj2 a b).mono (fun e w' h => ⟨h.1, ⟨Ls, h.2.1, rfl, fun k hk => .inl hk⟩, h.2.2⟩)
end Go.Proofs.YtehaoeclnmelhacGreat
namespace Go.Proofs.YtehaoeclnmelhacGreat
open Go Go.Proofs Go.RowKit Go.Shelf Go.Sort

theorem run_neq_node (W : World) (b : Nat) : (binOp .neq 49 (.pointer (some ⟨b, 0, none⟩)) (.pointer (some ⟨b, 0, none⟩))).run Tryz.prog W = .ok (.bool false) W := by
  obtain ⟨j, hj, _⟩ := infoNode2
  have h : ∀ d : Nat, (Op.equalIn (d + 1) 49 (.pointer (some ⟨b, 0, none⟩)) (.pointer (some ⟨b, 0, none⟩))).run Tryz.prog W = .ok true W := fun d => by
    simp [Op.equalIn, run_underlying Tryz.underlying49, sizeOf, typeInfo, hj, run_sameAddr_same]
  simp only [binOp]
  simp [Op.equal, Op.maxDepth, h 9999]
theorem free_ge {s : List Slt} {i a : Nat} {p : List UInt8} (h : s[i]? = some (some (a, p))) : freeAt s ≠ i := by
  intro e
  obtain ⟨hi, h1⟩ := List.getElem?_eq_some_iff.1 h
  have := List.findIdx_getElem (p := fun o : Slt => o.isNone) (xs := s) (w := by unfold freeAt at e; omega)
  unfold freeAt at e
  simp only [e, h1] at this
  cases this
/-- Another name keeps what it names where one is added. -/
theorem look_add {l z : Int} {s : List Slt} (h : namesOk s) {p q : List UInt8} {a : Nat} (j : Nat) (hp : lookS s p = some a) (hq : lookS s q = none) (hl : q.length ≤ 1000) : lookS ((Nd.dir l z s).add q j).slots p = some a := by
  obtain ⟨h1, h2⟩ := at_look hp
  have hqn : ¬ nameAt s q < s.length := fun hh => by
    obtain ⟨b, hb⟩ := name_get hh
    rw [look_at h hb] at hq
    cases hq
  simp only [Nd.add]
  split
  · refine look_at (i := nameAt s p) (names_add h hqn hl _ j) ?_
    rw [set_other (fun e => free_ge h2 e.symm)]
    exact h2
  · refine look_at (i := nameAt s p) (names_add (names_more h 32) (name_more 32 hqn) hl _ j) ?_
    rw [set_other (by omega), List.getElem?_append_left h1]
    exact h2
theorem look_add_tree {w : World} {t : Nat} {σ : Tr} {Ls : List Lay} (hT : TrAt w t σ Ls) {d : Nat} {p : List UInt8} {j d2 : Nat} {q : List UInt8} (hd : d < σ.nodes.length) (hdk : (nodeAt σ.nodes d).isDir = true) (hlk : lookS (nodeAt σ.nodes d).slots p = some j) (_hp : p.length ≤ 1000) (_hd2 : d2 < σ.nodes.length) (_hd2k : (nodeAt σ.nodes d2).isDir = true) (hno : lookS (nodeAt σ.nodes d2).slots q = none) (hq : q.length ≤ 1000) : lookS (nodeAt (σ.nodes.modify d2 (fun x => x.add q j)) d).slots p = some j := by
  by_cases e : d = d2
  · subst e
    obtain ⟨b, m, r, c, l, z, s, q1, q2, q3, q4, q5⟩ := hT.dirAt hd hdk
    rw [q5] at hlk hno
    have e5 : nodeAt (σ.nodes.modify d (fun x => x.add q j)) d = (Nd.dir l z s).add q j := by
      rw [modify_set q2]
      unfold nodeAt
      rw [List.getD, List.getElem?_set_self (List.getElem?_eq_some_iff.1 q2).1]
      rfl
    rw [e5]
    exact look_add q3.names j hlk hno hq
  · rw [node_other _ e]; exact hlk
set_option maxRecDepth 100000 in
set_option maxHeartbeats 4000000 in
theorem move_dir (w : World) (t : Nat) (σ : Tr) (Ls : List Lay) (hT : TrAt w t σ Ls) (hOk : ∀ x ∈ σ.nodes, x.Ok) (d : Nat) (p : List UInt8) (j d2 : Nat) (q : List UInt8) (hd : d < σ.nodes.length) (hdk : (nodeAt σ.nodes d).isDir = true) (hlk : lookS (nodeAt σ.nodes d).slots p = some j) (hp : p.length ≤ 1000) (hj : j < σ.nodes.length) (hjk : (nodeAt σ.nodes j).isDir = true) (hd2 : d2 < σ.nodes.length) (hd2k : (nodeAt σ.nodes d2).isDir = true) (hno : lookS (nodeAt σ.nodes d2).slots q = none) (hq : q.length ≤ 1000) (hne : d ≠ d2) (hl : (nodeAt σ.nodes d2).links < 32000) (hfit : fitsB σ.G σ.I σ.D σ.inodes σ.blocks 0 (nodeAt σ.nodes d2).growth = true) :
    Calls Tryz.prog 47 #[ptrV t, .agg #[ptrV (locL Ls d), strV p, ptrV (locL Ls j)], .agg #[ptrV (locL Ls d2), strV q, .pointer none]] w fun e w' => e = .returned (.int .i64 0) ∧ StepL w t Ls w' (moveT σ d p j d2 q) := by
  have k2 : (nodeAt σ.nodes j).kind = 2 := by rcases kind_two (nodeAt σ.nodes j) with ⟨_, k⟩ | ⟨k, _⟩; exact k; rw [hjk] at k; cases k
  have HNQ : Hid (∀ W, Below w.heap.size w W → _) := Hid.mk (fun W (hB : Below w.heap.size w W) => run_neq_nodes (hT.below rfl hB) hd2 hd (fun e => hne e.symm))
  have HGR : Hid (∀ W, Below w.heap.size w W → Calls Tryz.prog 39 #[ptrV (locL Ls d2)] W fun e w' => e = .returned (.int .i64 (nodeAt σ.nodes d2).growth) ∧ Below W.heap.size W w') := Hid.mk (fun W hB => by
    obtain ⟨b, m, r, c, l, z, s, q1, q2, q3, q4, q5⟩ := (hT.below rfl hB).dirAt hd2 hd2k
    have hdok : (Nd.dir l z s).Ok := hOk _ (List.mem_of_getElem? q2)
    rw [q4, q5]
    exact growth_any W (locL Ls) b m r c l z s q3 hdok.2.2 hdok.1 hdok.2.1)
  have HTK : Hid (∀ W, Below w.heap.size w W → Calls Tryz.prog 38 #[ptrV t, .int .i64 0, .int .i64 (nodeAt σ.nodes d2).growth] W fun e w' => e = .returned (.int .i64 0) ∧ TrAt w' t { σ with inodes := w64 (σ.inodes + 0), blocks := w64 (σ.blocks + (nodeAt σ.nodes d2).growth) } Ls ∧ Only (fun k => k = t) W w') := Hid.mk (fun W hB => by
    have hTW := hT.below rfl hB
    refine (take_any W t (locL Ls 0) σ.G σ.I σ.D σ.inodes σ.blocks hTW.tree 0 (nodeAt σ.nodes d2).growth).mono ?_
    rintro e w' (⟨h1, _, _⟩ | ⟨h1, h2, h3, h4⟩)
    · rw [hfit] at h1; cases h1
    · exact ⟨h2, hTW.count h4 h3, h4⟩)
  have hll : ∃ l2, (nodeAt σ.nodes d2).links = l2 := ⟨_, rfl⟩
  obtain ⟨l2, hl2⟩ := hll
  have hl3 : ¬ (32000 : Int) ≤ l2 := by omega
  have HK : Hid (∀ W, Below w.heap.size w W → W.cell? ⟨locL Ls j, 0, none⟩ = some (.int .i64 2) ∧ W.cell? ⟨locL Ls d2, 1, none⟩ = some (.int .i64 l2)) := Hid.mk (fun W hB => ⟨by have := ((hT.below rfl hB).kindAt hj).1; rwa [k2] at this, by have := ((hT.below rfl hB).kindAt hd2).2.1; rwa [hl2] at this⟩)
  have HLA : Hid (lookS (nodeAt (σ.nodes.modify d2 (fun x => x.add q j)) d).slots p = some j) := Hid.mk (look_add_tree hT hd hdk hlk hp hd2 hd2k hno hq)
  have HT := Hid.mk hT
  have HOK := Hid.mk hOk
  clear hT hOk hl hl2 hfit
  unfold ptrV at HGR HTK
  unfold ptrV strV
  go_enter Tryz.func47, Tryz.ntmps47
  go_upto_region 1 with fail
  obtain ⟨X, hX⟩ : ∃ X, X = (w.alloc (.cells #[.pointer (some ⟨locL Ls d, 0, none⟩), .string (mkS p), .pointer (some ⟨locL Ls j, 0, none⟩)] 69)).alloc (.cells #[.pointer (some ⟨locL Ls d2, 0, none⟩), .string (mkS q), .pointer none] 69) := ⟨_, rfl⟩
  have hXB : Below w.heap.size w X := by rw [hX]; exact ((Below.refl _ w).alloc (Nat.le_refl _) _).alloc (by simp) _
  have hX0 : X.heap[w.heap.size]? = some (.cells #[.pointer (some ⟨locL Ls d, 0, none⟩), .string (mkS p), .pointer (some ⟨locL Ls j, 0, none⟩)] 69 (0, 0)) := by rw [hX, Below.heap_alloc _ _ _ (by simp)]; exact blk_new w _
  have hX1 : X.heap[w.heap.size + 1]? = some (.cells #[.pointer (some ⟨locL Ls d2, 0, none⟩), .string (mkS q), .pointer none] 69 (0, 0)) := by
    rw [hX]
    have := blk_new (w.alloc (.cells #[.pointer (some ⟨locL Ls d, 0, none⟩), .string (mkS p), .pointer (some ⟨locL Ls j, 0, none⟩)] 69)) (.cells #[.pointer (some ⟨locL Ls d2, 0, none⟩), .string (mkS q), .pointer none] 69)
    rwa [World.size_alloc] at this
  rw [← hX]
  clear hX
  have x0 := blk_cell hX0 0
  have x2 := blk_cell hX0 2
  have y0 := blk_cell hX1 0
  simp at x0 x2 y0
  obtain ⟨g0, g1⟩ := HK.out X hXB
  have hcmp := HNQ.out X hXB
  have HX0 := Hid.mk hX0
  have HX1 := Hid.mk hX1
  have HXB := Hid.mk hXB
  clear hX0 hX1 hXB HK
  go_upto_region 4 with (first
    | (go_at_call 39; refine (HGR.out _ HXB.out).mono ?_; rintro e' Wg ⟨rfl, hbg⟩; have HG := Hid.mk hbg; clear hbg)
    | (go_at_call 38; refine (HTK.out _ (HXB.out.trans (HG.out.mono HXB.out.size))).mono ?_; rintro e' Wt ⟨rfl, hTt, hOt⟩; have HTt := Hid.mk hTt; have HOt := Hid.mk hOt; clear hTt hOt))
  have hnf : ∀ k, w.heap.size ≤ k → k ∉ feet t Ls := fun k hk h => by have := HT.out.lt k h; omega
  have htf : t ∈ feet t Ls := by simp [feet]
  have hXt : Only (fun k => k ∈ feet t Ls) X Wt := (Only.of_new (fun k => k ∈ feet t Ls) HG.out).trans (HOt.out.mono (fun i _ (hi : i = t) => by rw [hi]; exact htf)) (fun i hi => .inl hi)
  have hb0 := (hXt.block w.heap.size (lt_of_block HX0.out) (hnf _ (Nat.le_refl _))).trans HX0.out
  have hb1 := (hXt.block (w.heap.size + 1) (lt_of_block HX1.out) (hnf _ (by omega))).trans HX1.out
  have HON : Hid (Only (fun k => k ∈ feet t Ls) w Wt) := Hid.mk ((Only.of_new (fun k => k ∈ feet t Ls) HXB.out).trans hXt (fun i hi => .inl hi))
  have u2 := blk_cell hb0 2
  have v0 := blk_cell hb1 0
  have v1 := blk_cell hb1 1
  simp at u2 v0 v1
  have HAD := Hid.mk (add_tree Wt t _ Ls HTt.out HOK.out d2 q j hd2 hd2k hno hj hq)
  unfold ptrV strV at HAD
  have HB0 := Hid.mk hb0
  have HB1 := Hid.mk hb1
  have HSZ : Hid (w.heap.size + 1 < Wt.heap.size) := Hid.mk (lt_of_block hb1)
  clear hb0 hb1 hXt x0 x2 y0 g0 g1 hcmp HNQ HX0 HX1 HXB HGR HTK HG HOt
  go_upto_region 7 with (go_at_call 40; refine HAD.out.mono ?_; rintro e' Wa ⟨rfl, ⟨Ls', hTa, hLo, hFt⟩, hOa⟩; have HTa := Hid.mk hTa; have HLo := Hid.mk hLo; have HFt := Hid.mk hFt; have HOa := Hid.mk hOa; clear hTa hLo hFt hOa)
  have hc0 := (HOa.out.block w.heap.size (by have := HSZ.out; omega) (hnf _ (Nat.le_refl _))).trans HB0.out
  have hc1 := (HOa.out.block (w.heap.size + 1) HSZ.out (hnf _ (by omega))).trans HB1.out
  have u0 := blk_cell hc0 0
  have u1 := blk_cell hc0 1
  have u3 := blk_cell hc0 2
  have w0 := blk_cell hc1 0
  have w1 := blk_cell hc1 1
  have w2 := blk_cell hc1 2
  simp at u0 u1 u3 w0 w1 w2
  have HLV := Hid.mk (leave_any Wa t { σ with inodes := w64 (σ.inodes + 0), blocks := w64 (σ.blocks + (nodeAt σ.nodes d2).growth), nodes := σ.nodes.modify d2 (fun x => x.add q j) } Ls' HTa.out d p j d2 (mkS q) none (by simpa using hd) (by rw [add_kind]; exact hdk) (HLA.out) hp (by simpa using hj) (by simpa using hd2) (by rw [add_kind]; exact hd2k))
  rw [HLo.out] at HLV
  unfold ptrV strV at HLV
  clear hc0 hc1 u2 v0 v1 HB0 HB1 HAD
  go_wp2_with (go_at_call 60; refine HLV.out.mono ?_; rintro e' Wl ⟨rfl, hTl, hOl⟩; have HTl := Hid.mk hTl; have HOl := Hid.mk hOl; clear hTl hOl)
  go_ret
  refine ⟨rfl, ⟨Ls', HTl.out, HLo.out, fun k hk => ?_⟩, ?_⟩
  · rcases HFt.out k hk with h | h
    · exact .inl h
    · exact .inr (by have := HSZ.out; omega)
  · refine (HON.out.trans HOa.out (fun i hi => .inl hi)).trans HOl.out (fun i hi => ?_)
    rcases HFt.out i hi with h | h
    · exact .inl h
    · exact .inr (by have := HSZ.out; omega)
set_option maxRecDepth 100000 in
set_option maxHeartbeats 4000000 in
theorem move_same (w : World) (t : Nat) (σ : Tr) (Ls : List Lay) (hT : TrAt w t σ Ls) (hOk : ∀ x ∈ σ.nodes, x.Ok) (d : Nat) (p : List UInt8) (j d2 : Nat) (q : List UInt8) (hd : d < σ.nodes.length) (hdk : (nodeAt σ.nodes d).isDir = true) (hlk : lookS (nodeAt σ.nodes d).slots p = some j) (hp : p.length ≤ 1000) (hj : j < σ.nodes.length) (hjk : (nodeAt σ.nodes j).isDir = true) (hd2 : d2 < σ.nodes.length) (hd2k : (nodeAt σ.nodes d2).isDir = true) (hno : lookS (nodeAt σ.nodes d2).slots q = none) (hq : q.length ≤ 1000) (hsame : d = d2) (hfit : fitsB σ.G σ.I σ.D σ.inodes σ.blocks 0 (nodeAt σ.nodes d2).growth = true) :
    Calls Tryz.prog 47 #[ptrV t, .agg #[ptrV (locL Ls d), strV p, ptrV (locL Ls j)], .agg #[ptrV (locL Ls d2), strV q, .pointer none]] w fun e w' => e = .returned (.int .i64 0) ∧ StepL w t Ls w' (moveT σ d p j d2 q) := by
  subst hsame
  have k2 : (nodeAt σ.nodes j).kind = 2 := by rcases kind_two (nodeAt σ.nodes j) with ⟨_, k⟩ | ⟨k, _⟩; exact k; rw [hjk] at k; cases k
  have HNQ : Hid (∀ W, Below w.heap.size w W → _) := Hid.mk (fun W (hB : Below w.heap.size w W) => run_neq_node W (locL Ls d))
  have HGR : Hid (∀ W, Below w.heap.size w W → Calls Tryz.prog 39 #[ptrV (locL Ls d)] W fun e w' => e = .returned (.int .i64 (nodeAt σ.nodes d).growth) ∧ Below W.heap.size W w') := Hid.mk (fun W hB => by
    obtain ⟨b, m, r, c, l, z, s, q1, q2, q3, q4, q5⟩ := (hT.below rfl hB).dirAt hd2 hd2k
    have hdok : (Nd.dir l z s).Ok := hOk _ (List.mem_of_getElem? q2)
    rw [q4, q5]
    exact growth_any W (locL Ls) b m r c l z s q3 hdok.2.2 hdok.1 hdok.2.1)
  have HTK : Hid (∀ W, Below w.heap.size w W → Calls Tryz.prog 38 #[ptrV t, .int .i64 0, .int .i64 (nodeAt σ.nodes d).growth] W fun e w' => e = .returned (.int .i64 0) ∧ TrAt w' t { σ with inodes := w64 (σ.inodes + 0), blocks := w64 (σ.blocks + (nodeAt σ.nodes d).growth) } Ls ∧ Only (fun k => k = t) W w') := Hid.mk (fun W hB => by
    have hTW := hT.below rfl hB
    refine (take_any W t (locL Ls 0) σ.G σ.I σ.D σ.inodes σ.blocks hTW.tree 0 (nodeAt σ.nodes d).growth).mono ?_
    rintro e w' (⟨h1, _, _⟩ | ⟨h1, h2, h3, h4⟩)
    · rw [hfit] at h1; cases h1
    · exact ⟨h2, hTW.count h4 h3, h4⟩)
  have hll : ∃ l2, (nodeAt σ.nodes d).links = l2 := ⟨_, rfl⟩
  obtain ⟨l2, hl2⟩ := hll
  have HK : Hid (∀ W, Below w.heap.size w W → W.cell? ⟨locL Ls j, 0, none⟩ = some (.int .i64 2) ∧ W.cell? ⟨locL Ls d, 1, none⟩ = some (.int .i64 l2)) := Hid.mk (fun W hB => ⟨by have := ((hT.below rfl hB).kindAt hj).1; rwa [k2] at this, by have := ((hT.below rfl hB).kindAt hd2).2.1; rwa [hl2] at this⟩)
  have HLA : Hid (lookS (nodeAt (σ.nodes.modify d (fun x => x.add q j)) d).slots p = some j) := Hid.mk (look_add_tree hT hd hdk hlk hp hd2 hd2k hno hq)
  have HT := Hid.mk hT
  have HOK := Hid.mk hOk
  clear hT hOk hl2 hfit
  unfold ptrV at HGR HTK
  unfold ptrV strV
  go_enter Tryz.func47, Tryz.ntmps47
  go_upto_region 1 with fail
  obtain ⟨X, hX⟩ : ∃ X, X = (w.alloc (.cells #[.pointer (some ⟨locL Ls d, 0, none⟩), .string (mkS p), .pointer (some ⟨locL Ls j, 0, none⟩)] 69)).alloc (.cells #[.pointer (some ⟨locL Ls d, 0, none⟩), .string (mkS q), .pointer none] 69) := ⟨_, rfl⟩
  have hXB : Below w.heap.size w X := by rw [hX]; exact ((Below.refl _ w).alloc (Nat.le_refl _) _).alloc (by simp) _
  have hX0 : X.heap[w.heap.size]? = some (.cells #[.pointer (some ⟨locL Ls d, 0, none⟩), .string (mkS p), .pointer (some ⟨locL Ls j, 0, none⟩)] 69 (0, 0)) := by rw [hX, Below.heap_alloc _ _ _ (by simp)]; exact blk_new w _
  have hX1 : X.heap[w.heap.size + 1]? = some (.cells #[.pointer (some ⟨locL Ls d, 0, none⟩), .string (mkS q), .pointer none] 69 (0, 0)) := by
    rw [hX]
    have := blk_new (w.alloc (.cells #[.pointer (some ⟨locL Ls d, 0, none⟩), .string (mkS p), .pointer (some ⟨locL Ls j, 0, none⟩)] 69)) (.cells #[.pointer (some ⟨locL Ls d, 0, none⟩), .string (mkS q), .pointer none] 69)
    rwa [World.size_alloc] at this
  rw [← hX]
  clear hX
  have x0 := blk_cell hX0 0
  have x2 := blk_cell hX0 2
  have y0 := blk_cell hX1 0
  simp at x0 x2 y0
  obtain ⟨g0, g1⟩ := HK.out X hXB
  have hcmp := HNQ.out X hXB
  have HX0 := Hid.mk hX0
  have HX1 := Hid.mk hX1
  have HXB := Hid.mk hXB
  clear hX0 hX1 hXB HK
  go_upto_region 4 with (first
    | (go_at_call 39; refine (HGR.out _ HXB.out).mono ?_; rintro e' Wg ⟨rfl, hbg⟩; have HG := Hid.mk hbg; clear hbg)
    | (go_at_call 38; refine (HTK.out _ (HXB.out.trans (HG.out.mono HXB.out.size))).mono ?_; rintro e' Wt ⟨rfl, hTt, hOt⟩; have HTt := Hid.mk hTt; have HOt := Hid.mk hOt; clear hTt hOt))
  have hnf : ∀ k, w.heap.size ≤ k → k ∉ feet t Ls := fun k hk h => by have := HT.out.lt k h; omega
  have htf : t ∈ feet t Ls := by simp [feet]
  have hXt : Only (fun k => k ∈ feet t Ls) X Wt := (Only.of_new (fun k => k ∈ feet t Ls) HG.out).trans (HOt.out.mono (fun i _ (hi : i = t) => by rw [hi]; exact htf)) (fun i hi => .inl hi)
  have hb0 := (hXt.block w.heap.size (lt_of_block HX0.out) (hnf _ (Nat.le_refl _))).trans HX0.out
  have hb1 := (hXt.block (w.heap.size + 1) (lt_of_block HX1.out) (hnf _ (by omega))).trans HX1.out
  have HON : Hid (Only (fun k => k ∈ feet t Ls) w Wt) := Hid.mk ((Only.of_new (fun k => k ∈ feet t Ls) HXB.out).trans hXt (fun i hi => .inl hi))
  have u2 := blk_cell hb0 2
  have v0 := blk_cell hb1 0
  have v1 := blk_cell hb1 1
  simp at u2 v0 v1
  have HAD := Hid.mk (add_tree Wt t _ Ls HTt.out HOK.out d q j hd2 hd2k hno hj hq)
  unfold ptrV strV at HAD
  have HB0 := Hid.mk hb0
  have HB1 := Hid.mk hb1
  have HSZ : Hid (w.heap.size + 1 < Wt.heap.size) := Hid.mk (lt_of_block hb1)
  clear hb0 hb1 hXt x0 x2 y0 g0 g1 hcmp HNQ HX0 HX1 HXB HGR HTK HG HOt
  go_upto_region 7 with (go_at_call 40; refine HAD.out.mono ?_; rintro e' Wa ⟨rfl, ⟨Ls', hTa, hLo, hFt⟩, hOa⟩; have HTa := Hid.mk hTa; have HLo := Hid.mk hLo; have HFt := Hid.mk hFt; have HOa := Hid.mk hOa; clear hTa hLo hFt hOa)
  have hc0 := (HOa.out.block w.heap.size (by have := HSZ.out; omega) (hnf _ (Nat.le_refl _))).trans HB0.out
  have hc1 := (HOa.out.block (w.heap.size + 1) HSZ.out (hnf _ (by omega))).trans HB1.out
  have u0 := blk_cell hc0 0
  have u1 := blk_cell hc0 1
  have u3 := blk_cell hc0 2
  have w0 := blk_cell hc1 0
  have w1 := blk_cell hc1 1
  have w2 := blk_cell hc1 2
  simp at u0 u1 u3 w0 w1 w2
  have HLV := Hid.mk (leave_any Wa t { σ with inodes := w64 (σ.inodes + 0), blocks := w64 (σ.blocks + (nodeAt σ.nodes d).growth), nodes := σ.nodes.modify d (fun x => x.add q j) } Ls' HTa.out d p j d (mkS q) none (by simpa using hd) (by rw [add_kind]; exact hdk) (HLA.out) hp (by simpa using hj) (by simpa using hd2) (by rw [add_kind]; exact hd2k))
  rw [HLo.out] at HLV
  unfold ptrV strV at HLV
  clear hc0 hc1 u2 v0 v1 HB0 HB1 HAD
  go_wp2_with (go_at_call 60; refine HLV.out.mono ?_; rintro e' Wl ⟨rfl, hTl, hOl⟩; have HTl := Hid.mk hTl; have HOl := Hid.mk hOl; clear hTl hOl)
  go_ret
  refine ⟨rfl, ⟨Ls', HTl.out, HLo.out, fun k hk => ?_⟩, ?_⟩
  · rcases HFt.out k hk with h | h
    · exact .inl h
    · exact .inr (by have := HSZ.out; omega)
  · refine (HON.out.trans HOa.out (fun i hi => .inl hi)).trans HOl.out (fun i hi => ?_)
    rcases HFt.out i hi with h | h
    · exact .inl h
    · exact .inr (by have := HSZ.out; omega)
set_option maxRecDepth 100000 in
set_option maxHeartbeats 4000000 in
theorem move_file (w : World) (t : Nat) (σ : Tr) (Ls : List Lay) (hT : TrAt w t σ Ls) (hOk : ∀ x ∈ σ.nodes, x.Ok) (d : Nat) (p : List UInt8) (j d2 : Nat) (q : List UInt8) (hd : d < σ.nodes.length) (hdk : (nodeAt σ.nodes d).isDir = true) (hlk : lookS (nodeAt σ.nodes d).slots p = some j) (hp : p.length ≤ 1000) (hj : j < σ.nodes.length) (hjk : (nodeAt σ.nodes j).isDir = false) (hd2 : d2 < σ.nodes.length) (hd2k : (nodeAt σ.nodes d2).isDir = true) (hno : lookS (nodeAt σ.nodes d2).slots q = none) (hq : q.length ≤ 1000) (hfit : fitsB σ.G σ.I σ.D σ.inodes σ.blocks 0 (nodeAt σ.nodes d2).growth = true) :
    Calls Tryz.prog 47 #[ptrV t, .agg #[ptrV (locL Ls d), strV p, ptrV (locL Ls j)], .agg #[ptrV (locL Ls d2), strV q, .pointer none]] w fun e w' => e = .returned (.int .i64 0) ∧ StepL w t Ls w' (moveT σ d p j d2 q) := by
  have k2 : (nodeAt σ.nodes j).kind = 1 := by rcases kind_two (nodeAt σ.nodes j) with ⟨k, _⟩ | ⟨_, k⟩; rw [hjk] at k; cases k; exact k
  have HNQ : Hid (∀ W, Below w.heap.size w W → _) := Hid.mk (fun W (hB : Below w.heap.size w W) => run_neq_node W (locL Ls d))
  have HGR : Hid (∀ W, Below w.heap.size w W → Calls Tryz.prog 39 #[ptrV (locL Ls d2)] W fun e w' => e = .returned (.int .i64 (nodeAt σ.nodes d2).growth) ∧ Below W.heap.size W w') := Hid.mk (fun W hB => by
    obtain ⟨b, m, r, c, l, z, s, q1, q2, q3, q4, q5⟩ := (hT.below rfl hB).dirAt hd2 hd2k
    have hdok : (Nd.dir l z s).Ok := hOk _ (List.mem_of_getElem? q2)
    rw [q4, q5]
    exact growth_any W (locL Ls) b m r c l z s q3 hdok.2.2 hdok.1 hdok.2.1)
  have HTK : Hid (∀ W, Below w.heap.size w W → Calls Tryz.prog 38 #[ptrV t, .int .i64 0, .int .i64 (nodeAt σ.nodes d2).growth] W fun e w' => e = .returned (.int .i64 0) ∧ TrAt w' t { σ with inodes := w64 (σ.inodes + 0), blocks := w64 (σ.blocks + (nodeAt σ.nodes d2).growth) } Ls ∧ Only (fun k => k = t) W w') := Hid.mk (fun W hB => by
    have hTW := hT.below rfl hB
    refine (take_any W t (locL Ls 0) σ.G σ.I σ.D σ.inodes σ.blocks hTW.tree 0 (nodeAt σ.nodes d2).growth).mono ?_
    rintro e w' (⟨h1, _, _⟩ | ⟨h1, h2, h3, h4⟩)
    · rw [hfit] at h1; cases h1
    · exact ⟨h2, hTW.count h4 h3, h4⟩)
  have hll : ∃ l2, (nodeAt σ.nodes d2).links = l2 := ⟨_, rfl⟩
  obtain ⟨l2, hl2⟩ := hll
  have HK : Hid (∀ W, Below w.heap.size w W → W.cell? ⟨locL Ls j, 0, none⟩ = some (.int .i64 1) ∧ W.cell? ⟨locL Ls d2, 1, none⟩ = some (.int .i64 l2)) := Hid.mk (fun W hB => ⟨by have := ((hT.below rfl hB).kindAt hj).1; rwa [k2] at this, by have := ((hT.below rfl hB).kindAt hd2).2.1; rwa [hl2] at this⟩)
  have HLA : Hid (lookS (nodeAt (σ.nodes.modify d2 (fun x => x.add q j)) d).slots p = some j) := Hid.mk (look_add_tree hT hd hdk hlk hp hd2 hd2k hno hq)
  have HT := Hid.mk hT
  have HOK := Hid.mk hOk
  clear hT hOk hl2 hfit
  unfold ptrV at HGR HTK
  unfold ptrV strV
  go_enter Tryz.func47, Tryz.ntmps47
  go_upto_region 1 with fail
  obtain ⟨X, hX⟩ : ∃ X, X = (w.alloc (.cells #[.pointer (some ⟨locL Ls d, 0, none⟩), .string (mkS p), .pointer (some ⟨locL Ls j, 0, none⟩)] 69)).alloc (.cells #[.pointer (some ⟨locL Ls d2, 0, none⟩), .string (mkS q), .pointer none] 69) := ⟨_, rfl⟩
  have hXB : Below w.heap.size w X := by rw [hX]; exact ((Below.refl _ w).alloc (Nat.le_refl _) _).alloc (by simp) _
  have hX0 : X.heap[w.heap.size]? = some (.cells #[.pointer (some ⟨locL Ls d, 0, none⟩), .string (mkS p), .pointer (some ⟨locL Ls j, 0, none⟩)] 69 (0, 0)) := by rw [hX, Below.heap_alloc _ _ _ (by simp)]; exact blk_new w _
  have hX1 : X.heap[w.heap.size + 1]? = some (.cells #[.pointer (some ⟨locL Ls d2, 0, none⟩), .string (mkS q), .pointer none] 69 (0, 0)) := by
    rw [hX]
    have := blk_new (w.alloc (.cells #[.pointer (some ⟨locL Ls d, 0, none⟩), .string (mkS p), .pointer (some ⟨locL Ls j, 0, none⟩)] 69)) (.cells #[.pointer (some ⟨locL Ls d2, 0, none⟩), .string (mkS q), .pointer none] 69)
    rwa [World.size_alloc] at this
  rw [← hX]
  clear hX
  have x0 := blk_cell hX0 0
  have x2 := blk_cell hX0 2
  have y0 := blk_cell hX1 0
  simp at x0 x2 y0
  obtain ⟨g0, g1⟩ := HK.out X hXB
  have hcmp := HNQ.out X hXB
  have HX0 := Hid.mk hX0
  have HX1 := Hid.mk hX1
  have HXB := Hid.mk hXB
  clear hX0 hX1 hXB HK
  go_upto_region 4 with (first
    | (go_at_call 39; refine (HGR.out _ HXB.out).mono ?_; rintro e' Wg ⟨rfl, hbg⟩; have HG := Hid.mk hbg; clear hbg)
    | (go_at_call 38; refine (HTK.out _ (HXB.out.trans (HG.out.mono HXB.out.size))).mono ?_; rintro e' Wt ⟨rfl, hTt, hOt⟩; have HTt := Hid.mk hTt; have HOt := Hid.mk hOt; clear hTt hOt))
  have hnf : ∀ k, w.heap.size ≤ k → k ∉ feet t Ls := fun k hk h => by have := HT.out.lt k h; omega
  have htf : t ∈ feet t Ls := by simp [feet]
  have hXt : Only (fun k => k ∈ feet t Ls) X Wt := (Only.of_new (fun k => k ∈ feet t Ls) HG.out).trans (HOt.out.mono (fun i _ (hi : i = t) => by rw [hi]; exact htf)) (fun i hi => .inl hi)
  have hb0 := (hXt.block w.heap.size (lt_of_block HX0.out) (hnf _ (Nat.le_refl _))).trans HX0.out
  have hb1 := (hXt.block (w.heap.size + 1) (lt_of_block HX1.out) (hnf _ (by omega))).trans HX1.out
  have HON : Hid (Only (fun k => k ∈ feet t Ls) w Wt) := Hid.mk ((Only.of_new (fun k => k ∈ feet t Ls) HXB.out).trans hXt (fun i hi => .inl hi))
  have u2 := blk_cell hb0 2
  have v0 := blk_cell hb1 0
  have v1 := blk_cell hb1 1
  simp at u2 v0 v1
  have HAD := Hid.mk (add_tree Wt t _ Ls HTt.out HOK.out d2 q j hd2 hd2k hno hj hq)
  unfold ptrV strV at HAD
  have HB0 := Hid.mk hb0
  have HB1 := Hid.mk hb1
  have HSZ : Hid (w.heap.size + 1 < Wt.heap.size) := Hid.mk (lt_of_block hb1)
  clear hb0 hb1 hXt x0 x2 y0 g0 g1 hcmp HNQ HX0 HX1 HXB HGR HTK HG HOt
  go_upto_region 7 with (go_at_call 40; refine HAD.out.mono ?_; rintro e' Wa ⟨rfl, ⟨Ls', hTa, hLo, hFt⟩, hOa⟩; have HTa := Hid.mk hTa; have HLo := Hid.mk hLo; have HFt := Hid.mk hFt; have HOa := Hid.mk hOa; clear hTa hLo hFt hOa)
  have hc0 := (HOa.out.block w.heap.size (by have := HSZ.out; omega) (hnf _ (Nat.le_refl _))).trans HB0.out
  have hc1 := (HOa.out.block (w.heap.size + 1) HSZ.out (hnf _ (by omega))).trans HB1.out
  have u0 := blk_cell hc0 0
  have u1 := blk_cell hc0 1
  have u3 := blk_cell hc0 2
  have w0 := blk_cell hc1 0
  have w1 := blk_cell hc1 1
  have w2 := blk_cell hc1 2
  simp at u0 u1 u3 w0 w1 w2
  have HLV := Hid.mk (leave_any Wa t { σ with inodes := w64 (σ.inodes + 0), blocks := w64 (σ.blocks + (nodeAt σ.nodes d2).growth), nodes := σ.nodes.modify d2 (fun x => x.add q j) } Ls' HTa.out d p j d2 (mkS q) none (by simpa using hd) (by rw [add_kind]; exact hdk) (HLA.out) hp (by simpa using hj) (by simpa using hd2) (by rw [add_kind]; exact hd2k))
  rw [HLo.out] at HLV
  unfold ptrV strV at HLV
  clear hc0 hc1 u2 v0 v1 HB0 HB1 HAD
  go_wp2_with (go_at_call 60; refine HLV.out.mono ?_; rintro e' Wl ⟨rfl, hTl, hOl⟩; have HTl := Hid.mk hTl; have HOl := Hid.mk hOl; clear hTl hOl)
  go_ret
  refine ⟨rfl, ⟨Ls', HTl.out, HLo.out, fun k hk => ?_⟩, ?_⟩
  · rcases HFt.out k hk with h | h
    · exact .inl h
    · exact .inr (by have := HSZ.out; omega)
  · refine (HON.out.trans HOa.out (fun i hi => .inl hi)).trans HOl.out (fun i hi => ?_)
    rcases HFt.out i hi with h | h
    · exact .inl h
    · exact .inr (by have := HSZ.out; omega)
set_option maxRecDepth 100000 in
set_option maxHeartbeats 4000000 in
theorem move_dir_no (w : World) (t : Nat) (σ : Tr) (Ls : List Lay) (hT : TrAt w t σ Ls) (hOk : ∀ x ∈ σ.nodes, x.Ok) (d : Nat) (p : List UInt8) (j d2 : Nat) (q : List UInt8) (hd : d < σ.nodes.length) (hdk : (nodeAt σ.nodes d).isDir = true) (hlk : lookS (nodeAt σ.nodes d).slots p = some j) (hp : p.length ≤ 1000) (hj : j < σ.nodes.length) (hjk : (nodeAt σ.nodes j).isDir = true) (hd2 : d2 < σ.nodes.length) (hd2k : (nodeAt σ.nodes d2).isDir = true) (hno : lookS (nodeAt σ.nodes d2).slots q = none) (hq : q.length ≤ 1000) (hne : d ≠ d2) (hl : (nodeAt σ.nodes d2).links < 32000) (hfit : fitsB σ.G σ.I σ.D σ.inodes σ.blocks 0 (nodeAt σ.nodes d2).growth = false) :
    Calls Tryz.prog 47 #[ptrV t, .agg #[ptrV (locL Ls d), strV p, ptrV (locL Ls j)], .agg #[ptrV (locL Ls d2), strV q, .pointer none]] w fun e w' => e = .returned (.int .i64 16) ∧ Below w.heap.size w w' := by
  have k2 : (nodeAt σ.nodes j).kind = 2 := by rcases kind_two (nodeAt σ.nodes j) with ⟨_, k⟩ | ⟨k, _⟩; exact k; rw [hjk] at k; cases k
  have HNQ : Hid (∀ W, Below w.heap.size w W → _) := Hid.mk (fun W (hB : Below w.heap.size w W) => run_neq_nodes (hT.below rfl hB) hd2 hd (fun e => hne e.symm))
  have HGR : Hid (∀ W, Below w.heap.size w W → Calls Tryz.prog 39 #[ptrV (locL Ls d2)] W fun e w' => e = .returned (.int .i64 (nodeAt σ.nodes d2).growth) ∧ Below W.heap.size W w') := Hid.mk (fun W hB => by
    obtain ⟨b, m, r, c, l, z, s, q1, q2, q3, q4, q5⟩ := (hT.below rfl hB).dirAt hd2 hd2k
    have hdok : (Nd.dir l z s).Ok := hOk _ (List.mem_of_getElem? q2)
    rw [q4, q5]
    exact growth_any W (locL Ls) b m r c l z s q3 hdok.2.2 hdok.1 hdok.2.1)
  have HTK : Hid (∀ W, Below w.heap.size w W → Calls Tryz.prog 38 #[ptrV t, .int .i64 0, .int .i64 (nodeAt σ.nodes d2).growth] W fun e w' => e = .returned (.int .i64 16) ∧ Below W.heap.size W w') := Hid.mk (fun W hB => by
    have hTW := hT.below rfl hB
    refine (take_any W t (locL Ls 0) σ.G σ.I σ.D σ.inodes σ.blocks hTW.tree 0 (nodeAt σ.nodes d2).growth).mono ?_
    rintro e w' (⟨h1, h2, h3⟩ | ⟨h1, _, _, _⟩)
    · exact ⟨h2, h3⟩
    · rw [hfit] at h1; cases h1)
  have hll : ∃ l2, (nodeAt σ.nodes d2).links = l2 := ⟨_, rfl⟩
  obtain ⟨l2, hl2⟩ := hll
  have hl3 : ¬ (32000 : Int) ≤ l2 := by omega
  have HK : Hid (∀ W, Below w.heap.size w W → W.cell? ⟨locL Ls j, 0, none⟩ = some (.int .i64 2) ∧ W.cell? ⟨locL Ls d2, 1, none⟩ = some (.int .i64 l2)) := Hid.mk (fun W hB => ⟨by have := ((hT.below rfl hB).kindAt hj).1; rwa [k2] at this, by have := ((hT.below rfl hB).kindAt hd2).2.1; rwa [hl2] at this⟩)
  have HLA : Hid (lookS (nodeAt (σ.nodes.modify d2 (fun x => x.add q j)) d).slots p = some j) := Hid.mk (look_add_tree hT hd hdk hlk hp hd2 hd2k hno hq)
  have HT := Hid.mk hT
  have HOK := Hid.mk hOk
  clear hT hOk hl hl2 hfit
  unfold ptrV at HGR HTK
  unfold ptrV strV
  go_enter Tryz.func47, Tryz.ntmps47
  go_upto_region 1 with fail
  obtain ⟨X, hX⟩ : ∃ X, X = (w.alloc (.cells #[.pointer (some ⟨locL Ls d, 0, none⟩), .string (mkS p), .pointer (some ⟨locL Ls j, 0, none⟩)] 69)).alloc (.cells #[.pointer (some ⟨locL Ls d2, 0, none⟩), .string (mkS q), .pointer none] 69) := ⟨_, rfl⟩
  have hXB : Below w.heap.size w X := by rw [hX]; exact ((Below.refl _ w).alloc (Nat.le_refl _) _).alloc (by simp) _
  have hX0 : X.heap[w.heap.size]? = some (.cells #[.pointer (some ⟨locL Ls d, 0, none⟩), .string (mkS p), .pointer (some ⟨locL Ls j, 0, none⟩)] 69 (0, 0)) := by rw [hX, Below.heap_alloc _ _ _ (by simp)]; exact blk_new w _
  have hX1 : X.heap[w.heap.size + 1]? = some (.cells #[.pointer (some ⟨locL Ls d2, 0, none⟩), .string (mkS q), .pointer none] 69 (0, 0)) := by
    rw [hX]
    have := blk_new (w.alloc (.cells #[.pointer (some ⟨locL Ls d, 0, none⟩), .string (mkS p), .pointer (some ⟨locL Ls j, 0, none⟩)] 69)) (.cells #[.pointer (some ⟨locL Ls d2, 0, none⟩), .string (mkS q), .pointer none] 69)
    rwa [World.size_alloc] at this
  rw [← hX]
  clear hX
  have x0 := blk_cell hX0 0
  have x2 := blk_cell hX0 2
  have y0 := blk_cell hX1 0
  simp at x0 x2 y0
  obtain ⟨g0, g1⟩ := HK.out X hXB
  have hcmp := HNQ.out X hXB
  have HX0 := Hid.mk hX0
  have HX1 := Hid.mk hX1
  have HXB := Hid.mk hXB
  clear hX0 hX1 hXB HK
  go_wp2_with (first
    | (go_at_call 39; refine (HGR.out _ HXB.out).mono ?_; rintro e' Wg ⟨rfl, hbg⟩; have HG := Hid.mk hbg; clear hbg)
    | (go_at_call 38; refine (HTK.out _ (HXB.out.trans (HG.out.mono HXB.out.size))).mono ?_; rintro e' Wt ⟨rfl, hBt⟩; have HBt := Hid.mk hBt; clear hBt))
  go_ret
  exact ⟨rfl, (HXB.out.trans (HG.out.mono HXB.out.size)).trans (HBt.out.mono (HXB.out.trans (HG.out.mono HXB.out.size)).size)⟩
set_option maxRecDepth 100000 in
set_option maxHeartbeats 4000000 in
theorem move_same_no (w : World) (t : Nat) (σ : Tr) (Ls : List Lay) (hT : TrAt w t σ Ls) (hOk : ∀ x ∈ σ.nodes, x.Ok) (d : Nat) (p : List UInt8) (j d2 : Nat) (q : List UInt8) (hd : d < σ.nodes.length) (hdk : (nodeAt σ.nodes d).isDir = true) (hlk : lookS (nodeAt σ.nodes d).slots p = some j) (hp : p.length ≤ 1000) (hj : j < σ.nodes.length) (hjk : (nodeAt σ.nodes j).isDir = true) (hd2 : d2 < σ.nodes.length) (hd2k : (nodeAt σ.nodes d2).isDir = true) (hno : lookS (nodeAt σ.nodes d2).slots q = none) (hq : q.length ≤ 1000) (hsame : d = d2) (hfit : fitsB σ.G σ.I σ.D σ.inodes σ.blocks 0 (nodeAt σ.nodes d2).growth = false) :
    Calls Tryz.prog 47 #[ptrV t, .agg #[ptrV (locL Ls d), strV p, ptrV (locL Ls j)], .agg #[ptrV (locL Ls d2), strV q, .pointer none]] w fun e w' => e = .returned (.int .i64 16) ∧ Below w.heap.size w w' := by
  subst hsame
  have k2 : (nodeAt σ.nodes j).kind = 2 := by rcases kind_two (nodeAt σ.nodes j) with ⟨_, k⟩ | ⟨k, _⟩; exact k; rw [hjk] at k; cases k
  have HNQ : Hid (∀ W, Below w.heap.size w W → _) := Hid.mk (fun W (hB : Below w.heap.size w W) => run_neq_node W (locL Ls d))
  have HGR : Hid (∀ W, Below w.heap.size w W → Calls Tryz.prog 39 #[ptrV (locL Ls d)] W fun e w' => e = .returned (.int .i64 (nodeAt σ.nodes d).growth) ∧ Below W.heap.size W w') := Hid.mk (fun W hB => by
    obtain ⟨b, m, r, c, l, z, s, q1, q2, q3, q4, q5⟩ := (hT.below rfl hB).dirAt hd2 hd2k
    have hdok : (Nd.dir l z s).Ok := hOk _ (List.mem_of_getElem? q2)
    rw [q4, q5]
    exact growth_any W (locL Ls) b m r c l z s q3 hdok.2.2 hdok.1 hdok.2.1)
  have HTK : Hid (∀ W, Below w.heap.size w W → Calls Tryz.prog 38 #[ptrV t, .int .i64 0, .int .i64 (nodeAt σ.nodes d).growth] W fun e w' => e = .returned (.int .i64 16) ∧ Below W.heap.size W w') := Hid.mk (fun W hB => by
    have hTW := hT.below rfl hB
    refine (take_any W t (locL Ls 0) σ.G σ.I σ.D σ.inodes σ.blocks hTW.tree 0 (nodeAt σ.nodes d).growth).mono ?_
    rintro e w' (⟨h1, h2, h3⟩ | ⟨h1, _, _, _⟩)
    · exact ⟨h2, h3⟩
    · rw [hfit] at h1; cases h1)
  have hll : ∃ l2, (nodeAt σ.nodes d).links = l2 := ⟨_, rfl⟩
  obtain ⟨l2, hl2⟩ := hll
  have HK : Hid (∀ W, Below w.heap.size w W → W.cell? ⟨locL Ls j, 0, none⟩ = some (.int .i64 2) ∧ W.cell? ⟨locL Ls d, 1, none⟩ = some (.int .i64 l2)) := Hid.mk (fun W hB => ⟨by have := ((hT.below rfl hB).kindAt hj).1; rwa [k2] at this, by have := ((hT.below rfl hB).kindAt hd2).2.1; rwa [hl2] at this⟩)
  have HLA : Hid (lookS (nodeAt (σ.nodes.modify d (fun x => x.add q j)) d).slots p = some j) := Hid.mk (look_add_tree hT hd hdk hlk hp hd2 hd2k hno hq)
  have HT := Hid.mk hT
  have HOK := Hid.mk hOk
  clear hT hOk hl2 hfit
  unfold ptrV at HGR HTK
  unfold ptrV strV
  go_enter Tryz.func47, Tryz.ntmps47
  go_upto_region 1 with fail
  obtain ⟨X, hX⟩ : ∃ X, X = (w.alloc (.cells #[.pointer (some ⟨locL Ls d, 0, none⟩), .string (mkS p), .pointer (some ⟨locL Ls j, 0, none⟩)] 69)).alloc (.cells #[.pointer (some ⟨locL Ls d, 0, none⟩), .string (mkS q), .pointer none] 69) := ⟨_, rfl⟩
  have hXB : Below w.heap.size w X := by rw [hX]; exact ((Below.refl _ w).alloc (Nat.le_refl _) _).alloc (by simp) _
  have hX0 : X.heap[w.heap.size]? = some (.cells #[.pointer (some ⟨locL Ls d, 0, none⟩), .string (mkS p), .pointer (some ⟨locL Ls j, 0, none⟩)] 69 (0, 0)) := by rw [hX, Below.heap_alloc _ _ _ (by simp)]; exact blk_new w _
  have hX1 : X.heap[w.heap.size + 1]? = some (.cells #[.pointer (some ⟨locL Ls d, 0, none⟩), .string (mkS q), .pointer none] 69 (0, 0)) := by
    rw [hX]
    have := blk_new (w.alloc (.cells #[.pointer (some ⟨locL Ls d, 0, none⟩), .string (mkS p), .pointer (some ⟨locL Ls j, 0, none⟩)] 69)) (.cells #[.pointer (some ⟨locL Ls d, 0, none⟩), .string (mkS q), .pointer none] 69)
    rwa [World.size_alloc] at this
  rw [← hX]
  clear hX
  have x0 := blk_cell hX0 0
  have x2 := blk_cell hX0 2
  have y0 := blk_cell hX1 0
  simp at x0 x2 y0
  obtain ⟨g0, g1⟩ := HK.out X hXB
  have hcmp := HNQ.out X hXB
  have HX0 := Hid.mk hX0
  have HX1 := Hid.mk hX1
  have HXB := Hid.mk hXB
  clear hX0 hX1 hXB HK
  go_wp2_with (first
    | (go_at_call 39; refine (HGR.out _ HXB.out).mono ?_; rintro e' Wg ⟨rfl, hbg⟩; have HG := Hid.mk hbg; clear hbg)
    | (go_at_call 38; refine (HTK.out _ (HXB.out.trans (HG.out.mono HXB.out.size))).mono ?_; rintro e' Wt ⟨rfl, hBt⟩; have HBt := Hid.mk hBt; clear hBt))
  go_ret
  exact ⟨rfl, (HXB.out.trans (HG.out.mono HXB.out.size)).trans (HBt.out.mono (HXB.out.trans (HG.out.mono HXB.out.size)).size)⟩
set_option maxRecDepth 100000 in
set_option maxHeartbeats 4000000 in
theorem move_file_no (w : World) (t : Nat) (σ : Tr) (Ls : List Lay) (hT : TrAt w t σ Ls) (hOk : ∀ x ∈ σ.nodes, x.Ok) (d : Nat) (p : List UInt8) (j d2 : Nat) (q : List UInt8) (hd : d < σ.nodes.length) (hdk : (nodeAt σ.nodes d).isDir = true) (hlk : lookS (nodeAt σ.nodes d).slots p = some j) (hp : p.length ≤ 1000) (hj : j < σ.nodes.length) (hjk : (nodeAt σ.nodes j).isDir = false) (hd2 : d2 < σ.nodes.length) (hd2k : (nodeAt σ.nodes d2).isDir = true) (hno : lookS (nodeAt σ.nodes d2).slots q = none) (hq : q.length ≤ 1000) (hfit : fitsB σ.G σ.I σ.D σ.inodes σ.blocks 0 (nodeAt σ.nodes d2).growth = false) :
    Calls Tryz.prog 47 #[ptrV t, .agg #[ptrV (locL Ls d), strV p, ptrV (locL Ls j)], .agg #[ptrV (locL Ls d2), strV q, .pointer none]] w fun e w' => e = .returned (.int .i64 16) ∧ Below w.heap.size w w' := by
  have k2 : (nodeAt σ.nodes j).kind = 1 := by rcases kind_two (nodeAt σ.nodes j) with ⟨k, _⟩ | ⟨_, k⟩; rw [hjk] at k; cases k; exact k
  have HNQ : Hid (∀ W, Below w.heap.size w W → _) := Hid.mk (fun W (hB : Below w.heap.size w W) => run_neq_node W (locL Ls d))
  have HGR : Hid (∀ W, Below w.heap.size w W → Calls Tryz.prog 39 #[ptrV (locL Ls d2)] W fun e w' => e = .returned (.int .i64 (nodeAt σ.nodes d2).growth) ∧ Below W.heap.size W w') := Hid.mk (fun W hB => by
    obtain ⟨b, m, r, c, l, z, s, q1, q2, q3, q4, q5⟩ := (hT.below rfl hB).dirAt hd2 hd2k
    have hdok : (Nd.dir l z s).Ok := hOk _ (List.mem_of_getElem? q2)
    rw [q4, q5]
    exact growth_any W (locL Ls) b m r c l z s q3 hdok.2.2 hdok.1 hdok.2.1)
  have HTK : Hid (∀ W, Below w.heap.size w W → Calls Tryz.prog 38 #[ptrV t, .int .i64 0, .int .i64 (nodeAt σ.nodes d2).growth] W fun e w' => e = .returned (.int .i64 16) ∧ Below W.heap.size W w') := Hid.mk (fun W hB => by
    have hTW := hT.below rfl hB
    refine (take_any W t (locL Ls 0) σ.G σ.I σ.D σ.inodes σ.blocks hTW.tree 0 (nodeAt σ.nodes d2).growth).mono ?_
    rintro e w' (⟨h1, h2, h3⟩ | ⟨h1, _, _, _⟩)
    · exact ⟨h2, h3⟩
    · rw [hfit] at h1; cases h1)
  have hll : ∃ l2, (nodeAt σ.nodes d2).links = l2 := ⟨_, rfl⟩
  obtain ⟨l2, hl2⟩ := hll
  have HK : Hid (∀ W, Below w.heap.size w W → W.cell? ⟨locL Ls j, 0, none⟩ = some (.int .i64 1) ∧ W.cell? ⟨locL Ls d2, 1, none⟩ = some (.int .i64 l2)) := Hid.mk (fun W hB => ⟨by have := ((hT.below rfl hB).kindAt hj).1; rwa [k2] at this, by have := ((hT.below rfl hB).kindAt hd2).2.1; rwa [hl2] at this⟩)
  have HLA : Hid (lookS (nodeAt (σ.nodes.modify d2 (fun x => x.add q j)) d).slots p = some j) := Hid.mk (look_add_tree hT hd hdk hlk hp hd2 hd2k hno hq)
  have HT := Hid.mk hT
  have HOK := Hid.mk hOk
  clear hT hOk hl2 hfit
  unfold ptrV at HGR HTK
  unfold ptrV strV
  go_enter Tryz.func47, Tryz.ntmps47
  go_upto_region 1 with fail
  obtain ⟨X, hX⟩ : ∃ X, X = (w.alloc (.cells #[.pointer (some ⟨locL Ls d, 0, none⟩), .string (mkS p), .pointer (some ⟨locL Ls j, 0, none⟩)] 69)).alloc (.cells #[.pointer (some ⟨locL Ls d2, 0, none⟩), .string (mkS q), .pointer none] 69) := ⟨_, rfl⟩
  have hXB : Below w.heap.size w X := by rw [hX]; exact ((Below.refl _ w).alloc (Nat.le_refl _) _).alloc (by simp) _
  have hX0 : X.heap[w.heap.size]? = some (.cells #[.pointer (some ⟨locL Ls d, 0, none⟩), .string (mkS p), .pointer (some ⟨locL Ls j, 0, none⟩)] 69 (0, 0)) := by rw [hX, Below.heap_alloc _ _ _ (by simp)]; exact blk_new w _
  have hX1 : X.heap[w.heap.size + 1]? = some (.cells #[.pointer (some ⟨locL Ls d2, 0, none⟩), .string (mkS q), .pointer none] 69 (0, 0)) := by
    rw [hX]
    have := blk_new (w.alloc (.cells #[.pointer (some ⟨locL Ls d, 0, none⟩), .string (mkS p), .pointer (some ⟨locL Ls j, 0, none⟩)] 69)) (.cells #[.pointer (some ⟨locL Ls d2, 0, none⟩), .string (mkS q), .pointer none] 69)
    rwa [World.size_alloc] at this
  rw [← hX]
  clear hX
  have x0 := blk_cell hX0 0
  have x2 := blk_cell hX0 2
  have y0 := blk_cell hX1 0
  simp at x0 x2 y0
  obtain ⟨g0, g1⟩ := HK.out X hXB
  have hcmp := HNQ.out X hXB
  have HX0 := Hid.mk hX0
  have HX1 := Hid.mk hX1
  have HXB := Hid.mk hXB
  clear hX0 hX1 hXB HK
  go_wp2_with (first
    | (go_at_call 39; refine (HGR.out _ HXB.out).mono ?_; rintro e' Wg ⟨rfl, hbg⟩; have HG := Hid.mk hbg; clear hbg)
    | (go_at_call 38; refine (HTK.out _ (HXB.out.trans (HG.out.mono HXB.out.size))).mono ?_; rintro e' Wt ⟨rfl, hBt⟩; have HBt := Hid.mk hBt; clear hBt))
  go_ret
  exact ⟨rfl, (HXB.out.trans (HG.out.mono HXB.out.size)).trans (HBt.out.mono (HXB.out.trans (HG.out.mono HXB.out.size)).size)⟩
set_option maxRecDepth 100000 in
set_option maxHeartbeats 4000000 in
theorem move_links (w : World) (t : Nat) (σ : Tr) (Ls : List Lay) (hT : TrAt w t σ Ls) (d : Nat) (p : List UInt8) (j d2 : Nat) (q : List UInt8) (hd : d < σ.nodes.length) (hj : j < σ.nodes.length) (hjk : (nodeAt σ.nodes j).isDir = true) (hd2 : d2 < σ.nodes.length) (hne : d ≠ d2) (hl : ¬ (nodeAt σ.nodes d2).links < 32000) :
    Calls Tryz.prog 47 #[ptrV t, .agg #[ptrV (locL Ls d), strV p, ptrV (locL Ls j)], .agg #[ptrV (locL Ls d2), strV q, .pointer none]] w fun e w' => e = .returned (.int .i64 20) ∧ Below w.heap.size w w' := by
  have k2 : (nodeAt σ.nodes j).kind = 2 := by rcases kind_two (nodeAt σ.nodes j) with ⟨_, k⟩ | ⟨k, _⟩; exact k; rw [hjk] at k; cases k
  have HNQ : Hid (∀ W, Below w.heap.size w W → _) := Hid.mk (fun W (hB : Below w.heap.size w W) => run_neq_nodes (hT.below rfl hB) hd2 hd (fun e => hne e.symm))
  have hll : ∃ l2, (nodeAt σ.nodes d2).links = l2 := ⟨_, rfl⟩
  obtain ⟨l2, hl2⟩ := hll
  have hl3 : (32000 : Int) ≤ l2 := by omega
  have HK : Hid (∀ W, Below w.heap.size w W → W.cell? ⟨locL Ls j, 0, none⟩ = some (.int .i64 2) ∧ W.cell? ⟨locL Ls d2, 1, none⟩ = some (.int .i64 l2)) := Hid.mk (fun W hB => ⟨by have := ((hT.below rfl hB).kindAt hj).1; rwa [k2] at this, by have := ((hT.below rfl hB).kindAt hd2).2.1; rwa [hl2] at this⟩)
  clear hT hl hl2
  unfold ptrV strV
  go_enter Tryz.func47, Tryz.ntmps47
  go_upto_region 1 with fail
  obtain ⟨X, hX⟩ : ∃ X, X = (w.alloc (.cells #[.pointer (some ⟨locL Ls d, 0, none⟩), .string (mkS p), .pointer (some ⟨locL Ls j, 0, none⟩)] 69)).alloc (.cells #[.pointer (some ⟨locL Ls d2, 0, none⟩), .string (mkS q), .pointer none] 69) := ⟨_, rfl⟩
  have hXB : Below w.heap.size w X := by rw [hX]; exact ((Below.refl _ w).alloc (Nat.le_refl _) _).alloc (by simp) _
  have hX0 : X.heap[w.heap.size]? = some (.cells #[.pointer (some ⟨locL Ls d, 0, none⟩), .string (mkS p), .pointer (some ⟨locL Ls j, 0, none⟩)] 69 (0, 0)) := by rw [hX, Below.heap_alloc _ _ _ (by simp)]; exact blk_new w _
  have hX1 : X.heap[w.heap.size + 1]? = some (.cells #[.pointer (some ⟨locL Ls d2, 0, none⟩), .string (mkS q), .pointer none] 69 (0, 0)) := by
    rw [hX]
    have := blk_new (w.alloc (.cells #[.pointer (some ⟨locL Ls d, 0, none⟩), .string (mkS p), .pointer (some ⟨locL Ls j, 0, none⟩)] 69)) (.cells #[.pointer (some ⟨locL Ls d2, 0, none⟩), .string (mkS q), .pointer none] 69)
    rwa [World.size_alloc] at this
  rw [← hX]
  clear hX
  have x0 := blk_cell hX0 0
  have x2 := blk_cell hX0 2
  have y0 := blk_cell hX1 0
  simp at x0 x2 y0
  obtain ⟨g0, g1⟩ := HK.out X hXB
  have hcmp := HNQ.out X hXB
  have HX0 := Hid.mk hX0
  have HX1 := Hid.mk hX1
  have HXB := Hid.mk hXB
  clear hX0 hX1 hXB HK
  go_wp2
  go_ret
  exact ⟨rfl, HXB.out⟩
/-- What 'move' answers. -/
def moveE (σ : Tr) (d j d2 : Nat) : Int := if (nodeAt σ.nodes j).isDir = true ∧ d ≠ d2 ∧ ¬ (nodeAt σ.nodes d2).links < 32000 then 20 else if fitsB σ.G σ.I σ.D σ.inodes σ.blocks 0 (nodeAt σ.nodes d2).growth = true then 0 else 16
def moveR (σ : Tr) (d : Nat) (p : List UInt8) (j d2 : Nat) (q : List UInt8) : Tr := if moveE σ d j d2 = 0 then moveT σ d p j d2 q else σ
theorem move_any (w : World) (t : Nat) (σ : Tr) (Ls : List Lay) (hT : TrAt w t σ Ls) (hOk : ∀ x ∈ σ.nodes, x.Ok) (d : Nat) (p : List UInt8) (j d2 : Nat) (q : List UInt8) (hd : d < σ.nodes.length) (hdk : (nodeAt σ.nodes d).isDir = true) (hlk : lookS (nodeAt σ.nodes d).slots p = some j) (hp : p.length ≤ 1000) (hj : j < σ.nodes.length) (hd2 : d2 < σ.nodes.length) (hd2k : (nodeAt σ.nodes d2).isDir = true) (hno : lookS (nodeAt σ.nodes d2).slots q = none) (hq : q.length ≤ 1000) :
    Calls Tryz.prog 47 #[ptrV t, .agg #[ptrV (locL Ls d), strV p, ptrV (locL Ls j)], .agg #[ptrV (locL Ls d2), strV q, .pointer none]] w fun e w' => e = .returned (.int .i64 (moveE σ d j d2)) ∧ StepL w t Ls w' (moveR σ d p j d2 q) := by
  have still : ∀ w', Below w.heap.size w w' → StepL w t Ls w' σ := fun w' h => ⟨⟨Ls, hT.below rfl h, rfl, fun k hk => .inl hk⟩, Only.of_new (fun k => k ∈ feet t Ls) h⟩
  by_cases h1 : (nodeAt σ.nodes j).isDir = true ∧ d ≠ d2 ∧ ¬ (nodeAt σ.nodes d2).links < 32000
  · have e1 : moveE σ d j d2 = 20 := by unfold moveE; rw [if_pos h1]
    have e2 : moveR σ d p j d2 q = σ := by unfold moveR; rw [if_neg (by rw [e1]; decide)]
    rw [e1, e2]
    exact (move_links w t σ Ls hT d p j d2 q hd hj h1.1 hd2 h1.2.1 h1.2.2).mono (fun e w' h => ⟨h.1, still w' h.2⟩)
  · cases hf : fitsB σ.G σ.I σ.D σ.inodes σ.blocks 0 (nodeAt σ.nodes d2).growth with
    | true =>
      have e1 : moveE σ d j d2 = 0 := by unfold moveE; rw [if_neg h1, if_pos hf]
      have e2 : moveR σ d p j d2 q = moveT σ d p j d2 q := by unfold moveR; rw [if_pos e1]
      rw [e1, e2]
      rcases kind_two (nodeAt σ.nodes j) with ⟨a, _⟩ | ⟨a, _⟩
      · by_cases hs : d = d2
        · exact move_same w t σ Ls hT hOk d p j d2 q hd hdk hlk hp hj a hd2 hd2k hno hq hs hf
        · exact move_dir w t σ Ls hT hOk d p j d2 q hd hdk hlk hp hj a hd2 hd2k hno hq hs (Classical.byContradiction (fun h => h1 ⟨a, hs, h⟩)) hf
      · exact move_file w t σ Ls hT hOk d p j d2 q hd hdk hlk hp hj a hd2 hd2k hno hq hf
    | false =>
      have e1 : moveE σ d j d2 = 16 := by unfold moveE; rw [if_neg h1, hf]; rfl
      have e2 : moveR σ d p j d2 q = σ := by unfold moveR; rw [if_neg (by rw [e1]; decide)]
      rw [e1, e2]
      rcases kind_two (nodeAt σ.nodes j) with ⟨a, _⟩ | ⟨a, _⟩
      · by_cases hs : d = d2
        · exact (move_same_no w t σ Ls hT hOk d p j d2 q hd hdk hlk hp hj a hd2 hd2k hno hq hs hf).mono (fun e w' h => ⟨h.1, still w' h.2⟩)
        · exact (move_dir_no w t σ Ls hT hOk d p j d2 q hd hdk hlk hp hj a hd2 hd2k hno hq hs (Classical.byContradiction (fun h => h1 ⟨a, hs, h⟩)) hf).mono (fun e w' h => ⟨h.1, still w' h.2⟩)
      · exact (move_file_no w t σ Ls hT hOk d p j d2 q hd hdk hlk hp hj a hd2 hd2k hno hq hf).mono (fun e w' h => ⟨h.1, still w' h.2⟩)
end Go.Proofs.YtehaoeclnmelhacGreat
namespace Go.Proofs.YtehaoeclnmelhacGreat
open Go Go.Proofs Go.RowKit Go.Shelf Go.Sort

set_option maxRecDepth 100000 in
set_option maxHeartbeats 4000000 in
theorem link_bad (w : World) (t : Nat) (σ : Tr) (Ls : List Lay) (_hT : TrAt w t σ Ls) (k : Int) (s s2 : ByteArray) (off m : Int) (dp : Option Addr) (dl dc : Nat) (hs : s.size ≤ 16777216) (hs2 : s2.size ≤ 16777216) (h : splitL (ofS s) = none ∨ splitL (ofS s2) = none) :
    Calls Tryz.prog 22 #[ptrV t, callV k s s2 off m (.slice dp dl dc)] w fun x w' => x = .returned (errV 15) ∧ Below w.heap.size w w' := by
  have HBO : Hid (∀ W, _) := Hid.mk (fun W => both_no W k s s2 off m dp dl dc hs hs2 h)
  clear hs hs2 h
  unfold callV at HBO
  unfold callV ptrV at *
  go_enter Tryz.func22, Tryz.ntmps22
  go_wp2_with fail
  obtain ⟨X, hX⟩ : ∃ X, X = (w.alloc (.cells #[.int .i64 k, .string s, .string s2, .int .i64 off, .int .i64 m, .slice dp dl dc] 34)).alloc (.cells #[.int .i64 0, .slice none 0 0, .int .i64 0, .int .i64 0, .int .i64 0, .slice none 0 0, .int .i64 0] 31) := ⟨_, rfl⟩
  have hXB : Below w.heap.size w X := by rw [hX]; exact ((Below.refl _ w).alloc (Nat.le_refl _) _).alloc (by simp) _
  have hXs : X.heap.size = w.heap.size + 2 := by rw [hX]; simp
  have hX0 : X.heap[w.heap.size]? = some (.cells #[.int .i64 k, .string s, .string s2, .int .i64 off, .int .i64 m, .slice dp dl dc] 34 (0, 0)) := by rw [hX, Below.heap_alloc _ _ _ (by simp)]; exact blk_new w _
  have hX1 : X.heap[w.heap.size + 1]? = some (.cells #[.int .i64 0, .slice none 0 0, .int .i64 0, .int .i64 0, .int .i64 0, .slice none 0 0, .int .i64 0] 31 (0, 0)) := by
    rw [hX]
    have := blk_new (w.alloc (.cells #[.int .i64 k, .string s, .string s2, .int .i64 off, .int .i64 m, .slice dp dl dc] 34)) (.cells #[.int .i64 0, .slice none 0 0, .int .i64 0, .int .i64 0, .int .i64 0, .slice none 0 0, .int .i64 0] 31)
    rwa [World.size_alloc] at this
  rw [← hX]
  clear hX
  have f0 := blk_cell hX0 0
  have f1 := blk_cell hX0 1
  have f2 := blk_cell hX0 2
  have f3 := blk_cell hX0 3
  have f4 := blk_cell hX0 4
  have f5 := blk_cell hX0 5
  simp at f0 f1 f2 f3 f4 f5
  have HXB := Hid.mk hXB
  have HXS := Hid.mk hXs
  have HX0 := Hid.mk hX0
  have HX1 := Hid.mk hX1
  clear hXB hXs hX0 hX1
  go_wp2_with (first
    | (go_at_call 35; refine (HBO.out X).mono ?_; rintro e' W1 ⟨rfl, hB1⟩
       have HY1 := Hid.mk ((hB1.block _ (lt_of_block HX1.out)).trans HX1.out)
       have HB1 : Hid (Below w.heap.size w W1) := Hid.mk (HXB.out.trans (hB1.mono HXB.out.size))
       clear hB1 f0 f1 f2 f3 f4 f5)
    | (go_at_call 19; refine (failed_any _ _).mono ?_; rintro e' W4 ⟨rfl, hb4⟩; have hbx := (hb4.block _ (lt_of_block HY1.out)).trans HY1.out; have z0 := blk_cell hbx 0; have y0 := blk_free hbx 0; have z1 := blk_cell hbx 1; have y1 := blk_free hbx 1; have z2 := blk_cell hbx 2; have y2 := blk_free hbx 2; have z3 := blk_cell hbx 3; have y3 := blk_free hbx 3; have z4 := blk_cell hbx 4; have y4 := blk_free hbx 4; have z5 := blk_cell hbx 5; have y5 := blk_free hbx 5; have z6 := blk_cell hbx 6; have y6 := blk_free hbx 6; simp at z0 z1 z2 z3 z4 z5 z6; have BXX := Hid.mk hbx; have HB4 := Hid.mk (HB1.out.trans (hb4.mono HB1.out.size)); unfold errV; clear hbx hb4))
  have hb7 := (box7 BXX.out (.int .i64 15) (.slice none 0 0) (.int .i64 0) (.int .i64 0) (.int .i64 0) (.slice none 0 0) (.int .i64 0)).1
  have ho7 := (box7 BXX.out (.int .i64 15) (.slice none 0 0) (.int .i64 0) (.int .i64 0) (.int .i64 0) (.slice none 0 0) (.int .i64 0)).2
  obtain ⟨Y, hY⟩ : ∃ Y, Y = (((((((W4.setCell ⟨w.heap.size + 1, 0, none⟩ (.int .i64 15)).setCell ⟨w.heap.size + 1, 1, none⟩ (.slice none 0 0)).setCell ⟨w.heap.size + 1, 2, none⟩ (.int .i64 0)).setCell ⟨w.heap.size + 1, 3, none⟩ (.int .i64 0)).setCell ⟨w.heap.size + 1, 4, none⟩ (.int .i64 0)).setCell ⟨w.heap.size + 1, 5, none⟩ (.slice none 0 0)).setCell ⟨w.heap.size + 1, 6, none⟩ (.int .i64 0)) := ⟨_, rfl⟩
  rw [← hY] at hb7 ho7 ⊢
  have k0 := blk_cell hb7 0
  have k1 := blk_cell hb7 1
  have k2 := blk_cell hb7 2
  have k3 := blk_cell hb7 3
  have k4 := blk_cell hb7 4
  have k5 := blk_cell hb7 5
  have k6 := blk_cell hb7 6
  simp at k0 k1 k2 k3 k4 k5 k6
  refine bodyPost_ret (v := errV 15) ?_ rfl ?_
  · simp [results, Tryz.results22, go_sem, errV, k0, k1, k2, k3, k4, k5, k6]
  · exact ⟨rfl, ((Only.of_below (S := fun _ => False) HB4.out (fun k h1 h2 => by omega)).trans ho7 (fun i hi => .inr (by omega))).below (Nat.le_refl _) (fun _ h => h.elim)⟩
set_option maxRecDepth 100000 in
set_option maxHeartbeats 4000000 in
theorem rename_bad (w : World) (t : Nat) (σ : Tr) (Ls : List Lay) (_hT : TrAt w t σ Ls) (k : Int) (s s2 : ByteArray) (off m : Int) (dp : Option Addr) (dl dc : Nat) (hs : s.size ≤ 16777216) (hs2 : s2.size ≤ 16777216) (h : splitL (ofS s) = none ∨ splitL (ofS s2) = none) :
    Calls Tryz.prog 25 #[ptrV t, callV k s s2 off m (.slice dp dl dc)] w fun x w' => x = .returned (errV 15) ∧ Below w.heap.size w w' := by
  have HBO : Hid (∀ W, _) := Hid.mk (fun W => both_no W k s s2 off m dp dl dc hs hs2 h)
  clear hs hs2 h
  unfold callV at HBO
  unfold callV ptrV at *
  go_enter Tryz.func25, Tryz.ntmps25
  go_wp2_with fail
  obtain ⟨X, hX⟩ : ∃ X, X = (w.alloc (.cells #[.int .i64 k, .string s, .string s2, .int .i64 off, .int .i64 m, .slice dp dl dc] 34)).alloc (.cells #[.int .i64 0, .slice none 0 0, .int .i64 0, .int .i64 0, .int .i64 0, .slice none 0 0, .int .i64 0] 31) := ⟨_, rfl⟩
  have hXB : Below w.heap.size w X := by rw [hX]; exact ((Below.refl _ w).alloc (Nat.le_refl _) _).alloc (by simp) _
  have hXs : X.heap.size = w.heap.size + 2 := by rw [hX]; simp
  have hX0 : X.heap[w.heap.size]? = some (.cells #[.int .i64 k, .string s, .string s2, .int .i64 off, .int .i64 m, .slice dp dl dc] 34 (0, 0)) := by rw [hX, Below.heap_alloc _ _ _ (by simp)]; exact blk_new w _
  have hX1 : X.heap[w.heap.size + 1]? = some (.cells #[.int .i64 0, .slice none 0 0, .int .i64 0, .int .i64 0, .int .i64 0, .slice none 0 0, .int .i64 0] 31 (0, 0)) := by
    rw [hX]
    have := blk_new (w.alloc (.cells #[.int .i64 k, .string s, .string s2, .int .i64 off, .int .i64 m, .slice dp dl dc] 34)) (.cells #[.int .i64 0, .slice none 0 0, .int .i64 0, .int .i64 0, .int .i64 0, .slice none 0 0, .int .i64 0] 31)
    rwa [World.size_alloc] at this
  rw [← hX]
  clear hX
  have f0 := blk_cell hX0 0
  have f1 := blk_cell hX0 1
  have f2 := blk_cell hX0 2
  have f3 := blk_cell hX0 3
  have f4 := blk_cell hX0 4
  have f5 := blk_cell hX0 5
  simp at f0 f1 f2 f3 f4 f5
  have HXB := Hid.mk hXB
  have HXS := Hid.mk hXs
  have HX0 := Hid.mk hX0
  have HX1 := Hid.mk hX1
  clear hXB hXs hX0 hX1
  go_wp2_with (first
    | (go_at_call 35; refine (HBO.out X).mono ?_; rintro e' W1 ⟨rfl, hB1⟩
       have HY1 := Hid.mk ((hB1.block _ (lt_of_block HX1.out)).trans HX1.out)
       have HB1 : Hid (Below w.heap.size w W1) := Hid.mk (HXB.out.trans (hB1.mono HXB.out.size))
       clear hB1 f0 f1 f2 f3 f4 f5)
    | (go_at_call 19; refine (failed_any _ _).mono ?_; rintro e' W4 ⟨rfl, hb4⟩; have hbx := (hb4.block _ (lt_of_block HY1.out)).trans HY1.out; have z0 := blk_cell hbx 0; have y0 := blk_free hbx 0; have z1 := blk_cell hbx 1; have y1 := blk_free hbx 1; have z2 := blk_cell hbx 2; have y2 := blk_free hbx 2; have z3 := blk_cell hbx 3; have y3 := blk_free hbx 3; have z4 := blk_cell hbx 4; have y4 := blk_free hbx 4; have z5 := blk_cell hbx 5; have y5 := blk_free hbx 5; have z6 := blk_cell hbx 6; have y6 := blk_free hbx 6; simp at z0 z1 z2 z3 z4 z5 z6; have BXX := Hid.mk hbx; have HB4 := Hid.mk (HB1.out.trans (hb4.mono HB1.out.size)); unfold errV; clear hbx hb4))
  have hb7 := (box7 BXX.out (.int .i64 15) (.slice none 0 0) (.int .i64 0) (.int .i64 0) (.int .i64 0) (.slice none 0 0) (.int .i64 0)).1
  have ho7 := (box7 BXX.out (.int .i64 15) (.slice none 0 0) (.int .i64 0) (.int .i64 0) (.int .i64 0) (.slice none 0 0) (.int .i64 0)).2
  obtain ⟨Y, hY⟩ : ∃ Y, Y = (((((((W4.setCell ⟨w.heap.size + 1, 0, none⟩ (.int .i64 15)).setCell ⟨w.heap.size + 1, 1, none⟩ (.slice none 0 0)).setCell ⟨w.heap.size + 1, 2, none⟩ (.int .i64 0)).setCell ⟨w.heap.size + 1, 3, none⟩ (.int .i64 0)).setCell ⟨w.heap.size + 1, 4, none⟩ (.int .i64 0)).setCell ⟨w.heap.size + 1, 5, none⟩ (.slice none 0 0)).setCell ⟨w.heap.size + 1, 6, none⟩ (.int .i64 0)) := ⟨_, rfl⟩
  rw [← hY] at hb7 ho7 ⊢
  have k0 := blk_cell hb7 0
  have k1 := blk_cell hb7 1
  have k2 := blk_cell hb7 2
  have k3 := blk_cell hb7 3
  have k4 := blk_cell hb7 4
  have k5 := blk_cell hb7 5
  have k6 := blk_cell hb7 6
  simp at k0 k1 k2 k3 k4 k5 k6
  refine bodyPost_ret (v := errV 15) ?_ rfl ?_
  · simp [results, Tryz.results25, go_sem, errV, k0, k1, k2, k3, k4, k5, k6]
  · exact ⟨rfl, ((Only.of_below (S := fun _ => False) HB4.out (fun k h1 h2 => by omega)).trans ho7 (fun i hi => .inr (by omega))).below (Nat.le_refl _) (fun _ h => h.elim)⟩
set_option maxRecDepth 100000 in
set_option maxHeartbeats 4000000 in
theorem link_none (w : World) (t : Nat) (σ : Tr) (Ls : List Lay) (hT : TrAt w t σ Ls) (k : Int) (s s2 : ByteArray) (off m : Int) (dp : Option Addr) (dl dc : Nat) (hs : s.size ≤ 16777216) (hs2 : s2.size ≤ 16777216) (L M : List (List UInt8)) (h1 : splitL (ofS s) = some L) (h2 : splitL (ofS s2) = some M) (e : Int) (hf : wayE σ.nodes 0 L = (none, e)) (hne : e ≠ 0) :
    Calls Tryz.prog 22 #[ptrV t, callV k s s2 off m (.slice dp dl dc)] w fun x w' => x = .returned (errV e) ∧ Below w.heap.size w w' := by
  have HBO : Hid (∀ W, _) := Hid.mk (fun W => both_yes W k s s2 off m dp dl dc hs hs2 h1 h2)
  obtain ⟨b1, b2⟩ := split_bounds h1
  have HFI : Hid (∀ W ao c, Below w.heap.size w W → SAt W ao L.length L → _) := Hid.mk (fun W ao c (hB : Below w.heap.size w W) hS => find_any W t σ Ls (hT.below rfl hB) ao c L hS b1 (by omega))
  rw [hf] at HFI
  simp only [optV, ptrV] at HFI
  generalize L.length = nl at *
  generalize M.length = nm at *
  clear hT hs hs2 h1 h2 hf b1 b2
  unfold callV at HBO
  unfold callV ptrV at *
  go_enter Tryz.func22, Tryz.ntmps22
  go_wp2_with fail
  obtain ⟨X, hX⟩ : ∃ X, X = (w.alloc (.cells #[.int .i64 k, .string s, .string s2, .int .i64 off, .int .i64 m, .slice dp dl dc] 34)).alloc (.cells #[.int .i64 0, .slice none 0 0, .int .i64 0, .int .i64 0, .int .i64 0, .slice none 0 0, .int .i64 0] 31) := ⟨_, rfl⟩
  have hXB : Below w.heap.size w X := by rw [hX]; exact ((Below.refl _ w).alloc (Nat.le_refl _) _).alloc (by simp) _
  have hXs : X.heap.size = w.heap.size + 2 := by rw [hX]; simp
  have hX0 : X.heap[w.heap.size]? = some (.cells #[.int .i64 k, .string s, .string s2, .int .i64 off, .int .i64 m, .slice dp dl dc] 34 (0, 0)) := by rw [hX, Below.heap_alloc _ _ _ (by simp)]; exact blk_new w _
  have hX1 : X.heap[w.heap.size + 1]? = some (.cells #[.int .i64 0, .slice none 0 0, .int .i64 0, .int .i64 0, .int .i64 0, .slice none 0 0, .int .i64 0] 31 (0, 0)) := by
    rw [hX]
    have := blk_new (w.alloc (.cells #[.int .i64 k, .string s, .string s2, .int .i64 off, .int .i64 m, .slice dp dl dc] 34)) (.cells #[.int .i64 0, .slice none 0 0, .int .i64 0, .int .i64 0, .int .i64 0, .slice none 0 0, .int .i64 0] 31)
    rwa [World.size_alloc] at this
  rw [← hX]
  clear hX
  have f0 := blk_cell hX0 0
  have f1 := blk_cell hX0 1
  have f2 := blk_cell hX0 2
  have f3 := blk_cell hX0 3
  have f4 := blk_cell hX0 4
  have f5 := blk_cell hX0 5
  simp at f0 f1 f2 f3 f4 f5
  have HXB := Hid.mk hXB
  have HXS := Hid.mk hXs
  have HX0 := Hid.mk hX0
  have HX1 := Hid.mk hX1
  clear hXB hXs hX0 hX1
  go_wp2_with (first
    | (go_at_call 35; refine (HBO.out X).mono ?_; rintro e' W1 ⟨ao, c, bo, dd, rfl, hSA, hSB, hc1, hc2, hd1, hd2, hB1⟩
       have HY1 := Hid.mk ((hB1.block _ (lt_of_block HX1.out)).trans HX1.out)
       have HB1 : Hid (Below w.heap.size w W1) := Hid.mk (HXB.out.trans (hB1.mono HXB.out.size))
       have HP1 := Hid.mk (HFI.out W1 ao c HB1.out hSA)
       clear hSA hSB hc1 hc2 hd1 hd2 hB1 HBO f0 f1 f2 f3 f4 f5 )
    | (go_at_call 36; refine HP1.out.mono ?_; rintro e' W2 ⟨rfl, hB2⟩
       have HY2 := Hid.mk ((hB2.block _ (lt_of_block HY1.out)).trans HY1.out)
       have HB2 : Hid (Below w.heap.size w W2) := Hid.mk (HB1.out.trans (hB2.mono HB1.out.size))
       clear hB2 )
    | (go_at_call 19; refine (failed_any _ _).mono ?_; rintro e' W4 ⟨rfl, hb4⟩; have hbx := (hb4.block _ (lt_of_block HY2.out)).trans HY2.out; have z0 := blk_cell hbx 0; have y0 := blk_free hbx 0; have z1 := blk_cell hbx 1; have y1 := blk_free hbx 1; have z2 := blk_cell hbx 2; have y2 := blk_free hbx 2; have z3 := blk_cell hbx 3; have y3 := blk_free hbx 3; have z4 := blk_cell hbx 4; have y4 := blk_free hbx 4; have z5 := blk_cell hbx 5; have y5 := blk_free hbx 5; have z6 := blk_cell hbx 6; have y6 := blk_free hbx 6; simp at z0 z1 z2 z3 z4 z5 z6; have BXX := Hid.mk hbx; have HB4 := Hid.mk (HB2.out.trans (hb4.mono HB2.out.size)); unfold errV; clear hbx hb4))
  have hb7 := (box7 BXX.out (.int .i64 e) (.slice none 0 0) (.int .i64 0) (.int .i64 0) (.int .i64 0) (.slice none 0 0) (.int .i64 0)).1
  have ho7 := (box7 BXX.out (.int .i64 e) (.slice none 0 0) (.int .i64 0) (.int .i64 0) (.int .i64 0) (.slice none 0 0) (.int .i64 0)).2
  obtain ⟨Y, hY⟩ : ∃ Y, Y = (((((((W4.setCell ⟨w.heap.size + 1, 0, none⟩ (.int .i64 e)).setCell ⟨w.heap.size + 1, 1, none⟩ (.slice none 0 0)).setCell ⟨w.heap.size + 1, 2, none⟩ (.int .i64 0)).setCell ⟨w.heap.size + 1, 3, none⟩ (.int .i64 0)).setCell ⟨w.heap.size + 1, 4, none⟩ (.int .i64 0)).setCell ⟨w.heap.size + 1, 5, none⟩ (.slice none 0 0)).setCell ⟨w.heap.size + 1, 6, none⟩ (.int .i64 0)) := ⟨_, rfl⟩
  rw [← hY] at hb7 ho7 ⊢
  have k0 := blk_cell hb7 0
  have k1 := blk_cell hb7 1
  have k2 := blk_cell hb7 2
  have k3 := blk_cell hb7 3
  have k4 := blk_cell hb7 4
  have k5 := blk_cell hb7 5
  have k6 := blk_cell hb7 6
  simp at k0 k1 k2 k3 k4 k5 k6
  refine bodyPost_ret (v := errV e) ?_ rfl ?_
  · simp [results, Tryz.results22, go_sem, errV, k0, k1, k2, k3, k4, k5, k6]
  · exact ⟨rfl, ((Only.of_below (S := fun _ => False) HB4.out (fun k h1 h2 => by omega)).trans ho7 (fun i hi => .inr (by omega))).below (Nat.le_refl _) (fun _ h => h.elim)⟩
set_option maxRecDepth 100000 in
set_option maxHeartbeats 4000000 in
theorem link_dir (w : World) (t : Nat) (σ : Tr) (Ls : List Lay) (hT : TrAt w t σ Ls) (k : Int) (s s2 : ByteArray) (off m : Int) (dp : Option Addr) (dl dc : Nat) (hs : s.size ≤ 16777216) (hs2 : s2.size ≤ 16777216) (L M : List (List UInt8)) (h1 : splitL (ofS s) = some L) (h2 : splitL (ofS s2) = some M) (j : Nat) (hf : wayE σ.nodes 0 L = (some j, 0)) (hjk : (nodeAt σ.nodes j).isDir = true) :
    Calls Tryz.prog 22 #[ptrV t, callV k s s2 off m (.slice dp dl dc)] w fun x w' => x = .returned (errV 13) ∧ Below w.heap.size w w' := by
  have HBO : Hid (∀ W, _) := Hid.mk (fun W => both_yes W k s s2 off m dp dl dc hs hs2 h1 h2)
  have hj : j < σ.nodes.length := wayE_lt hT L hf
  have k1 : (nodeAt σ.nodes j).kind = 2 := by rcases kind_two (nodeAt σ.nodes j) with ⟨q1, q2⟩ | ⟨q1, q2⟩ <;> first | exact q2 | (rw [hjk] at q1; cases q1)
  have HK : Hid (∀ W, Below w.heap.size w W → W.cell? ⟨locL Ls j, 0, none⟩ = some (.int .i64 2)) := Hid.mk (fun W hB => by have := ((hT.below rfl hB).kindAt hj).1; rwa [k1] at this)
  obtain ⟨b1, b2⟩ := split_bounds h1
  have HFI : Hid (∀ W ao c, Below w.heap.size w W → SAt W ao L.length L → _) := Hid.mk (fun W ao c (hB : Below w.heap.size w W) hS => find_any W t σ Ls (hT.below rfl hB) ao c L hS b1 (by omega))
  rw [hf] at HFI
  simp only [optV, ptrV] at HFI
  generalize L.length = nl at *
  generalize M.length = nm at *
  clear hT hs hs2 h1 h2 hf b1 b2 hj hjk k1
  unfold callV at HBO
  unfold callV ptrV at *
  go_enter Tryz.func22, Tryz.ntmps22
  go_wp2_with fail
  obtain ⟨X, hX⟩ : ∃ X, X = (w.alloc (.cells #[.int .i64 k, .string s, .string s2, .int .i64 off, .int .i64 m, .slice dp dl dc] 34)).alloc (.cells #[.int .i64 0, .slice none 0 0, .int .i64 0, .int .i64 0, .int .i64 0, .slice none 0 0, .int .i64 0] 31) := ⟨_, rfl⟩
  have hXB : Below w.heap.size w X := by rw [hX]; exact ((Below.refl _ w).alloc (Nat.le_refl _) _).alloc (by simp) _
  have hXs : X.heap.size = w.heap.size + 2 := by rw [hX]; simp
  have hX0 : X.heap[w.heap.size]? = some (.cells #[.int .i64 k, .string s, .string s2, .int .i64 off, .int .i64 m, .slice dp dl dc] 34 (0, 0)) := by rw [hX, Below.heap_alloc _ _ _ (by simp)]; exact blk_new w _
  have hX1 : X.heap[w.heap.size + 1]? = some (.cells #[.int .i64 0, .slice none 0 0, .int .i64 0, .int .i64 0, .int .i64 0, .slice none 0 0, .int .i64 0] 31 (0, 0)) := by
    rw [hX]
    have := blk_new (w.alloc (.cells #[.int .i64 k, .string s, .string s2, .int .i64 off, .int .i64 m, .slice dp dl dc] 34)) (.cells #[.int .i64 0, .slice none 0 0, .int .i64 0, .int .i64 0, .int .i64 0, .slice none 0 0, .int .i64 0] 31)
    rwa [World.size_alloc] at this
  rw [← hX]
  clear hX
  have f0 := blk_cell hX0 0
  have f1 := blk_cell hX0 1
  have f2 := blk_cell hX0 2
  have f3 := blk_cell hX0 3
  have f4 := blk_cell hX0 4
  have f5 := blk_cell hX0 5
  simp at f0 f1 f2 f3 f4 f5
  have HXB := Hid.mk hXB
  have HXS := Hid.mk hXs
  have HX0 := Hid.mk hX0
  have HX1 := Hid.mk hX1
  clear hXB hXs hX0 hX1
  go_wp2_with (first
    | (go_at_call 35; refine (HBO.out X).mono ?_; rintro e' W1 ⟨ao, c, bo, dd, rfl, hSA, hSB, hc1, hc2, hd1, hd2, hB1⟩
       have HY1 := Hid.mk ((hB1.block _ (lt_of_block HX1.out)).trans HX1.out)
       have HB1 : Hid (Below w.heap.size w W1) := Hid.mk (HXB.out.trans (hB1.mono HXB.out.size))
       have HP1 := Hid.mk (HFI.out W1 ao c HB1.out hSA)
       clear hSA hSB hc1 hc2 hd1 hd2 hB1 HBO f0 f1 f2 f3 f4 f5 )
    | (go_at_call 36; refine HP1.out.mono ?_; rintro e' W2 ⟨rfl, hB2⟩
       have HY2 := Hid.mk ((hB2.block _ (lt_of_block HY1.out)).trans HY1.out)
       have HB2 : Hid (Below w.heap.size w W2) := Hid.mk (HB1.out.trans (hB2.mono HB1.out.size))
       have g0 := HK.out _ HB2.out
       clear hB2 )
    | (go_at_call 19; refine (failed_any _ _).mono ?_; rintro e' W4 ⟨rfl, hb4⟩; have hbx := (hb4.block _ (lt_of_block HY2.out)).trans HY2.out; have z0 := blk_cell hbx 0; have y0 := blk_free hbx 0; have z1 := blk_cell hbx 1; have y1 := blk_free hbx 1; have z2 := blk_cell hbx 2; have y2 := blk_free hbx 2; have z3 := blk_cell hbx 3; have y3 := blk_free hbx 3; have z4 := blk_cell hbx 4; have y4 := blk_free hbx 4; have z5 := blk_cell hbx 5; have y5 := blk_free hbx 5; have z6 := blk_cell hbx 6; have y6 := blk_free hbx 6; simp at z0 z1 z2 z3 z4 z5 z6; have BXX := Hid.mk hbx; have HB4 := Hid.mk (HB2.out.trans (hb4.mono HB2.out.size)); unfold errV; clear hbx hb4))
  have hb7 := (box7 BXX.out (.int .i64 13) (.slice none 0 0) (.int .i64 0) (.int .i64 0) (.int .i64 0) (.slice none 0 0) (.int .i64 0)).1
  have ho7 := (box7 BXX.out (.int .i64 13) (.slice none 0 0) (.int .i64 0) (.int .i64 0) (.int .i64 0) (.slice none 0 0) (.int .i64 0)).2
  obtain ⟨Y, hY⟩ : ∃ Y, Y = (((((((W4.setCell ⟨w.heap.size + 1, 0, none⟩ (.int .i64 13)).setCell ⟨w.heap.size + 1, 1, none⟩ (.slice none 0 0)).setCell ⟨w.heap.size + 1, 2, none⟩ (.int .i64 0)).setCell ⟨w.heap.size + 1, 3, none⟩ (.int .i64 0)).setCell ⟨w.heap.size + 1, 4, none⟩ (.int .i64 0)).setCell ⟨w.heap.size + 1, 5, none⟩ (.slice none 0 0)).setCell ⟨w.heap.size + 1, 6, none⟩ (.int .i64 0)) := ⟨_, rfl⟩
  rw [← hY] at hb7 ho7 ⊢
  have k0 := blk_cell hb7 0
  have k1 := blk_cell hb7 1
  have k2 := blk_cell hb7 2
  have k3 := blk_cell hb7 3
  have k4 := blk_cell hb7 4
  have k5 := blk_cell hb7 5
  have k6 := blk_cell hb7 6
  simp at k0 k1 k2 k3 k4 k5 k6
  refine bodyPost_ret (v := errV 13) ?_ rfl ?_
  · simp [results, Tryz.results22, go_sem, errV, k0, k1, k2, k3, k4, k5, k6]
  · exact ⟨rfl, ((Only.of_below (S := fun _ => False) HB4.out (fun k h1 h2 => by omega)).trans ho7 (fun i hi => .inr (by omega))).below (Nat.le_refl _) (fun _ h => h.elim)⟩
set_option maxRecDepth 100000 in
set_option maxHeartbeats 4000000 in
theorem link_root (w : World) (t : Nat) (σ : Tr) (Ls : List Lay) (hT : TrAt w t σ Ls) (k : Int) (s s2 : ByteArray) (off m : Int) (dp : Option Addr) (dl dc : Nat) (hs : s.size ≤ 16777216) (hs2 : s2.size ≤ 16777216) (L : List (List UInt8)) (h1 : splitL (ofS s) = some L) (h2 : splitL (ofS s2) = some []) (j : Nat) (hf : wayE σ.nodes 0 L = (some j, 0)) (hjk : (nodeAt σ.nodes j).isDir = false) :
    Calls Tryz.prog 22 #[ptrV t, callV k s s2 off m (.slice dp dl dc)] w fun x w' => x = .returned (errV 11) ∧ Below w.heap.size w w' := by
  have HBO : Hid (∀ W, _) := Hid.mk (fun W => both_yes W k s s2 off m dp dl dc hs hs2 h1 h2)
  have hj : j < σ.nodes.length := wayE_lt hT L hf
  have k1 : (nodeAt σ.nodes j).kind = 1 := by rcases kind_two (nodeAt σ.nodes j) with ⟨q1, q2⟩ | ⟨q1, q2⟩ <;> first | exact q2 | (rw [hjk] at q1; cases q1)
  have HK : Hid (∀ W, Below w.heap.size w W → W.cell? ⟨locL Ls j, 0, none⟩ = some (.int .i64 1)) := Hid.mk (fun W hB => by have := ((hT.below rfl hB).kindAt hj).1; rwa [k1] at this)
  obtain ⟨b1, b2⟩ := split_bounds h1
  have HFI : Hid (∀ W ao c, Below w.heap.size w W → SAt W ao L.length L → _) := Hid.mk (fun W ao c (hB : Below w.heap.size w W) hS => find_any W t σ Ls (hT.below rfl hB) ao c L hS b1 (by omega))
  rw [hf] at HFI
  simp only [optV, ptrV] at HFI
  have HUN : Hid (∀ W ao c, _) := Hid.mk (fun W ao c => unnamed_nil W t ao c)
  unfold ptrV at HUN
  simp only [List.length_nil] at HBO
  generalize L.length = nl at *
  clear hT hs hs2 h1 h2 hf b1 b2 hj hjk k1
  unfold callV at HBO
  unfold callV ptrV at *
  go_enter Tryz.func22, Tryz.ntmps22
  go_wp2_with fail
  obtain ⟨X, hX⟩ : ∃ X, X = (w.alloc (.cells #[.int .i64 k, .string s, .string s2, .int .i64 off, .int .i64 m, .slice dp dl dc] 34)).alloc (.cells #[.int .i64 0, .slice none 0 0, .int .i64 0, .int .i64 0, .int .i64 0, .slice none 0 0, .int .i64 0] 31) := ⟨_, rfl⟩
  have hXB : Below w.heap.size w X := by rw [hX]; exact ((Below.refl _ w).alloc (Nat.le_refl _) _).alloc (by simp) _
  have hXs : X.heap.size = w.heap.size + 2 := by rw [hX]; simp
  have hX0 : X.heap[w.heap.size]? = some (.cells #[.int .i64 k, .string s, .string s2, .int .i64 off, .int .i64 m, .slice dp dl dc] 34 (0, 0)) := by rw [hX, Below.heap_alloc _ _ _ (by simp)]; exact blk_new w _
  have hX1 : X.heap[w.heap.size + 1]? = some (.cells #[.int .i64 0, .slice none 0 0, .int .i64 0, .int .i64 0, .int .i64 0, .slice none 0 0, .int .i64 0] 31 (0, 0)) := by
    rw [hX]
    have := blk_new (w.alloc (.cells #[.int .i64 k, .string s, .string s2, .int .i64 off, .int .i64 m, .slice dp dl dc] 34)) (.cells #[.int .i64 0, .slice none 0 0, .int .i64 0, .int .i64 0, .int .i64 0, .slice none 0 0, .int .i64 0] 31)
    rwa [World.size_alloc] at this
  rw [← hX]
  clear hX
  have f0 := blk_cell hX0 0
  have f1 := blk_cell hX0 1
  have f2 := blk_cell hX0 2
  have f3 := blk_cell hX0 3
  have f4 := blk_cell hX0 4
  have f5 := blk_cell hX0 5
  simp at f0 f1 f2 f3 f4 f5
  have HXB := Hid.mk hXB
  have HXS := Hid.mk hXs
  have HX0 := Hid.mk hX0
  have HX1 := Hid.mk hX1
  clear hXB hXs hX0 hX1
  go_wp2_with (first
    | (go_at_call 35; refine (HBO.out X).mono ?_; rintro e' W1 ⟨ao, c, bo, dd, rfl, hSA, hSB, hc1, hc2, hd1, hd2, hB1⟩
       have HY1 := Hid.mk ((hB1.block _ (lt_of_block HX1.out)).trans HX1.out)
       have HB1 : Hid (Below w.heap.size w W1) := Hid.mk (HXB.out.trans (hB1.mono HXB.out.size))
       have HP1 := Hid.mk (HFI.out W1 ao c HB1.out hSA)
       clear hSA hSB hc1 hc2 hd1 hd2 hB1 HBO f0 f1 f2 f3 f4 f5 )
    | (go_at_call 36; refine HP1.out.mono ?_; rintro e' W2 ⟨rfl, hB2⟩
       have HY2 := Hid.mk ((hB2.block _ (lt_of_block HY1.out)).trans HY1.out)
       have HB2 : Hid (Below w.heap.size w W2) := Hid.mk (HB1.out.trans (hB2.mono HB1.out.size))
       have g0 := HK.out _ HB2.out
       clear hB2 )
    | (go_at_call 37; refine (HUN.out W2 _ _).mono ?_; rintro e' W3 ⟨rfl, hB3⟩
       have hx3 := (hB3.block _ (lt_of_block HY2.out)).trans HY2.out
       have HY3 : Hid ((W3.alloc (.cells #[.pointer none, .string ⟨#[]⟩, .pointer none] 69)).heap[w.heap.size + 1]? = _) := Hid.mk ((Below.heap_alloc _ _ _ (lt_of_block hx3)).trans hx3)
       have HB3 : Hid (Below w.heap.size w (W3.alloc (.cells #[.pointer none, .string ⟨#[]⟩, .pointer none] 69))) := Hid.mk (by have := HB2.out.trans (hB3.mono HB2.out.size); exact this.alloc this.size _)
       clear hB3 hx3 g0 )
    | (go_at_call 19; refine (failed_any _ _).mono ?_; rintro e' W4 ⟨rfl, hb4⟩; have hbx := (hb4.block _ (lt_of_block HY3.out)).trans HY3.out; have z0 := blk_cell hbx 0; have y0 := blk_free hbx 0; have z1 := blk_cell hbx 1; have y1 := blk_free hbx 1; have z2 := blk_cell hbx 2; have y2 := blk_free hbx 2; have z3 := blk_cell hbx 3; have y3 := blk_free hbx 3; have z4 := blk_cell hbx 4; have y4 := blk_free hbx 4; have z5 := blk_cell hbx 5; have y5 := blk_free hbx 5; have z6 := blk_cell hbx 6; have y6 := blk_free hbx 6; simp at z0 z1 z2 z3 z4 z5 z6; have BXX := Hid.mk hbx; have HB4 := Hid.mk (HB3.out.trans (hb4.mono HB3.out.size)); unfold errV; clear hbx hb4))
  have hb7 := (box7 BXX.out (.int .i64 11) (.slice none 0 0) (.int .i64 0) (.int .i64 0) (.int .i64 0) (.slice none 0 0) (.int .i64 0)).1
  have ho7 := (box7 BXX.out (.int .i64 11) (.slice none 0 0) (.int .i64 0) (.int .i64 0) (.int .i64 0) (.slice none 0 0) (.int .i64 0)).2
  obtain ⟨Y, hY⟩ : ∃ Y, Y = (((((((W4.setCell ⟨w.heap.size + 1, 0, none⟩ (.int .i64 11)).setCell ⟨w.heap.size + 1, 1, none⟩ (.slice none 0 0)).setCell ⟨w.heap.size + 1, 2, none⟩ (.int .i64 0)).setCell ⟨w.heap.size + 1, 3, none⟩ (.int .i64 0)).setCell ⟨w.heap.size + 1, 4, none⟩ (.int .i64 0)).setCell ⟨w.heap.size + 1, 5, none⟩ (.slice none 0 0)).setCell ⟨w.heap.size + 1, 6, none⟩ (.int .i64 0)) := ⟨_, rfl⟩
  rw [← hY] at hb7 ho7 ⊢
  have k0 := blk_cell hb7 0
  have k1 := blk_cell hb7 1
  have k2 := blk_cell hb7 2
  have k3 := blk_cell hb7 3
  have k4 := blk_cell hb7 4
  have k5 := blk_cell hb7 5
  have k6 := blk_cell hb7 6
  simp at k0 k1 k2 k3 k4 k5 k6
  refine bodyPost_ret (v := errV 11) ?_ rfl ?_
  · simp [results, Tryz.results22, go_sem, errV, k0, k1, k2, k3, k4, k5, k6]
  · exact ⟨rfl, ((Only.of_below (S := fun _ => False) HB4.out (fun k h1 h2 => by omega)).trans ho7 (fun i hi => .inr (by omega))).below (Nat.le_refl _) (fun _ h => h.elim)⟩
set_option maxRecDepth 100000 in
set_option maxHeartbeats 4000000 in
theorem link_at (w : World) (t : Nat) (σ : Tr) (Ls : List Lay) (hT : TrAt w t σ Ls) (k : Int) (s s2 : ByteArray) (off m : Int) (dp : Option Addr) (dl dc : Nat) (hs : s.size ≤ 16777216) (hs2 : s2.size ≤ 16777216) (L M : List (List UInt8)) (q : List UInt8) (h1 : splitL (ofS s) = some L) (h2 : splitL (ofS s2) = some (M ++ [q])) (j : Nat) (hf : wayE σ.nodes 0 L = (some j, 0)) (hjk : (nodeAt σ.nodes j).isDir = false) (e : Int) (hu : unE (spotE σ.nodes M q) = e) (hne : e ≠ 0) :
    Calls Tryz.prog 22 #[ptrV t, callV k s s2 off m (.slice dp dl dc)] w fun x w' => x = .returned (errV e) ∧ Below w.heap.size w w' := by
  have HBO : Hid (∀ W, _) := Hid.mk (fun W => both_yes W k s s2 off m dp dl dc hs hs2 h1 h2)
  have hj : j < σ.nodes.length := wayE_lt hT L hf
  have k1 : (nodeAt σ.nodes j).kind = 1 := by rcases kind_two (nodeAt σ.nodes j) with ⟨q1, q2⟩ | ⟨q1, q2⟩ <;> first | exact q2 | (rw [hjk] at q1; cases q1)
  have HK : Hid (∀ W, Below w.heap.size w W → W.cell? ⟨locL Ls j, 0, none⟩ = some (.int .i64 1)) := Hid.mk (fun W hB => by have := ((hT.below rfl hB).kindAt hj).1; rwa [k1] at this)
  obtain ⟨b1, b2⟩ := split_bounds h1
  have HFI : Hid (∀ W ao c, Below w.heap.size w W → SAt W ao L.length L → _) := Hid.mk (fun W ao c (hB : Below w.heap.size w W) hS => find_any W t σ Ls (hT.below rfl hB) ao c L hS b1 (by omega))
  rw [hf] at HFI
  simp only [optV, ptrV] at HFI
  obtain ⟨b3, b4⟩ := split_bounds h2
  have hln2 : (M ++ [q]).length = M.length + 1 := by simp
  rw [hln2] at HBO
  have HUN : Hid (∀ W ao c, Below w.heap.size w W → SAt W ao (M.length + 1) (M ++ [q]) → M.length + 1 ≤ c → c ≤ 9223372036854775807 → _) := Hid.mk (fun W ao c (hB : Below w.heap.size w W) hS hc1 hc2 => unnamed_any W t σ Ls (hT.below rfl hB) ao c M q hS b3 (by omega) hc1 hc2)
  rw [hu] at HUN
  generalize (spotE σ.nodes M q).2 = sp at *
  have hsv : ∃ x0 x1 x2, spotV (locL Ls) sp = .agg #[.pointer x0, .string x1, .pointer x2] := by
    cases sp with
    | none => exact ⟨_, _, _, rfl⟩
    | some sp => obtain ⟨q, hq, _⟩ := opt_ptr (locL Ls) sp.named; exact ⟨some ⟨locL Ls sp.dir, 0, none⟩, mkS sp.name, q, by simp only [spotV, hq, ptrV, strV]⟩
  obtain ⟨x0, x1, x2, hsv⟩ := hsv
  rw [hsv] at HUN
  unfold ptrV at HUN
  generalize L.length = nl at *
  generalize M.length = nm at *
  clear hT hs hs2 h1 h2 hf b1 b2 b3 b4 hj hjk k1 hln2 hu hsv
  unfold callV at HBO
  unfold callV ptrV at *
  go_enter Tryz.func22, Tryz.ntmps22
  go_wp2_with fail
  obtain ⟨X, hX⟩ : ∃ X, X = (w.alloc (.cells #[.int .i64 k, .string s, .string s2, .int .i64 off, .int .i64 m, .slice dp dl dc] 34)).alloc (.cells #[.int .i64 0, .slice none 0 0, .int .i64 0, .int .i64 0, .int .i64 0, .slice none 0 0, .int .i64 0] 31) := ⟨_, rfl⟩
  have hXB : Below w.heap.size w X := by rw [hX]; exact ((Below.refl _ w).alloc (Nat.le_refl _) _).alloc (by simp) _
  have hXs : X.heap.size = w.heap.size + 2 := by rw [hX]; simp
  have hX0 : X.heap[w.heap.size]? = some (.cells #[.int .i64 k, .string s, .string s2, .int .i64 off, .int .i64 m, .slice dp dl dc] 34 (0, 0)) := by rw [hX, Below.heap_alloc _ _ _ (by simp)]; exact blk_new w _
  have hX1 : X.heap[w.heap.size + 1]? = some (.cells #[.int .i64 0, .slice none 0 0, .int .i64 0, .int .i64 0, .int .i64 0, .slice none 0 0, .int .i64 0] 31 (0, 0)) := by
    rw [hX]
    have := blk_new (w.alloc (.cells #[.int .i64 k, .string s, .string s2, .int .i64 off, .int .i64 m, .slice dp dl dc] 34)) (.cells #[.int .i64 0, .slice none 0 0, .int .i64 0, .int .i64 0, .int .i64 0, .slice none 0 0, .int .i64 0] 31)
    rwa [World.size_alloc] at this
  rw [← hX]
  clear hX
  have f0 := blk_cell hX0 0
  have f1 := blk_cell hX0 1
  have f2 := blk_cell hX0 2
  have f3 := blk_cell hX0 3
  have f4 := blk_cell hX0 4
  have f5 := blk_cell hX0 5
  simp at f0 f1 f2 f3 f4 f5
  have HXB := Hid.mk hXB
  have HXS := Hid.mk hXs
  have HX0 := Hid.mk hX0
  have HX1 := Hid.mk hX1
  clear hXB hXs hX0 hX1
  go_wp2_with (first
    | (go_at_call 35; refine (HBO.out X).mono ?_; rintro e' W1 ⟨ao, c, bo, dd, rfl, hSA, hSB, hc1, hc2, hd1, hd2, hB1⟩
       have HY1 := Hid.mk ((hB1.block _ (lt_of_block HX1.out)).trans HX1.out)
       have HB1 : Hid (Below w.heap.size w W1) := Hid.mk (HXB.out.trans (hB1.mono HXB.out.size))
       have HP1 := Hid.mk (HFI.out W1 ao c HB1.out hSA)
       have HSB := Hid.mk hSB
       have HD1 := Hid.mk hd1
       have HD2 := Hid.mk hd2
       have HBS := Hid.mk HB1.out.size
       clear hSA hSB hc1 hc2 hd1 hd2 hB1 HBO f0 f1 f2 f3 f4 f5 )
    | (go_at_call 36; refine HP1.out.mono ?_; rintro e' W2 ⟨rfl, hB2⟩
       have HY2 := Hid.mk ((hB2.block _ (lt_of_block HY1.out)).trans HY1.out)
       have HB2 : Hid (Below w.heap.size w W2) := Hid.mk (HB1.out.trans (hB2.mono HB1.out.size))
       have g0 := HK.out _ HB2.out
       have HP2 := Hid.mk (HUN.out W2 bo dd HB2.out (HSB.out.below hB2) HD1.out HD2.out)
       clear hB2 )
    | (go_at_call 37; refine HP2.out.mono ?_; rintro e' W3 ⟨rfl, hB3⟩
       have hx3 := (hB3.block _ (lt_of_block HY2.out)).trans HY2.out
       have HY3 : Hid ((W3.alloc (.cells #[.pointer x0, .string x1, .pointer x2] 69)).heap[w.heap.size + 1]? = _) := Hid.mk ((Below.heap_alloc _ _ _ (lt_of_block hx3)).trans hx3)
       have HB3 : Hid (Below w.heap.size w (W3.alloc (.cells #[.pointer x0, .string x1, .pointer x2] 69))) := Hid.mk (by have := HB2.out.trans (hB3.mono HB2.out.size); exact this.alloc this.size _)
       clear hB3 hx3 g0 )
    | (go_at_call 19; refine (failed_any _ _).mono ?_; rintro e' W4 ⟨rfl, hb4⟩; have hbx := (hb4.block _ (lt_of_block HY3.out)).trans HY3.out; have z0 := blk_cell hbx 0; have y0 := blk_free hbx 0; have z1 := blk_cell hbx 1; have y1 := blk_free hbx 1; have z2 := blk_cell hbx 2; have y2 := blk_free hbx 2; have z3 := blk_cell hbx 3; have y3 := blk_free hbx 3; have z4 := blk_cell hbx 4; have y4 := blk_free hbx 4; have z5 := blk_cell hbx 5; have y5 := blk_free hbx 5; have z6 := blk_cell hbx 6; have y6 := blk_free hbx 6; simp at z0 z1 z2 z3 z4 z5 z6; have BXX := Hid.mk hbx; have HB4 := Hid.mk (HB3.out.trans (hb4.mono HB3.out.size)); unfold errV; clear hbx hb4))
  have hb7 := (box7 BXX.out (.int .i64 e) (.slice none 0 0) (.int .i64 0) (.int .i64 0) (.int .i64 0) (.slice none 0 0) (.int .i64 0)).1
  have ho7 := (box7 BXX.out (.int .i64 e) (.slice none 0 0) (.int .i64 0) (.int .i64 0) (.int .i64 0) (.slice none 0 0) (.int .i64 0)).2
  obtain ⟨Y, hY⟩ : ∃ Y, Y = (((((((W4.setCell ⟨w.heap.size + 1, 0, none⟩ (.int .i64 e)).setCell ⟨w.heap.size + 1, 1, none⟩ (.slice none 0 0)).setCell ⟨w.heap.size + 1, 2, none⟩ (.int .i64 0)).setCell ⟨w.heap.size + 1, 3, none⟩ (.int .i64 0)).setCell ⟨w.heap.size + 1, 4, none⟩ (.int .i64 0)).setCell ⟨w.heap.size + 1, 5, none⟩ (.slice none 0 0)).setCell ⟨w.heap.size + 1, 6, none⟩ (.int .i64 0)) := ⟨_, rfl⟩
  rw [← hY] at hb7 ho7 ⊢
  have k0 := blk_cell hb7 0
  have k1 := blk_cell hb7 1
  have k2 := blk_cell hb7 2
  have k3 := blk_cell hb7 3
  have k4 := blk_cell hb7 4
  have k5 := blk_cell hb7 5
  have k6 := blk_cell hb7 6
  simp at k0 k1 k2 k3 k4 k5 k6
  refine bodyPost_ret (v := errV e) ?_ rfl ?_
  · simp [results, Tryz.results22, go_sem, errV, k0, k1, k2, k3, k4, k5, k6]
  · exact ⟨rfl, ((Only.of_below (S := fun _ => False) HB4.out (fun k h1 h2 => by omega)).trans ho7 (fun i hi => .inr (by omega))).below (Nat.le_refl _) (fun _ h => h.elim)⟩
set_option maxRecDepth 100000 in
set_option maxHeartbeats 4000000 in
theorem rename_root1 (w : World) (t : Nat) (σ : Tr) (Ls : List Lay) (_hT : TrAt w t σ Ls) (k : Int) (s s2 : ByteArray) (off m : Int) (dp : Option Addr) (dl dc : Nat) (hs : s.size ≤ 16777216) (hs2 : s2.size ≤ 16777216) (M : List (List UInt8)) (h1 : splitL (ofS s) = some []) (h2 : splitL (ofS s2) = some M) :
    Calls Tryz.prog 25 #[ptrV t, callV k s s2 off m (.slice dp dl dc)] w fun x w' => x = .returned (errV 18) ∧ Below w.heap.size w w' := by
  have HBO : Hid (∀ W, _) := Hid.mk (fun W => both_yes W k s s2 off m dp dl dc hs hs2 h1 h2)
  simp only [List.length_nil] at HBO
  generalize M.length = nm at *
  clear hs hs2 h1 h2
  unfold callV at HBO
  unfold callV ptrV at *
  go_enter Tryz.func25, Tryz.ntmps25
  go_wp2_with fail
  obtain ⟨X, hX⟩ : ∃ X, X = (w.alloc (.cells #[.int .i64 k, .string s, .string s2, .int .i64 off, .int .i64 m, .slice dp dl dc] 34)).alloc (.cells #[.int .i64 0, .slice none 0 0, .int .i64 0, .int .i64 0, .int .i64 0, .slice none 0 0, .int .i64 0] 31) := ⟨_, rfl⟩
  have hXB : Below w.heap.size w X := by rw [hX]; exact ((Below.refl _ w).alloc (Nat.le_refl _) _).alloc (by simp) _
  have hXs : X.heap.size = w.heap.size + 2 := by rw [hX]; simp
  have hX0 : X.heap[w.heap.size]? = some (.cells #[.int .i64 k, .string s, .string s2, .int .i64 off, .int .i64 m, .slice dp dl dc] 34 (0, 0)) := by rw [hX, Below.heap_alloc _ _ _ (by simp)]; exact blk_new w _
  have hX1 : X.heap[w.heap.size + 1]? = some (.cells #[.int .i64 0, .slice none 0 0, .int .i64 0, .int .i64 0, .int .i64 0, .slice none 0 0, .int .i64 0] 31 (0, 0)) := by
    rw [hX]
    have := blk_new (w.alloc (.cells #[.int .i64 k, .string s, .string s2, .int .i64 off, .int .i64 m, .slice dp dl dc] 34)) (.cells #[.int .i64 0, .slice none 0 0, .int .i64 0, .int .i64 0, .int .i64 0, .slice none 0 0, .int .i64 0] 31)
    rwa [World.size_alloc] at this
  rw [← hX]
  clear hX
  have f0 := blk_cell hX0 0
  have f1 := blk_cell hX0 1
  have f2 := blk_cell hX0 2
  have f3 := blk_cell hX0 3
  have f4 := blk_cell hX0 4
  have f5 := blk_cell hX0 5
  simp at f0 f1 f2 f3 f4 f5
  have HXB := Hid.mk hXB
  have HXS := Hid.mk hXs
  have HX0 := Hid.mk hX0
  have HX1 := Hid.mk hX1
  clear hXB hXs hX0 hX1
  go_wp2_with (first
    | (go_at_call 35; refine (HBO.out X).mono ?_; rintro e' W1 ⟨ao, c, bo, dd, rfl, hSA, hSB, hc1, hc2, hd1, hd2, hB1⟩
       have HY1 := Hid.mk ((hB1.block _ (lt_of_block HX1.out)).trans HX1.out)
       have HB1 : Hid (Below w.heap.size w W1) := Hid.mk (HXB.out.trans (hB1.mono HXB.out.size))
       clear hSA hSB hc1 hc2 hd1 hd2 hB1 HBO f0 f1 f2 f3 f4 f5 )
    | (go_at_call 19; refine (failed_any _ _).mono ?_; rintro e' W4 ⟨rfl, hb4⟩; have hbx := (hb4.block _ (lt_of_block HY1.out)).trans HY1.out; have z0 := blk_cell hbx 0; have y0 := blk_free hbx 0; have z1 := blk_cell hbx 1; have y1 := blk_free hbx 1; have z2 := blk_cell hbx 2; have y2 := blk_free hbx 2; have z3 := blk_cell hbx 3; have y3 := blk_free hbx 3; have z4 := blk_cell hbx 4; have y4 := blk_free hbx 4; have z5 := blk_cell hbx 5; have y5 := blk_free hbx 5; have z6 := blk_cell hbx 6; have y6 := blk_free hbx 6; simp at z0 z1 z2 z3 z4 z5 z6; have BXX := Hid.mk hbx; have HB4 := Hid.mk (HB1.out.trans (hb4.mono HB1.out.size)); unfold errV; clear hbx hb4))
  have hb7 := (box7 BXX.out (.int .i64 18) (.slice none 0 0) (.int .i64 0) (.int .i64 0) (.int .i64 0) (.slice none 0 0) (.int .i64 0)).1
  have ho7 := (box7 BXX.out (.int .i64 18) (.slice none 0 0) (.int .i64 0) (.int .i64 0) (.int .i64 0) (.slice none 0 0) (.int .i64 0)).2
  obtain ⟨Y, hY⟩ : ∃ Y, Y = (((((((W4.setCell ⟨w.heap.size + 1, 0, none⟩ (.int .i64 18)).setCell ⟨w.heap.size + 1, 1, none⟩ (.slice none 0 0)).setCell ⟨w.heap.size + 1, 2, none⟩ (.int .i64 0)).setCell ⟨w.heap.size + 1, 3, none⟩ (.int .i64 0)).setCell ⟨w.heap.size + 1, 4, none⟩ (.int .i64 0)).setCell ⟨w.heap.size + 1, 5, none⟩ (.slice none 0 0)).setCell ⟨w.heap.size + 1, 6, none⟩ (.int .i64 0)) := ⟨_, rfl⟩
  rw [← hY] at hb7 ho7 ⊢
  have k0 := blk_cell hb7 0
  have k1 := blk_cell hb7 1
  have k2 := blk_cell hb7 2
  have k3 := blk_cell hb7 3
  have k4 := blk_cell hb7 4
  have k5 := blk_cell hb7 5
  have k6 := blk_cell hb7 6
  simp at k0 k1 k2 k3 k4 k5 k6
  refine bodyPost_ret (v := errV 18) ?_ rfl ?_
  · simp [results, Tryz.results25, go_sem, errV, k0, k1, k2, k3, k4, k5, k6]
  · exact ⟨rfl, ((Only.of_below (S := fun _ => False) HB4.out (fun k h1 h2 => by omega)).trans ho7 (fun i hi => .inr (by omega))).below (Nat.le_refl _) (fun _ h => h.elim)⟩
set_option maxRecDepth 100000 in
set_option maxHeartbeats 4000000 in
theorem rename_root2 (w : World) (t : Nat) (σ : Tr) (Ls : List Lay) (_hT : TrAt w t σ Ls) (k : Int) (s s2 : ByteArray) (off m : Int) (dp : Option Addr) (dl dc : Nat) (hs : s.size ≤ 16777216) (hs2 : s2.size ≤ 16777216) (L : List (List UInt8)) (p : List UInt8) (h1 : splitL (ofS s) = some (L ++ [p])) (h2 : splitL (ofS s2) = some []) :
    Calls Tryz.prog 25 #[ptrV t, callV k s s2 off m (.slice dp dl dc)] w fun x w' => x = .returned (errV 18) ∧ Below w.heap.size w w' := by
  have HBO : Hid (∀ W, _) := Hid.mk (fun W => both_yes W k s s2 off m dp dl dc hs hs2 h1 h2)
  have hln : (L ++ [p]).length = L.length + 1 := by simp
  rw [hln] at HBO
  simp only [List.length_nil] at HBO
  have hne1 : ¬ ((L.length : Int) + 1 = 0) := by omega
  have hbe1 : (((L.length : Int) + 1) == 0) = false := by simp; omega
  generalize L.length = nl at *
  clear hs hs2 h1 h2 hln
  unfold callV at HBO
  unfold callV ptrV at *
  go_enter Tryz.func25, Tryz.ntmps25
  go_wp2_with fail
  obtain ⟨X, hX⟩ : ∃ X, X = (w.alloc (.cells #[.int .i64 k, .string s, .string s2, .int .i64 off, .int .i64 m, .slice dp dl dc] 34)).alloc (.cells #[.int .i64 0, .slice none 0 0, .int .i64 0, .int .i64 0, .int .i64 0, .slice none 0 0, .int .i64 0] 31) := ⟨_, rfl⟩
  have hXB : Below w.heap.size w X := by rw [hX]; exact ((Below.refl _ w).alloc (Nat.le_refl _) _).alloc (by simp) _
  have hXs : X.heap.size = w.heap.size + 2 := by rw [hX]; simp
  have hX0 : X.heap[w.heap.size]? = some (.cells #[.int .i64 k, .string s, .string s2, .int .i64 off, .int .i64 m, .slice dp dl dc] 34 (0, 0)) := by rw [hX, Below.heap_alloc _ _ _ (by simp)]; exact blk_new w _
  have hX1 : X.heap[w.heap.size + 1]? = some (.cells #[.int .i64 0, .slice none 0 0, .int .i64 0, .int .i64 0, .int .i64 0, .slice none 0 0, .int .i64 0] 31 (0, 0)) := by
    rw [hX]
    have := blk_new (w.alloc (.cells #[.int .i64 k, .string s, .string s2, .int .i64 off, .int .i64 m, .slice dp dl dc] 34)) (.cells #[.int .i64 0, .slice none 0 0, .int .i64 0, .int .i64 0, .int .i64 0, .slice none 0 0, .int .i64 0] 31)
    rwa [World.size_alloc] at this
  rw [← hX]
  clear hX
  have f0 := blk_cell hX0 0
  have f1 := blk_cell hX0 1
  have f2 := blk_cell hX0 2
  have f3 := blk_cell hX0 3
  have f4 := blk_cell hX0 4
  have f5 := blk_cell hX0 5
  simp at f0 f1 f2 f3 f4 f5
  have HXB := Hid.mk hXB
  have HXS := Hid.mk hXs
  have HX0 := Hid.mk hX0
  have HX1 := Hid.mk hX1
  clear hXB hXs hX0 hX1
  go_wp2_with (first
    | (go_at_call 35; refine (HBO.out X).mono ?_; rintro e' W1 ⟨ao, c, bo, dd, rfl, hSA, hSB, hc1, hc2, hd1, hd2, hB1⟩
       have HY1 := Hid.mk ((hB1.block _ (lt_of_block HX1.out)).trans HX1.out)
       have HB1 : Hid (Below w.heap.size w W1) := Hid.mk (HXB.out.trans (hB1.mono HXB.out.size))
       clear hSA hSB hc1 hc2 hd1 hd2 hB1 HBO f0 f1 f2 f3 f4 f5 )
    | (go_at_call 19; refine (failed_any _ _).mono ?_; rintro e' W4 ⟨rfl, hb4⟩; have hbx := (hb4.block _ (lt_of_block HY1.out)).trans HY1.out; have z0 := blk_cell hbx 0; have y0 := blk_free hbx 0; have z1 := blk_cell hbx 1; have y1 := blk_free hbx 1; have z2 := blk_cell hbx 2; have y2 := blk_free hbx 2; have z3 := blk_cell hbx 3; have y3 := blk_free hbx 3; have z4 := blk_cell hbx 4; have y4 := blk_free hbx 4; have z5 := blk_cell hbx 5; have y5 := blk_free hbx 5; have z6 := blk_cell hbx 6; have y6 := blk_free hbx 6; simp at z0 z1 z2 z3 z4 z5 z6; have BXX := Hid.mk hbx; have HB4 := Hid.mk (HB1.out.trans (hb4.mono HB1.out.size)); unfold errV; clear hbx hb4))
  have hb7 := (box7 BXX.out (.int .i64 18) (.slice none 0 0) (.int .i64 0) (.int .i64 0) (.int .i64 0) (.slice none 0 0) (.int .i64 0)).1
  have ho7 := (box7 BXX.out (.int .i64 18) (.slice none 0 0) (.int .i64 0) (.int .i64 0) (.int .i64 0) (.slice none 0 0) (.int .i64 0)).2
  obtain ⟨Y, hY⟩ : ∃ Y, Y = (((((((W4.setCell ⟨w.heap.size + 1, 0, none⟩ (.int .i64 18)).setCell ⟨w.heap.size + 1, 1, none⟩ (.slice none 0 0)).setCell ⟨w.heap.size + 1, 2, none⟩ (.int .i64 0)).setCell ⟨w.heap.size + 1, 3, none⟩ (.int .i64 0)).setCell ⟨w.heap.size + 1, 4, none⟩ (.int .i64 0)).setCell ⟨w.heap.size + 1, 5, none⟩ (.slice none 0 0)).setCell ⟨w.heap.size + 1, 6, none⟩ (.int .i64 0)) := ⟨_, rfl⟩
  rw [← hY] at hb7 ho7 ⊢
  have k0 := blk_cell hb7 0
  have k1 := blk_cell hb7 1
  have k2 := blk_cell hb7 2
  have k3 := blk_cell hb7 3
  have k4 := blk_cell hb7 4
  have k5 := blk_cell hb7 5
  have k6 := blk_cell hb7 6
  simp at k0 k1 k2 k3 k4 k5 k6
  refine bodyPost_ret (v := errV 18) ?_ rfl ?_
  · simp [results, Tryz.results25, go_sem, errV, k0, k1, k2, k3, k4, k5, k6]
  · exact ⟨rfl, ((Only.of_below (S := fun _ => False) HB4.out (fun k h1 h2 => by omega)).trans ho7 (fun i hi => .inr (by omega))).below (Nat.le_refl _) (fun _ h => h.elim)⟩
set_option maxRecDepth 100000 in
set_option maxHeartbeats 4000000 in
theorem rename_no1 (w : World) (t : Nat) (σ : Tr) (Ls : List Lay) (hT : TrAt w t σ Ls) (k : Int) (s s2 : ByteArray) (off m : Int) (dp : Option Addr) (dl dc : Nat) (hs : s.size ≤ 16777216) (hs2 : s2.size ≤ 16777216) (L M : List (List UInt8)) (p q : List UInt8) (h1 : splitL (ofS s) = some (L ++ [p])) (h2 : splitL (ofS s2) = some (M ++ [q])) (e : Int) (he : spotE σ.nodes L p = (e, none)) (hne : e ≠ 0) :
    Calls Tryz.prog 25 #[ptrV t, callV k s s2 off m (.slice dp dl dc)] w fun x w' => x = .returned (errV e) ∧ Below w.heap.size w w' := by
  have HBO : Hid (∀ W, _) := Hid.mk (fun W => both_yes W k s s2 off m dp dl dc hs hs2 h1 h2)
  obtain ⟨b1, b2⟩ := split_bounds h1
  obtain ⟨b3, b4⟩ := split_bounds h2
  have hln : (L ++ [p]).length = L.length + 1 := by simp
  have hln2 : (M ++ [q]).length = M.length + 1 := by simp
  rw [hln, hln2] at HBO
  have HS1 : Hid (∀ W ao c, Below w.heap.size w W → SAt W ao (L.length + 1) (L ++ [p]) → L.length + 1 ≤ c → c ≤ 9223372036854775807 → _) := Hid.mk (fun W ao c (hB : Below w.heap.size w W) hS hc1 hc2 => spot_any W t σ Ls (hT.below rfl hB) ao c L p hS b1 (by omega) hc1 hc2)
  rw [he] at HS1
  simp only [spotV, ptrV] at HS1
  have hne1 : ¬ ((L.length : Int) + 1 = 0) := by omega
  have hbe1 : (((L.length : Int) + 1) == 0) = false := by simp; omega
  have hne2 : ¬ ((M.length : Int) + 1 = 0) := by omega
  have hbe2 : (((M.length : Int) + 1) == 0) = false := by simp; omega
  generalize L.length = nl at *
  generalize M.length = nm at *
  clear hT hs hs2 h1 h2 he b1 b2 b3 b4 hln hln2
  unfold callV at HBO
  unfold callV ptrV at *
  go_enter Tryz.func25, Tryz.ntmps25
  go_wp2_with fail
  obtain ⟨X, hX⟩ : ∃ X, X = (w.alloc (.cells #[.int .i64 k, .string s, .string s2, .int .i64 off, .int .i64 m, .slice dp dl dc] 34)).alloc (.cells #[.int .i64 0, .slice none 0 0, .int .i64 0, .int .i64 0, .int .i64 0, .slice none 0 0, .int .i64 0] 31) := ⟨_, rfl⟩
  have hXB : Below w.heap.size w X := by rw [hX]; exact ((Below.refl _ w).alloc (Nat.le_refl _) _).alloc (by simp) _
  have hXs : X.heap.size = w.heap.size + 2 := by rw [hX]; simp
  have hX0 : X.heap[w.heap.size]? = some (.cells #[.int .i64 k, .string s, .string s2, .int .i64 off, .int .i64 m, .slice dp dl dc] 34 (0, 0)) := by rw [hX, Below.heap_alloc _ _ _ (by simp)]; exact blk_new w _
  have hX1 : X.heap[w.heap.size + 1]? = some (.cells #[.int .i64 0, .slice none 0 0, .int .i64 0, .int .i64 0, .int .i64 0, .slice none 0 0, .int .i64 0] 31 (0, 0)) := by
    rw [hX]
    have := blk_new (w.alloc (.cells #[.int .i64 k, .string s, .string s2, .int .i64 off, .int .i64 m, .slice dp dl dc] 34)) (.cells #[.int .i64 0, .slice none 0 0, .int .i64 0, .int .i64 0, .int .i64 0, .slice none 0 0, .int .i64 0] 31)
    rwa [World.size_alloc] at this
  rw [← hX]
  clear hX
  have f0 := blk_cell hX0 0
  have f1 := blk_cell hX0 1
  have f2 := blk_cell hX0 2
  have f3 := blk_cell hX0 3
  have f4 := blk_cell hX0 4
  have f5 := blk_cell hX0 5
  simp at f0 f1 f2 f3 f4 f5
  have HXB := Hid.mk hXB
  have HXS := Hid.mk hXs
  have HX0 := Hid.mk hX0
  have HX1 := Hid.mk hX1
  clear hXB hXs hX0 hX1
  go_wp2_with (first
    | (go_at_call 35; refine (HBO.out X).mono ?_; rintro e' W1 ⟨ao, c, bo, dd, rfl, hSA, hSB, hc1, hc2, hd1, hd2, hB1⟩
       have HY1 := Hid.mk ((hB1.block _ (lt_of_block HX1.out)).trans HX1.out)
       have HB1 : Hid (Below w.heap.size w W1) := Hid.mk (HXB.out.trans (hB1.mono HXB.out.size))
       have HP1 := Hid.mk (HS1.out W1 ao c HB1.out hSA hc1 hc2)
       clear hSA hSB hc1 hc2 hd1 hd2 hB1 HBO f0 f1 f2 f3 f4 f5 )
    | (go_at_call 44; refine HP1.out.mono ?_; rintro e' W2 ⟨rfl, hB2⟩
       have hx3 := (hB2.block _ (lt_of_block HY1.out)).trans HY1.out
       have HY3 : Hid ((W2.alloc (.cells #[.pointer none, .string ⟨#[]⟩, .pointer none] 69)).heap[w.heap.size + 1]? = _) := Hid.mk ((Below.heap_alloc _ _ _ (lt_of_block hx3)).trans hx3)
       have HB3 : Hid (Below w.heap.size w (W2.alloc (.cells #[.pointer none, .string ⟨#[]⟩, .pointer none] 69))) := Hid.mk (by have := HB1.out.trans (hB2.mono HB1.out.size); exact this.alloc this.size _)
       clear hB2 hx3 )
    | (go_at_call 19; refine (failed_any _ _).mono ?_; rintro e' W4 ⟨rfl, hb4⟩; have hbx := (hb4.block _ (lt_of_block HY3.out)).trans HY3.out; have z0 := blk_cell hbx 0; have y0 := blk_free hbx 0; have z1 := blk_cell hbx 1; have y1 := blk_free hbx 1; have z2 := blk_cell hbx 2; have y2 := blk_free hbx 2; have z3 := blk_cell hbx 3; have y3 := blk_free hbx 3; have z4 := blk_cell hbx 4; have y4 := blk_free hbx 4; have z5 := blk_cell hbx 5; have y5 := blk_free hbx 5; have z6 := blk_cell hbx 6; have y6 := blk_free hbx 6; simp at z0 z1 z2 z3 z4 z5 z6; have BXX := Hid.mk hbx; have HB4 := Hid.mk (HB3.out.trans (hb4.mono HB3.out.size)); unfold errV; clear hbx hb4))
  have hb7 := (box7 BXX.out (.int .i64 e) (.slice none 0 0) (.int .i64 0) (.int .i64 0) (.int .i64 0) (.slice none 0 0) (.int .i64 0)).1
  have ho7 := (box7 BXX.out (.int .i64 e) (.slice none 0 0) (.int .i64 0) (.int .i64 0) (.int .i64 0) (.slice none 0 0) (.int .i64 0)).2
  obtain ⟨Y, hY⟩ : ∃ Y, Y = (((((((W4.setCell ⟨w.heap.size + 1, 0, none⟩ (.int .i64 e)).setCell ⟨w.heap.size + 1, 1, none⟩ (.slice none 0 0)).setCell ⟨w.heap.size + 1, 2, none⟩ (.int .i64 0)).setCell ⟨w.heap.size + 1, 3, none⟩ (.int .i64 0)).setCell ⟨w.heap.size + 1, 4, none⟩ (.int .i64 0)).setCell ⟨w.heap.size + 1, 5, none⟩ (.slice none 0 0)).setCell ⟨w.heap.size + 1, 6, none⟩ (.int .i64 0)) := ⟨_, rfl⟩
  rw [← hY] at hb7 ho7 ⊢
  have k0 := blk_cell hb7 0
  have k1 := blk_cell hb7 1
  have k2 := blk_cell hb7 2
  have k3 := blk_cell hb7 3
  have k4 := blk_cell hb7 4
  have k5 := blk_cell hb7 5
  have k6 := blk_cell hb7 6
  simp at k0 k1 k2 k3 k4 k5 k6
  refine bodyPost_ret (v := errV e) ?_ rfl ?_
  · simp [results, Tryz.results25, go_sem, errV, k0, k1, k2, k3, k4, k5, k6]
  · exact ⟨rfl, ((Only.of_below (S := fun _ => False) HB4.out (fun k h1 h2 => by omega)).trans ho7 (fun i hi => .inr (by omega))).below (Nat.le_refl _) (fun _ h => h.elim)⟩
set_option maxRecDepth 100000 in
set_option maxHeartbeats 4000000 in
theorem rename_none1 (w : World) (t : Nat) (σ : Tr) (Ls : List Lay) (hT : TrAt w t σ Ls) (k : Int) (s s2 : ByteArray) (off m : Int) (dp : Option Addr) (dl dc : Nat) (hs : s.size ≤ 16777216) (hs2 : s2.size ≤ 16777216) (L M : List (List UInt8)) (p q : List UInt8) (h1 : splitL (ofS s) = some (L ++ [p])) (h2 : splitL (ofS s2) = some (M ++ [q])) (d : Nat) (he : spotE σ.nodes L p = (0, some ⟨d, p, none⟩)) :
    Calls Tryz.prog 25 #[ptrV t, callV k s s2 off m (.slice dp dl dc)] w fun x w' => x = .returned (errV 10) ∧ Below w.heap.size w w' := by
  have HBO : Hid (∀ W, _) := Hid.mk (fun W => both_yes W k s s2 off m dp dl dc hs hs2 h1 h2)
  obtain ⟨b1, b2⟩ := split_bounds h1
  obtain ⟨b3, b4⟩ := split_bounds h2
  have hln : (L ++ [p]).length = L.length + 1 := by simp
  have hln2 : (M ++ [q]).length = M.length + 1 := by simp
  rw [hln, hln2] at HBO
  have HS1 : Hid (∀ W ao c, Below w.heap.size w W → SAt W ao (L.length + 1) (L ++ [p]) → L.length + 1 ≤ c → c ≤ 9223372036854775807 → _) := Hid.mk (fun W ao c (hB : Below w.heap.size w W) hS hc1 hc2 => spot_any W t σ Ls (hT.below rfl hB) ao c L p hS b1 (by omega) hc1 hc2)
  rw [he] at HS1
  simp only [spotV, optV, ptrV, strV] at HS1
  have hne1 : ¬ ((L.length : Int) + 1 = 0) := by omega
  have hbe1 : (((L.length : Int) + 1) == 0) = false := by simp; omega
  have hne2 : ¬ ((M.length : Int) + 1 = 0) := by omega
  have hbe2 : (((M.length : Int) + 1) == 0) = false := by simp; omega
  generalize L.length = nl at *
  generalize M.length = nm at *
  clear hT hs hs2 h1 h2 he b1 b2 b3 b4 hln hln2
  unfold callV at HBO
  unfold callV ptrV at *
  go_enter Tryz.func25, Tryz.ntmps25
  go_wp2_with fail
  obtain ⟨X, hX⟩ : ∃ X, X = (w.alloc (.cells #[.int .i64 k, .string s, .string s2, .int .i64 off, .int .i64 m, .slice dp dl dc] 34)).alloc (.cells #[.int .i64 0, .slice none 0 0, .int .i64 0, .int .i64 0, .int .i64 0, .slice none 0 0, .int .i64 0] 31) := ⟨_, rfl⟩
  have hXB : Below w.heap.size w X := by rw [hX]; exact ((Below.refl _ w).alloc (Nat.le_refl _) _).alloc (by simp) _
  have hXs : X.heap.size = w.heap.size + 2 := by rw [hX]; simp
  have hX0 : X.heap[w.heap.size]? = some (.cells #[.int .i64 k, .string s, .string s2, .int .i64 off, .int .i64 m, .slice dp dl dc] 34 (0, 0)) := by rw [hX, Below.heap_alloc _ _ _ (by simp)]; exact blk_new w _
  have hX1 : X.heap[w.heap.size + 1]? = some (.cells #[.int .i64 0, .slice none 0 0, .int .i64 0, .int .i64 0, .int .i64 0, .slice none 0 0, .int .i64 0] 31 (0, 0)) := by
    rw [hX]
    have := blk_new (w.alloc (.cells #[.int .i64 k, .string s, .string s2, .int .i64 off, .int .i64 m, .slice dp dl dc] 34)) (.cells #[.int .i64 0, .slice none 0 0, .int .i64 0, .int .i64 0, .int .i64 0, .slice none 0 0, .int .i64 0] 31)
    rwa [World.size_alloc] at this
  rw [← hX]
  clear hX
  have f0 := blk_cell hX0 0
  have f1 := blk_cell hX0 1
  have f2 := blk_cell hX0 2
  have f3 := blk_cell hX0 3
  have f4 := blk_cell hX0 4
  have f5 := blk_cell hX0 5
  simp at f0 f1 f2 f3 f4 f5
  have HXB := Hid.mk hXB
  have HXS := Hid.mk hXs
  have HX0 := Hid.mk hX0
  have HX1 := Hid.mk hX1
  clear hXB hXs hX0 hX1
  go_wp2_with (first
    | (go_at_call 35; refine (HBO.out X).mono ?_; rintro e' W1 ⟨ao, c, bo, dd, rfl, hSA, hSB, hc1, hc2, hd1, hd2, hB1⟩
       have HY1 := Hid.mk ((hB1.block _ (lt_of_block HX1.out)).trans HX1.out)
       have HB1 : Hid (Below w.heap.size w W1) := Hid.mk (HXB.out.trans (hB1.mono HXB.out.size))
       have HP1 := Hid.mk (HS1.out W1 ao c HB1.out hSA hc1 hc2)
       clear hSA hSB hc1 hc2 hd1 hd2 hB1 HBO f0 f1 f2 f3 f4 f5 )
    | (go_at_call 44; refine HP1.out.mono ?_; rintro e' W2 ⟨rfl, hB2⟩
       have hx3 := (hB2.block _ (lt_of_block HY1.out)).trans HY1.out
       have HY3 : Hid ((W2.alloc (.cells #[.pointer (some ⟨locL Ls d, 0, none⟩), .string (mkS p), .pointer none] 69)).heap[w.heap.size + 1]? = _) := Hid.mk ((Below.heap_alloc _ _ _ (lt_of_block hx3)).trans hx3)
       have HB3 : Hid (Below w.heap.size w (W2.alloc (.cells #[.pointer (some ⟨locL Ls d, 0, none⟩), .string (mkS p), .pointer none] 69))) := Hid.mk (by have := HB1.out.trans (hB2.mono HB1.out.size); exact this.alloc this.size _)
       have hsp := blk_new W2 (.cells #[.pointer (some ⟨locL Ls d, 0, none⟩), .string (mkS p), .pointer none] 69)
       have x0 := blk_cell hsp 2
       simp at x0
       clear hsp
       clear hB2 hx3 )
    | (go_at_call 19; refine (failed_any _ _).mono ?_; rintro e' W4 ⟨rfl, hb4⟩; have hbx := (hb4.block _ (lt_of_block HY3.out)).trans HY3.out; have z0 := blk_cell hbx 0; have y0 := blk_free hbx 0; have z1 := blk_cell hbx 1; have y1 := blk_free hbx 1; have z2 := blk_cell hbx 2; have y2 := blk_free hbx 2; have z3 := blk_cell hbx 3; have y3 := blk_free hbx 3; have z4 := blk_cell hbx 4; have y4 := blk_free hbx 4; have z5 := blk_cell hbx 5; have y5 := blk_free hbx 5; have z6 := blk_cell hbx 6; have y6 := blk_free hbx 6; simp at z0 z1 z2 z3 z4 z5 z6; have BXX := Hid.mk hbx; have HB4 := Hid.mk (HB3.out.trans (hb4.mono HB3.out.size)); unfold errV; clear hbx hb4))
  have hb7 := (box7 BXX.out (.int .i64 10) (.slice none 0 0) (.int .i64 0) (.int .i64 0) (.int .i64 0) (.slice none 0 0) (.int .i64 0)).1
  have ho7 := (box7 BXX.out (.int .i64 10) (.slice none 0 0) (.int .i64 0) (.int .i64 0) (.int .i64 0) (.slice none 0 0) (.int .i64 0)).2
  obtain ⟨Y, hY⟩ : ∃ Y, Y = (((((((W4.setCell ⟨w.heap.size + 1, 0, none⟩ (.int .i64 10)).setCell ⟨w.heap.size + 1, 1, none⟩ (.slice none 0 0)).setCell ⟨w.heap.size + 1, 2, none⟩ (.int .i64 0)).setCell ⟨w.heap.size + 1, 3, none⟩ (.int .i64 0)).setCell ⟨w.heap.size + 1, 4, none⟩ (.int .i64 0)).setCell ⟨w.heap.size + 1, 5, none⟩ (.slice none 0 0)).setCell ⟨w.heap.size + 1, 6, none⟩ (.int .i64 0)) := ⟨_, rfl⟩
  rw [← hY] at hb7 ho7 ⊢
  have k0 := blk_cell hb7 0
  have k1 := blk_cell hb7 1
  have k2 := blk_cell hb7 2
  have k3 := blk_cell hb7 3
  have k4 := blk_cell hb7 4
  have k5 := blk_cell hb7 5
  have k6 := blk_cell hb7 6
  simp at k0 k1 k2 k3 k4 k5 k6
  refine bodyPost_ret (v := errV 10) ?_ rfl ?_
  · simp [results, Tryz.results25, go_sem, errV, k0, k1, k2, k3, k4, k5, k6]
  · exact ⟨rfl, ((Only.of_below (S := fun _ => False) HB4.out (fun k h1 h2 => by omega)).trans ho7 (fun i hi => .inr (by omega))).below (Nat.le_refl _) (fun _ h => h.elim)⟩
set_option maxRecDepth 100000 in
set_option maxHeartbeats 4000000 in
theorem rename_no2 (w : World) (t : Nat) (σ : Tr) (Ls : List Lay) (hT : TrAt w t σ Ls) (k : Int) (s s2 : ByteArray) (off m : Int) (dp : Option Addr) (dl dc : Nat) (hs : s.size ≤ 16777216) (hs2 : s2.size ≤ 16777216) (L M : List (List UInt8)) (p q : List UInt8) (h1 : splitL (ofS s) = some (L ++ [p])) (h2 : splitL (ofS s2) = some (M ++ [q])) (d j : Nat) (he : spotE σ.nodes L p = (0, some ⟨d, p, some j⟩)) (e : Int) (he2 : spotE σ.nodes M q = (e, none)) (hne : e ≠ 0) :
    Calls Tryz.prog 25 #[ptrV t, callV k s s2 off m (.slice dp dl dc)] w fun x w' => x = .returned (errV e) ∧ Below w.heap.size w w' := by
  have HBO : Hid (∀ W, _) := Hid.mk (fun W => both_yes W k s s2 off m dp dl dc hs hs2 h1 h2)
  obtain ⟨b1, b2⟩ := split_bounds h1
  obtain ⟨b3, b4⟩ := split_bounds h2
  have hln : (L ++ [p]).length = L.length + 1 := by simp
  have hln2 : (M ++ [q]).length = M.length + 1 := by simp
  rw [hln, hln2] at HBO
  have HS1 : Hid (∀ W ao c, Below w.heap.size w W → SAt W ao (L.length + 1) (L ++ [p]) → L.length + 1 ≤ c → c ≤ 9223372036854775807 → _) := Hid.mk (fun W ao c (hB : Below w.heap.size w W) hS hc1 hc2 => spot_any W t σ Ls (hT.below rfl hB) ao c L p hS b1 (by omega) hc1 hc2)
  have HS2 : Hid (∀ W ao c, Below w.heap.size w W → SAt W ao (M.length + 1) (M ++ [q]) → M.length + 1 ≤ c → c ≤ 9223372036854775807 → _) := Hid.mk (fun W ao c (hB : Below w.heap.size w W) hS hc1 hc2 => spot_any W t σ Ls (hT.below rfl hB) ao c M q hS b3 (by omega) hc1 hc2)
  rw [he] at HS1
  rw [he2] at HS2
  simp only [spotV, optV, ptrV, strV] at HS1
  simp only [spotV, ptrV] at HS2
  have hne1 : ¬ ((L.length : Int) + 1 = 0) := by omega
  have hne2 : ¬ ((M.length : Int) + 1 = 0) := by omega
  have hbe1 : (((L.length : Int) + 1) == 0) = false := by simp; omega
  have hbe2 : (((M.length : Int) + 1) == 0) = false := by simp; omega
  generalize L.length = nl at *
  generalize M.length = nm at *
  clear hT hs hs2 h1 h2 he he2 b1 b2 b3 b4 hln hln2
  unfold callV at HBO
  unfold callV ptrV at *
  go_enter Tryz.func25, Tryz.ntmps25
  go_wp2_with fail
  obtain ⟨X, hX⟩ : ∃ X, X = (w.alloc (.cells #[.int .i64 k, .string s, .string s2, .int .i64 off, .int .i64 m, .slice dp dl dc] 34)).alloc (.cells #[.int .i64 0, .slice none 0 0, .int .i64 0, .int .i64 0, .int .i64 0, .slice none 0 0, .int .i64 0] 31) := ⟨_, rfl⟩
  have hXB : Below w.heap.size w X := by rw [hX]; exact ((Below.refl _ w).alloc (Nat.le_refl _) _).alloc (by simp) _
  have hXs : X.heap.size = w.heap.size + 2 := by rw [hX]; simp
  have hX0 : X.heap[w.heap.size]? = some (.cells #[.int .i64 k, .string s, .string s2, .int .i64 off, .int .i64 m, .slice dp dl dc] 34 (0, 0)) := by rw [hX, Below.heap_alloc _ _ _ (by simp)]; exact blk_new w _
  have hX1 : X.heap[w.heap.size + 1]? = some (.cells #[.int .i64 0, .slice none 0 0, .int .i64 0, .int .i64 0, .int .i64 0, .slice none 0 0, .int .i64 0] 31 (0, 0)) := by
    rw [hX]
    have := blk_new (w.alloc (.cells #[.int .i64 k, .string s, .string s2, .int .i64 off, .int .i64 m, .slice dp dl dc] 34)) (.cells #[.int .i64 0, .slice none 0 0, .int .i64 0, .int .i64 0, .int .i64 0, .slice none 0 0, .int .i64 0] 31)
    rwa [World.size_alloc] at this
  rw [← hX]
  clear hX
  have f0 := blk_cell hX0 0
  have f1 := blk_cell hX0 1
  have f2 := blk_cell hX0 2
  have f3 := blk_cell hX0 3
  have f4 := blk_cell hX0 4
  have f5 := blk_cell hX0 5
  simp at f0 f1 f2 f3 f4 f5
  have HXB := Hid.mk hXB
  have HXS := Hid.mk hXs
  have HX1 := Hid.mk hX1
  clear hXB hXs hX0 hX1
  try go_wp2_with fail
  refine (HBO.out X).mono ?_
  rintro e' W1 ⟨ao, c, bo, dd, rfl, hSA, hSB, hc1, hc2, hd1, hd2, hB1⟩
  have hBw : Below w.heap.size w W1 := HXB.out.trans (hB1.mono (by have := HXS.out; omega))
  have HP1 := Hid.mk (HS1.out W1 ao c hBw hSA hc1 hc2)
  have HR1 : Hid (W1.heap[w.heap.size + 1]? = some (.cells #[.int .i64 0, .slice none 0 0, .int .i64 0, .int .i64 0, .int .i64 0, .slice none 0 0, .int .i64 0] 31 (0, 0))) := Hid.mk ((hB1.block _ (by have := HXS.out; omega)).trans HX1.out)
  have HSB := Hid.mk hSB
  have HBW := Hid.mk hBw
  have HD1 := Hid.mk hd1
  have HD2 := Hid.mk hd2
  clear hSA hSB hc1 hc2 hd1 hd2 hB1 hBw HXB HXS HX1 HBO HS1 f0 f1 f2 f3 f4 f5
  go_wp2_with fail
  refine HP1.out.mono ?_
  rintro e' W2 ⟨rfl, hB2⟩
  obtain ⟨Y2, hY2⟩ : ∃ Y2, Y2 = W2.alloc (.cells #[.pointer (some ⟨locL Ls d, 0, none⟩), .string (mkS p), .pointer (some ⟨locL Ls j, 0, none⟩)] 69) := ⟨_, rfl⟩
  have hBw2 : Below W1.heap.size W1 Y2 := by rw [hY2]; exact hB2.alloc hB2.size _
  have hsp : Y2.heap[W2.heap.size]? = some (.cells #[.pointer (some ⟨locL Ls d, 0, none⟩), .string (mkS p), .pointer (some ⟨locL Ls j, 0, none⟩)] 69 (0, 0)) := by rw [hY2]; exact blk_new W2 _
  have hw2Y : Below w.heap.size w Y2 := HBW.out.trans (hBw2.mono HBW.out.size)
  have HP2 := Hid.mk (HS2.out Y2 bo dd hw2Y (HSB.out.below hBw2) HD1.out HD2.out)
  go_upto_region 9 with fail
  rw [← hY2]
  clear hY2
  generalize W2.heap.size = sb at *
  have x0 := blk_cell hsp 2
  simp at x0
  have HSP := Hid.mk hsp
  have HY := Hid.mk hBw2
  have HWY := Hid.mk hw2Y
  clear hsp hBw2 hw2Y hB2 HP1
  have HR2 := Hid.mk ((HY.out.block _ (lt_of_block HR1.out)).trans HR1.out)
  go_wp2_with (first
    | (go_at_call 44; refine HP2.out.mono ?_; rintro e' W4 ⟨rfl, hB4⟩
       have hx3 := (hB4.block _ (lt_of_block HR2.out)).trans HR2.out
       have HY3 : Hid ((W4.alloc (.cells #[.pointer none, .string ⟨#[]⟩, .pointer none] 69)).heap[w.heap.size + 1]? = _) := Hid.mk ((Below.heap_alloc _ _ _ (lt_of_block hx3)).trans hx3)
       have HB3 : Hid (Below w.heap.size w (W4.alloc (.cells #[.pointer none, .string ⟨#[]⟩, .pointer none] 69))) := Hid.mk (by have := HWY.out.trans (hB4.mono HWY.out.size); exact this.alloc this.size _)
       clear hB4 hx3 x0)
    | (go_at_call 19; refine (failed_any _ _).mono ?_; rintro e' W5 ⟨rfl, hb4⟩; have hbx := (hb4.block _ (lt_of_block HY3.out)).trans HY3.out; have z0 := blk_cell hbx 0; have y0 := blk_free hbx 0; have z1 := blk_cell hbx 1; have y1 := blk_free hbx 1; have z2 := blk_cell hbx 2; have y2 := blk_free hbx 2; have z3 := blk_cell hbx 3; have y3 := blk_free hbx 3; have z4 := blk_cell hbx 4; have y4 := blk_free hbx 4; have z5 := blk_cell hbx 5; have y5 := blk_free hbx 5; have z6 := blk_cell hbx 6; have y6 := blk_free hbx 6; simp at z0 z1 z2 z3 z4 z5 z6; have BXX := Hid.mk hbx; have HB4 := Hid.mk (HB3.out.trans (hb4.mono HB3.out.size)); unfold errV; clear hbx hb4))
  have hb7 := (box7 BXX.out (.int .i64 e) (.slice none 0 0) (.int .i64 0) (.int .i64 0) (.int .i64 0) (.slice none 0 0) (.int .i64 0)).1
  have ho7 := (box7 BXX.out (.int .i64 e) (.slice none 0 0) (.int .i64 0) (.int .i64 0) (.int .i64 0) (.slice none 0 0) (.int .i64 0)).2
  obtain ⟨Y, hY⟩ : ∃ Y, Y = (((((((W5.setCell ⟨w.heap.size + 1, 0, none⟩ (.int .i64 e)).setCell ⟨w.heap.size + 1, 1, none⟩ (.slice none 0 0)).setCell ⟨w.heap.size + 1, 2, none⟩ (.int .i64 0)).setCell ⟨w.heap.size + 1, 3, none⟩ (.int .i64 0)).setCell ⟨w.heap.size + 1, 4, none⟩ (.int .i64 0)).setCell ⟨w.heap.size + 1, 5, none⟩ (.slice none 0 0)).setCell ⟨w.heap.size + 1, 6, none⟩ (.int .i64 0)) := ⟨_, rfl⟩
  rw [← hY] at hb7 ho7 ⊢
  have k0 := blk_cell hb7 0
  have k1 := blk_cell hb7 1
  have k2 := blk_cell hb7 2
  have k3 := blk_cell hb7 3
  have k4 := blk_cell hb7 4
  have k5 := blk_cell hb7 5
  have k6 := blk_cell hb7 6
  simp at k0 k1 k2 k3 k4 k5 k6
  refine bodyPost_ret (v := errV e) ?_ rfl ?_
  · simp [results, Tryz.results25, go_sem, errV, k0, k1, k2, k3, k4, k5, k6]
  · exact ⟨rfl, ((Only.of_below (S := fun _ => False) HB4.out (fun k h1 h2 => by omega)).trans ho7 (fun i hi => .inr (by omega))).below (Nat.le_refl _) (fun _ h => h.elim)⟩
theorem doo_link_bad (w : World) (t : Nat) (σ : Tr) (Ls : List Lay) (hT : TrAt w t σ Ls) (s s2 : ByteArray) (off m : Int) (dp : Option Addr) (dl dc : Nat) (hs : s.size ≤ 16777216) (hs2 : s2.size ≤ 16777216) (h : splitL (ofS s) = none ∨ splitL (ofS s2) = none) :
    Calls Tryz.prog 9 #[ptrV t, callV 3 s s2 off m (.slice dp dl dc)] w fun x w' => x = .returned (errV 15) ∧ Step (fun k => k ∈ feet t Ls) w t w' σ := by
  refine (do_link w t σ Ls s s2 off m dp dl dc 15 0 0 0 0 (fun x y _ => x = .slice none 0 0 ∧ y = .slice none 0 0) (fun k hk => hT.lt k hk) (fun _ _ _ _ h _ => h) (Hid.mk (fun W hB _ => (link_bad W t σ Ls (hT.below rfl hB) 3 s s2 off m dp dl dc hs hs2 h).mono (fun e w' hh => ⟨none, 0, 0, none, 0, 0, hh.1, Step.still (hT.below rfl hB) (fun k hk => hk) hh.2, rfl, rfl⟩)))).mono ?_
  rintro e w' ⟨a1, n1, c1, a5, n5, c5, rfl, hst, h1, h2⟩
  cases h1; cases h2
  exact ⟨rfl, hst⟩
theorem doo_rename_bad (w : World) (t : Nat) (σ : Tr) (Ls : List Lay) (hT : TrAt w t σ Ls) (s s2 : ByteArray) (off m : Int) (dp : Option Addr) (dl dc : Nat) (hs : s.size ≤ 16777216) (hs2 : s2.size ≤ 16777216) (h : splitL (ofS s) = none ∨ splitL (ofS s2) = none) :
    Calls Tryz.prog 9 #[ptrV t, callV 6 s s2 off m (.slice dp dl dc)] w fun x w' => x = .returned (errV 15) ∧ Step (fun k => k ∈ feet t Ls) w t w' σ := by
  refine (do_rename w t σ Ls s s2 off m dp dl dc 15 0 0 0 0 (fun x y _ => x = .slice none 0 0 ∧ y = .slice none 0 0) (fun k hk => hT.lt k hk) (fun _ _ _ _ h _ => h) (Hid.mk (fun W hB _ => (rename_bad W t σ Ls (hT.below rfl hB) 6 s s2 off m dp dl dc hs hs2 h).mono (fun e w' hh => ⟨none, 0, 0, none, 0, 0, hh.1, Step.still (hT.below rfl hB) (fun k hk => hk) hh.2, rfl, rfl⟩)))).mono ?_
  rintro e w' ⟨a1, n1, c1, a5, n5, c5, rfl, hst, h1, h2⟩
  cases h1; cases h2
  exact ⟨rfl, hst⟩
theorem doo_link_none (w : World) (t : Nat) (σ : Tr) (Ls : List Lay) (hT : TrAt w t σ Ls) (s s2 : ByteArray) (off m : Int) (dp : Option Addr) (dl dc : Nat) (hs : s.size ≤ 16777216) (hs2 : s2.size ≤ 16777216) (L M : List (List UInt8)) (h1 : splitL (ofS s) = some L) (h2 : splitL (ofS s2) = some M) (e : Int) (hf : wayE σ.nodes 0 L = (none, e)) (hne : e ≠ 0) :
    Calls Tryz.prog 9 #[ptrV t, callV 3 s s2 off m (.slice dp dl dc)] w fun x w' => x = .returned (errV e) ∧ Step (fun k => k ∈ feet t Ls) w t w' σ := by
  refine (do_link w t σ Ls s s2 off m dp dl dc e 0 0 0 0 (fun x y _ => x = .slice none 0 0 ∧ y = .slice none 0 0) (fun k hk => hT.lt k hk) (fun _ _ _ _ h _ => h) (Hid.mk (fun W hB _ => (link_none W t σ Ls (hT.below rfl hB) 3 s s2 off m dp dl dc hs hs2 L M h1 h2 e hf hne).mono (fun e w' hh => ⟨none, 0, 0, none, 0, 0, hh.1, Step.still (hT.below rfl hB) (fun k hk => hk) hh.2, rfl, rfl⟩)))).mono ?_
  rintro e w' ⟨a1, n1, c1, a5, n5, c5, rfl, hst, h1, h2⟩
  cases h1; cases h2
  exact ⟨rfl, hst⟩
theorem doo_link_dir (w : World) (t : Nat) (σ : Tr) (Ls : List Lay) (hT : TrAt w t σ Ls) (s s2 : ByteArray) (off m : Int) (dp : Option Addr) (dl dc : Nat) (hs : s.size ≤ 16777216) (hs2 : s2.size ≤ 16777216) (L M : List (List UInt8)) (h1 : splitL (ofS s) = some L) (h2 : splitL (ofS s2) = some M) (j : Nat) (hf : wayE σ.nodes 0 L = (some j, 0)) (hjk : (nodeAt σ.nodes j).isDir = true) :
    Calls Tryz.prog 9 #[ptrV t, callV 3 s s2 off m (.slice dp dl dc)] w fun x w' => x = .returned (errV 13) ∧ Step (fun k => k ∈ feet t Ls) w t w' σ := by
  refine (do_link w t σ Ls s s2 off m dp dl dc 13 0 0 0 0 (fun x y _ => x = .slice none 0 0 ∧ y = .slice none 0 0) (fun k hk => hT.lt k hk) (fun _ _ _ _ h _ => h) (Hid.mk (fun W hB _ => (link_dir W t σ Ls (hT.below rfl hB) 3 s s2 off m dp dl dc hs hs2 L M h1 h2 j hf hjk).mono (fun e w' hh => ⟨none, 0, 0, none, 0, 0, hh.1, Step.still (hT.below rfl hB) (fun k hk => hk) hh.2, rfl, rfl⟩)))).mono ?_
  rintro e w' ⟨a1, n1, c1, a5, n5, c5, rfl, hst, h1, h2⟩
  cases h1; cases h2
  exact ⟨rfl, hst⟩
theorem doo_link_root (w : World) (t : Nat) (σ : Tr) (Ls : List Lay) (hT : TrAt w t σ Ls) (s s2 : ByteArray) (off m : Int) (dp : Option Addr) (dl dc : Nat) (hs : s.size ≤ 16777216) (hs2 : s2.size ≤ 16777216) (L : List (List UInt8)) (h1 : splitL (ofS s) = some L) (h2 : splitL (ofS s2) = some []) (j : Nat) (hf : wayE σ.nodes 0 L = (some j, 0)) (hjk : (nodeAt σ.nodes j).isDir = false) :
    Calls Tryz.prog 9 #[ptrV t, callV 3 s s2 off m (.slice dp dl dc)] w fun x w' => x = .returned (errV 11) ∧ Step (fun k => k ∈ feet t Ls) w t w' σ := by
  refine (do_link w t σ Ls s s2 off m dp dl dc 11 0 0 0 0 (fun x y _ => x = .slice none 0 0 ∧ y = .slice none 0 0) (fun k hk => hT.lt k hk) (fun _ _ _ _ h _ => h) (Hid.mk (fun W hB _ => (link_root W t σ Ls (hT.below rfl hB) 3 s s2 off m dp dl dc hs hs2 L h1 h2 j hf hjk).mono (fun e w' hh => ⟨none, 0, 0, none, 0, 0, hh.1, Step.still (hT.below rfl hB) (fun k hk => hk) hh.2, rfl, rfl⟩)))).mono ?_
  rintro e w' ⟨a1, n1, c1, a5, n5, c5, rfl, hst, h1, h2⟩
  cases h1; cases h2
  exact ⟨rfl, hst⟩
theorem doo_link_at (w : World) (t : Nat) (σ : Tr) (Ls : List Lay) (hT : TrAt w t σ Ls) (s s2 : ByteArray) (off m : Int) (dp : Option Addr) (dl dc : Nat) (hs : s.size ≤ 16777216) (hs2 : s2.size ≤ 16777216) (L M : List (List UInt8)) (q : List UInt8) (h1 : splitL (ofS s) = some L) (h2 : splitL (ofS s2) = some (M ++ [q])) (j : Nat) (hf : wayE σ.nodes 0 L = (some j, 0)) (hjk : (nodeAt σ.nodes j).isDir = false) (e : Int) (hu : unE (spotE σ.nodes M q) = e) (hne : e ≠ 0) :
    Calls Tryz.prog 9 #[ptrV t, callV 3 s s2 off m (.slice dp dl dc)] w fun x w' => x = .returned (errV e) ∧ Step (fun k => k ∈ feet t Ls) w t w' σ := by
  refine (do_link w t σ Ls s s2 off m dp dl dc e 0 0 0 0 (fun x y _ => x = .slice none 0 0 ∧ y = .slice none 0 0) (fun k hk => hT.lt k hk) (fun _ _ _ _ h _ => h) (Hid.mk (fun W hB _ => (link_at W t σ Ls (hT.below rfl hB) 3 s s2 off m dp dl dc hs hs2 L M q h1 h2 j hf hjk e hu hne).mono (fun e w' hh => ⟨none, 0, 0, none, 0, 0, hh.1, Step.still (hT.below rfl hB) (fun k hk => hk) hh.2, rfl, rfl⟩)))).mono ?_
  rintro e w' ⟨a1, n1, c1, a5, n5, c5, rfl, hst, h1, h2⟩
  cases h1; cases h2
  exact ⟨rfl, hst⟩
theorem doo_rename_root1 (w : World) (t : Nat) (σ : Tr) (Ls : List Lay) (hT : TrAt w t σ Ls) (s s2 : ByteArray) (off m : Int) (dp : Option Addr) (dl dc : Nat) (hs : s.size ≤ 16777216) (hs2 : s2.size ≤ 16777216) (M : List (List UInt8)) (h1 : splitL (ofS s) = some []) (h2 : splitL (ofS s2) = some M) :
    Calls Tryz.prog 9 #[ptrV t, callV 6 s s2 off m (.slice dp dl dc)] w fun x w' => x = .returned (errV 18) ∧ Step (fun k => k ∈ feet t Ls) w t w' σ := by
  refine (do_rename w t σ Ls s s2 off m dp dl dc 18 0 0 0 0 (fun x y _ => x = .slice none 0 0 ∧ y = .slice none 0 0) (fun k hk => hT.lt k hk) (fun _ _ _ _ h _ => h) (Hid.mk (fun W hB _ => (rename_root1 W t σ Ls (hT.below rfl hB) 6 s s2 off m dp dl dc hs hs2 M h1 h2).mono (fun e w' hh => ⟨none, 0, 0, none, 0, 0, hh.1, Step.still (hT.below rfl hB) (fun k hk => hk) hh.2, rfl, rfl⟩)))).mono ?_
  rintro e w' ⟨a1, n1, c1, a5, n5, c5, rfl, hst, h1, h2⟩
  cases h1; cases h2
  exact ⟨rfl, hst⟩
theorem doo_rename_root2 (w : World) (t : Nat) (σ : Tr) (Ls : List Lay) (hT : TrAt w t σ Ls) (s s2 : ByteArray) (off m : Int) (dp : Option Addr) (dl dc : Nat) (hs : s.size ≤ 16777216) (hs2 : s2.size ≤ 16777216) (L : List (List UInt8)) (p : List UInt8) (h1 : splitL (ofS s) = some (L ++ [p])) (h2 : splitL (ofS s2) = some []) :
    Calls Tryz.prog 9 #[ptrV t, callV 6 s s2 off m (.slice dp dl dc)] w fun x w' => x = .returned (errV 18) ∧ Step (fun k => k ∈ feet t Ls) w t w' σ := by
  refine (do_rename w t σ Ls s s2 off m dp dl dc 18 0 0 0 0 (fun x y _ => x = .slice none 0 0 ∧ y = .slice none 0 0) (fun k hk => hT.lt k hk) (fun _ _ _ _ h _ => h) (Hid.mk (fun W hB _ => (rename_root2 W t σ Ls (hT.below rfl hB) 6 s s2 off m dp dl dc hs hs2 L p h1 h2).mono (fun e w' hh => ⟨none, 0, 0, none, 0, 0, hh.1, Step.still (hT.below rfl hB) (fun k hk => hk) hh.2, rfl, rfl⟩)))).mono ?_
  rintro e w' ⟨a1, n1, c1, a5, n5, c5, rfl, hst, h1, h2⟩
  cases h1; cases h2
  exact ⟨rfl, hst⟩
theorem doo_rename_no1 (w : World) (t : Nat) (σ : Tr) (Ls : List Lay) (hT : TrAt w t σ Ls) (s s2 : ByteArray) (off m : Int) (dp : Option Addr) (dl dc : Nat) (hs : s.size ≤ 16777216) (hs2 : s2.size ≤ 16777216) (L M : List (List UInt8)) (p q : List UInt8) (h1 : splitL (ofS s) = some (L ++ [p])) (h2 : splitL (ofS s2) = some (M ++ [q])) (e : Int) (he : spotE σ.nodes L p = (e, none)) (hne : e ≠ 0) :
    Calls Tryz.prog 9 #[ptrV t, callV 6 s s2 off m (.slice dp dl dc)] w fun x w' => x = .returned (errV e) ∧ Step (fun k => k ∈ feet t Ls) w t w' σ := by
  refine (do_rename w t σ Ls s s2 off m dp dl dc e 0 0 0 0 (fun x y _ => x = .slice none 0 0 ∧ y = .slice none 0 0) (fun k hk => hT.lt k hk) (fun _ _ _ _ h _ => h) (Hid.mk (fun W hB _ => (rename_no1 W t σ Ls (hT.below rfl hB) 6 s s2 off m dp dl dc hs hs2 L M p q h1 h2 e he hne).mono (fun e w' hh => ⟨none, 0, 0, none, 0, 0, hh.1, Step.still (hT.below rfl hB) (fun k hk => hk) hh.2, rfl, rfl⟩)))).mono ?_
  rintro e w' ⟨a1, n1, c1, a5, n5, c5, rfl, hst, h1, h2⟩
  cases h1; cases h2
  exact ⟨rfl, hst⟩
theorem doo_rename_none1 (w : World) (t : Nat) (σ : Tr) (Ls : List Lay) (hT : TrAt w t σ Ls) (s s2 : ByteArray) (off m : Int) (dp : Option Addr) (dl dc : Nat) (hs : s.size ≤ 16777216) (hs2 : s2.size ≤ 16777216) (L M : List (List UInt8)) (p q : List UInt8) (h1 : splitL (ofS s) = some (L ++ [p])) (h2 : splitL (ofS s2) = some (M ++ [q])) (d : Nat) (he : spotE σ.nodes L p = (0, some ⟨d, p, none⟩)) :
    Calls Tryz.prog 9 #[ptrV t, callV 6 s s2 off m (.slice dp dl dc)] w fun x w' => x = .returned (errV 10) ∧ Step (fun k => k ∈ feet t Ls) w t w' σ := by
  refine (do_rename w t σ Ls s s2 off m dp dl dc 10 0 0 0 0 (fun x y _ => x = .slice none 0 0 ∧ y = .slice none 0 0) (fun k hk => hT.lt k hk) (fun _ _ _ _ h _ => h) (Hid.mk (fun W hB _ => (rename_none1 W t σ Ls (hT.below rfl hB) 6 s s2 off m dp dl dc hs hs2 L M p q h1 h2 d he).mono (fun e w' hh => ⟨none, 0, 0, none, 0, 0, hh.1, Step.still (hT.below rfl hB) (fun k hk => hk) hh.2, rfl, rfl⟩)))).mono ?_
  rintro e w' ⟨a1, n1, c1, a5, n5, c5, rfl, hst, h1, h2⟩
  cases h1; cases h2
  exact ⟨rfl, hst⟩
theorem doo_rename_no2 (w : World) (t : Nat) (σ : Tr) (Ls : List Lay) (hT : TrAt w t σ Ls) (s s2 : ByteArray) (off m : Int) (dp : Option Addr) (dl dc : Nat) (hs : s.size ≤ 16777216) (hs2 : s2.size ≤ 16777216) (L M : List (List UInt8)) (p q : List UInt8) (h1 : splitL (ofS s) = some (L ++ [p])) (h2 : splitL (ofS s2) = some (M ++ [q])) (d j : Nat) (he : spotE σ.nodes L p = (0, some ⟨d, p, some j⟩)) (e : Int) (he2 : spotE σ.nodes M q = (e, none)) (hne : e ≠ 0) :
    Calls Tryz.prog 9 #[ptrV t, callV 6 s s2 off m (.slice dp dl dc)] w fun x w' => x = .returned (errV e) ∧ Step (fun k => k ∈ feet t Ls) w t w' σ := by
  refine (do_rename w t σ Ls s s2 off m dp dl dc e 0 0 0 0 (fun x y _ => x = .slice none 0 0 ∧ y = .slice none 0 0) (fun k hk => hT.lt k hk) (fun _ _ _ _ h _ => h) (Hid.mk (fun W hB _ => (rename_no2 W t σ Ls (hT.below rfl hB) 6 s s2 off m dp dl dc hs hs2 L M p q h1 h2 d j he e he2 hne).mono (fun e w' hh => ⟨none, 0, 0, none, 0, 0, hh.1, Step.still (hT.below rfl hB) (fun k hk => hk) hh.2, rfl, rfl⟩)))).mono ?_
  rintro e w' ⟨a1, n1, c1, a5, n5, c5, rfl, hst, h1, h2⟩
  cases h1; cases h2
  exact ⟨rfl, hst⟩
end Go.Proofs.YtehaoeclnmelhacGreat
namespace Go.Proofs.YtehaoeclnmelhacGreat
open Go Go.Proofs Go.RowKit Go.Shelf Go.Sort

set_option maxRecDepth 100000 in
set_option maxHeartbeats 4000000 in
theorem rename_by_move (w : World) (t : Nat) (σ σ' : Tr) (Ls : List Lay) (hT : TrAt w t σ Ls) (k : Int) (s s2 : ByteArray) (off m : Int) (dp : Option Addr) (dl dc : Nat) (hs : s.size ≤ 16777216) (hs2 : s2.size ≤ 16777216) (L M : List (List UInt8)) (p q : List UInt8) (h1 : splitL (ofS s) = some (L ++ [p])) (h2 : splitL (ofS s2) = some (M ++ [q])) (d j d2 : Nat) (he : spotE σ.nodes L p = (0, some ⟨d, p, some j⟩)) (he2 : spotE σ.nodes M q = (0, some ⟨d2, q, none⟩)) (hj : j < σ.nodes.length) (hw : onWay σ.nodes M j = false) (ev : Int) (HMT : Hid (∀ W, Below w.heap.size w W → Calls Tryz.prog 47 #[ptrV t, .agg #[ptrV (locL Ls d), strV p, ptrV (locL Ls j)], .agg #[ptrV (locL Ls d2), strV q, .pointer none]] W fun e w' => e = .returned (.int .i64 ev) ∧ Step (fun k => k ∈ feet t Ls) W t w' σ')) :
    Calls Tryz.prog 25 #[ptrV t, callV k s s2 off m (.slice dp dl dc)] w fun e w' => e = .returned (errV ev) ∧ Step (fun k => k ∈ feet t Ls) w t w' σ' := by
  have mixed : Tryz.prog.follows Departure.mixedOrders = true := by kernel_rfl
  have HTL : Hid (∀ k ∈ feet t Ls, k < w.heap.size) := Hid.mk (fun k hk => hT.lt k hk)
  have HBO : Hid (∀ W, _) := Hid.mk (fun W => both_yes W k s s2 off m dp dl dc hs hs2 h1 h2)
  obtain ⟨b1, b2⟩ := split_bounds h1
  obtain ⟨b3, b4⟩ := split_bounds h2
  have hln : (L ++ [p]).length = L.length + 1 := by simp
  have hln2 : (M ++ [q]).length = M.length + 1 := by simp
  rw [hln, hln2] at HBO
  have HS1 : Hid (∀ W ao c, Below w.heap.size w W → SAt W ao (L.length + 1) (L ++ [p]) → L.length + 1 ≤ c → c ≤ 9223372036854775807 → _) := Hid.mk (fun W ao c (hB : Below w.heap.size w W) hS hc1 hc2 => spot_any W t σ Ls (hT.below rfl hB) ao c L p hS b1 (by omega) hc1 hc2)
  have HS2 : Hid (∀ W ao c, Below w.heap.size w W → SAt W ao (M.length + 1) (M ++ [q]) → M.length + 1 ≤ c → c ≤ 9223372036854775807 → _) := Hid.mk (fun W ao c (hB : Below w.heap.size w W) hS hc1 hc2 => spot_any W t σ Ls (hT.below rfl hB) ao c M q hS b3 (by omega) hc1 hc2)
  have HWI : Hid (∀ W ao c, Below w.heap.size w W → SAt W ao M.length M → _) := Hid.mk (fun W ao c (hB : Below w.heap.size w W) hS => within_any2 W t σ Ls (hT.below rfl hB) ao c M hS (fun x hx => b3 x (by simp [hx])) (by omega) j hj)
  rw [he] at HS1
  rw [he2] at HS2
  rw [hw] at HWI
  simp only [spotV, optV, ptrV, strV] at HS1
  simp only [spotV, optV, ptrV, strV] at HS2
  have hw2 : wrap64 (M.length : Int) = (M.length : Int) := by unfold wrap64; omega
  have hne1 : ¬ ((L.length : Int) + 1 = 0) := by omega
  have hne2 : ¬ ((M.length : Int) + 1 = 0) := by omega
  have hbe1 : (((L.length : Int) + 1) == 0) = false := by simp; omega
  have hbe2 : (((M.length : Int) + 1) == 0) = false := by simp; omega
  generalize L.length = nl at *
  generalize M.length = nm at *
  clear hT hs hs2 h1 h2 he he2 hj hw b1 b2 b3 b4 hln hln2
  unfold callV at HBO
  unfold callV ptrV at *
  go_enter Tryz.func25, Tryz.ntmps25
  go_wp2_with fail
  obtain ⟨X, hX⟩ : ∃ X, X = (w.alloc (.cells #[.int .i64 k, .string s, .string s2, .int .i64 off, .int .i64 m, .slice dp dl dc] 34)).alloc (.cells #[.int .i64 0, .slice none 0 0, .int .i64 0, .int .i64 0, .int .i64 0, .slice none 0 0, .int .i64 0] 31) := ⟨_, rfl⟩
  have hXB : Below w.heap.size w X := by rw [hX]; exact ((Below.refl _ w).alloc (Nat.le_refl _) _).alloc (by simp) _
  have hXs : X.heap.size = w.heap.size + 2 := by rw [hX]; simp
  have hX0 : X.heap[w.heap.size]? = some (.cells #[.int .i64 k, .string s, .string s2, .int .i64 off, .int .i64 m, .slice dp dl dc] 34 (0, 0)) := by rw [hX, Below.heap_alloc _ _ _ (by simp)]; exact blk_new w _
  have hX1 : X.heap[w.heap.size + 1]? = some (.cells #[.int .i64 0, .slice none 0 0, .int .i64 0, .int .i64 0, .int .i64 0, .slice none 0 0, .int .i64 0] 31 (0, 0)) := by
    rw [hX]
    have := blk_new (w.alloc (.cells #[.int .i64 k, .string s, .string s2, .int .i64 off, .int .i64 m, .slice dp dl dc] 34)) (.cells #[.int .i64 0, .slice none 0 0, .int .i64 0, .int .i64 0, .int .i64 0, .slice none 0 0, .int .i64 0] 31)
    rwa [World.size_alloc] at this
  rw [← hX]
  clear hX
  have f0 := blk_cell hX0 0
  have f1 := blk_cell hX0 1
  have f2 := blk_cell hX0 2
  have f3 := blk_cell hX0 3
  have f4 := blk_cell hX0 4
  have f5 := blk_cell hX0 5
  simp at f0 f1 f2 f3 f4 f5
  have HXB := Hid.mk hXB
  have HXS := Hid.mk hXs
  have HX1 := Hid.mk hX1
  clear hXB hXs hX0 hX1
  try go_wp2_with fail
  refine (HBO.out X).mono ?_
  rintro e' W1 ⟨ao, c, bo, dd, rfl, hSA, hSB, hc1, hc2, hd1, hd2, hB1⟩
  have hBw : Below w.heap.size w W1 := HXB.out.trans (hB1.mono (by have := HXS.out; omega))
  have HP1 := Hid.mk (HS1.out W1 ao c hBw hSA hc1 hc2)
  have HR1 : Hid (W1.heap[w.heap.size + 1]? = some (.cells #[.int .i64 0, .slice none 0 0, .int .i64 0, .int .i64 0, .int .i64 0, .slice none 0 0, .int .i64 0] 31 (0, 0))) := Hid.mk ((hB1.block _ (by have := HXS.out; omega)).trans HX1.out)
  have HSB := Hid.mk hSB
  have HBW := Hid.mk hBw
  have HD1 := Hid.mk hd1
  have HD2 := Hid.mk hd2
  have hdc : (nm : Int) ≤ (dd : Int) := by omega
  clear hSA hSB hc1 hc2 hd1 hd2 hB1 hBw HXB HXS HX1 HBO HS1 f0 f1 f2 f3 f4 f5
  go_wp2_with fail
  refine HP1.out.mono ?_
  rintro e' W2 ⟨rfl, hB2⟩
  obtain ⟨Y2, hY2⟩ : ∃ Y2, Y2 = W2.alloc (.cells #[.pointer (some ⟨locL Ls d, 0, none⟩), .string (mkS p), .pointer (some ⟨locL Ls j, 0, none⟩)] 69) := ⟨_, rfl⟩
  have hBw2 : Below W1.heap.size W1 Y2 := by rw [hY2]; exact hB2.alloc hB2.size _
  have hsp : Y2.heap[W2.heap.size]? = some (.cells #[.pointer (some ⟨locL Ls d, 0, none⟩), .string (mkS p), .pointer (some ⟨locL Ls j, 0, none⟩)] 69 (0, 0)) := by rw [hY2]; exact blk_new W2 _
  have hw2Y : Below w.heap.size w Y2 := HBW.out.trans (hBw2.mono HBW.out.size)
  have HP2 := Hid.mk (HS2.out Y2 bo dd hw2Y (HSB.out.below hBw2) HD1.out HD2.out)
  go_upto_region 9 with fail
  rw [← hY2]
  clear hY2
  generalize W2.heap.size = sb at *
  have x0 := blk_cell hsp 2
  simp at x0
  have HSP := Hid.mk hsp
  have HY := Hid.mk hBw2
  have HWY := Hid.mk hw2Y
  clear hsp hBw2 hw2Y hB2 HP1
  go_upto_region 12 with (go_at_call 44; refine HP2.out.mono ?_; rintro e' W4 ⟨rfl, hB4⟩; have HB4 := Hid.mk hB4; clear hB4)
  obtain ⟨Y4, hY4⟩ : ∃ Y4, Y4 = W4.alloc (.cells #[.pointer (some ⟨locL Ls d2, 0, none⟩), .string (mkS q), .pointer none] 69) := ⟨_, rfl⟩
  have hB4Y : Below Y2.heap.size Y2 Y4 := by rw [hY4]; exact HB4.out.alloc HB4.out.size _
  have hsq4 : Y4.heap[W4.heap.size]? = some (.cells #[.pointer (some ⟨locL Ls d2, 0, none⟩), .string (mkS q), .pointer none] 69 (0, 0)) := by rw [hY4]; exact blk_new W4 _
  rw [← hY4]
  clear hY4
  have hsp4 := (hB4Y.block sb (lt_of_block HSP.out)).trans HSP.out
  have x4 := blk_cell hsp4 2
  simp at x4
  have hwY4 : Below w.heap.size w Y4 := HWY.out.trans (hB4Y.mono HWY.out.size)
  have HWW : Hid (∀ W, Below Y4.heap.size Y4 W → _) := Hid.mk (fun W (hB : Below Y4.heap.size Y4 W) => HWI.out W bo dd (hwY4.trans (hB.mono hwY4.size)) (((HSB.out.below HY.out).below hB4Y).below hB).front2)
  have HR4 : Hid (Y4.heap[w.heap.size + 1]? = some (.cells #[.int .i64 0, .slice none 0 0, .int .i64 0, .int .i64 0, .int .i64 0, .slice none 0 0, .int .i64 0] 31 (0, 0))) := Hid.mk ((hB4Y.block _ (Nat.lt_of_lt_of_le (lt_of_block HR1.out) HY.out.size)).trans ((HY.out.block _ (lt_of_block HR1.out)).trans HR1.out))
  have HW4 := Hid.mk hwY4
  unfold ptrV at HWW
  generalize hW4s : W4.heap.size = sb4 at *
  have HSP4 := Hid.mk hsp4
  have HSQ4 := Hid.mk hsq4
  have HMV4 : Hid (w.heap.size + 1 < Y4.heap.size) := Hid.mk (lt_of_block HR4.out)
  clear hB4Y hsp4 hsq4 hwY4 HWI HSB HY HP2 HS2 hW4s
  go_upto_region 14 with fail
  have k4 := cell_regrown x4
  have cW : ∀ dd' os, Calls Tryz.prog 45 #[.pointer (some ⟨t, 0, none⟩), .slice bo nm dd, .pointer (some ⟨locL Ls j, 0, none⟩)] (grow (redrawn Y4 dd') os) fun e w'' => e = .returned (.bool false) ∧ ∃ p : Regrown, w'' = grow (redrawn Y4 p.d) p.os := fun dd' os => Calls.regrown_of (HWW.out _ (below_regrown _ _ _))
  refine wp_region_quiet_below mixed (by kernel_rfl) ?_
  repeat (go_big_quiet_step (first | (go_at_call 45; exact cW _ _)))
  refine wpQuiet_nil ?_
  intro W5 hw'
  obtain ⟨⟨dq, osq⟩, hw''⟩ := hw'
  have hB5 := below_regrown Y4 dq osq
  rw [← hw''] at hB5
  have HB1 : Hid (W5.heap[w.heap.size + 1]? = some (.cells #[.int .i64 0, .slice none 0 0, .int .i64 0, .int .i64 0, .int .i64 0, .slice none 0 0, .int .i64 0] 31 (0, 0))) := Hid.mk ((hB5.block _ (lt_of_block HR4.out)).trans HR4.out)
  have HBB : Hid (Below w.heap.size w W5) := Hid.mk (HW4.out.trans (hB5.mono HW4.out.size))
  have hq0 := (hB5.block sb (lt_of_block HSP4.out)).trans HSP4.out
  have hq1 := (hB5.block sb4 (lt_of_block HSQ4.out)).trans HSQ4.out
  have u0 := blk_cell hq0 0
  have u1 := blk_cell hq0 1
  have u2 := blk_cell hq0 2
  have v0 := blk_cell hq1 0
  have v1 := blk_cell hq1 1
  have v2 := blk_cell hq1 2
  simp at u0 u1 u2 v0 v1 v2
  have HSZ : Hid (w.heap.size + 1 < W5.heap.size) := Hid.mk (lt_of_block HB1.out)
  have HM5 := Hid.mk (HMT.out W5 HBB.out)
  unfold ptrV strV at HM5
  clear hw'' hB5 cW k4 x4 HWW HR4 HW4 HSP4 HSQ4 HMT hq0 hq1
  go_wp2_with (first
    | (go_at_call 47; refine HM5.out.mono ?_; rintro e' W6 ⟨rfl, hst⟩; have ST := Hid.mk hst; clear hst)
    | (go_at_call 19; refine (failed_any _ _).mono ?_; rintro e' W3 ⟨rfl, hb3⟩; have hbx := (hb3.block _ (Nat.lt_of_lt_of_le HSZ.out ST.out.only.size)).trans ((ST.out.only.block _ HSZ.out (fun h => by have := HTL.out _ h; omega)).trans HB1.out); have z0 := blk_cell hbx 0; have y0 := blk_free hbx 0; have z1 := blk_cell hbx 1; have y1 := blk_free hbx 1; have z2 := blk_cell hbx 2; have y2 := blk_free hbx 2; have z3 := blk_cell hbx 3; have y3 := blk_free hbx 3; have z4 := blk_cell hbx 4; have y4 := blk_free hbx 4; have z5 := blk_cell hbx 5; have y5 := blk_free hbx 5; have z6 := blk_cell hbx 6; have y6 := blk_free hbx 6; simp at z0 z1 z2 z3 z4 z5 z6;  have BXX := Hid.mk hbx; have HB3 := Hid.mk hb3; unfold errV; clear hbx hb3))
  have hb7 := (box7 BXX.out (.int .i64 ev) (.slice none 0 0) (.int .i64 0) (.int .i64 0) (.int .i64 0) (.slice none 0 0) (.int .i64 0)).1
  have ho7 := (box7 BXX.out (.int .i64 ev) (.slice none 0 0) (.int .i64 0) (.int .i64 0) (.int .i64 0) (.slice none 0 0) (.int .i64 0)).2
  obtain ⟨Y, hY⟩ : ∃ Y, Y = (((((((W3.setCell ⟨w.heap.size + 1, 0, none⟩ (.int .i64 ev)).setCell ⟨w.heap.size + 1, 1, none⟩ (.slice none 0 0)).setCell ⟨w.heap.size + 1, 2, none⟩ (.int .i64 0)).setCell ⟨w.heap.size + 1, 3, none⟩ (.int .i64 0)).setCell ⟨w.heap.size + 1, 4, none⟩ (.int .i64 0)).setCell ⟨w.heap.size + 1, 5, none⟩ (.slice none 0 0)).setCell ⟨w.heap.size + 1, 6, none⟩ (.int .i64 0)) := ⟨_, rfl⟩
  rw [← hY] at hb7 ho7 ⊢
  have k0 := blk_cell hb7 0
  have k1 := blk_cell hb7 1
  have k2 := blk_cell hb7 2
  have k3 := blk_cell hb7 3
  have k4 := blk_cell hb7 4
  have k5 := blk_cell hb7 5
  have k6 := blk_cell hb7 6
  simp at k0 k1 k2 k3 k4 k5 k6
  have hnot : w.heap.size + 1 ∉ feet t Ls := fun h => by have := HTL.out _ h; omega
  have hst := ST.out.out HBB.out (fun k hk => .inl hk) ((Only.of_new (fun k => k = w.heap.size + 1) HB3.out).trans ho7 (fun i hi => .inl hi) |>.mono (fun i _ hi => by subst hi; exact ⟨by omega, HSZ.out, hnot⟩))
  refine bodyPost_ret (v := errV ev) ?_ rfl ⟨rfl, hst⟩
  simp [results, Tryz.results25, go_sem, errV, k0, k1, k2, k3, k4, k5, k6]
set_option maxRecDepth 100000 in
set_option maxHeartbeats 4000000 in
theorem rename_by_onto (w : World) (t : Nat) (σ σ' : Tr) (Ls : List Lay) (hT : TrAt w t σ Ls) (k : Int) (s s2 : ByteArray) (off m : Int) (dp : Option Addr) (dl dc : Nat) (hs : s.size ≤ 16777216) (hs2 : s2.size ≤ 16777216) (L M : List (List UInt8)) (p q : List UInt8) (h1 : splitL (ofS s) = some (L ++ [p])) (h2 : splitL (ofS s2) = some (M ++ [q])) (d j d2 j2 : Nat) (he : spotE σ.nodes L p = (0, some ⟨d, p, some j⟩)) (he2 : spotE σ.nodes M q = (0, some ⟨d2, q, some j2⟩)) (hj : j < σ.nodes.length) (hw : onWay σ.nodes M j = false) (ev : Int) (HMT : Hid (∀ W, Below w.heap.size w W → Calls Tryz.prog 46 #[ptrV t, .agg #[ptrV (locL Ls d), strV p, ptrV (locL Ls j)], .agg #[ptrV (locL Ls d2), strV q, ptrV (locL Ls j2)]] W fun e w' => e = .returned (.int .i64 ev) ∧ Step (fun k => k ∈ feet t Ls) W t w' σ')) :
    Calls Tryz.prog 25 #[ptrV t, callV k s s2 off m (.slice dp dl dc)] w fun e w' => e = .returned (errV ev) ∧ Step (fun k => k ∈ feet t Ls) w t w' σ' := by
  have mixed : Tryz.prog.follows Departure.mixedOrders = true := by kernel_rfl
  have HTL : Hid (∀ k ∈ feet t Ls, k < w.heap.size) := Hid.mk (fun k hk => hT.lt k hk)
  have HBO : Hid (∀ W, _) := Hid.mk (fun W => both_yes W k s s2 off m dp dl dc hs hs2 h1 h2)
  obtain ⟨b1, b2⟩ := split_bounds h1
  obtain ⟨b3, b4⟩ := split_bounds h2
  have hln : (L ++ [p]).length = L.length + 1 := by simp
  have hln2 : (M ++ [q]).length = M.length + 1 := by simp
  rw [hln, hln2] at HBO
  have HS1 : Hid (∀ W ao c, Below w.heap.size w W → SAt W ao (L.length + 1) (L ++ [p]) → L.length + 1 ≤ c → c ≤ 9223372036854775807 → _) := Hid.mk (fun W ao c (hB : Below w.heap.size w W) hS hc1 hc2 => spot_any W t σ Ls (hT.below rfl hB) ao c L p hS b1 (by omega) hc1 hc2)
  have HS2 : Hid (∀ W ao c, Below w.heap.size w W → SAt W ao (M.length + 1) (M ++ [q]) → M.length + 1 ≤ c → c ≤ 9223372036854775807 → _) := Hid.mk (fun W ao c (hB : Below w.heap.size w W) hS hc1 hc2 => spot_any W t σ Ls (hT.below rfl hB) ao c M q hS b3 (by omega) hc1 hc2)
  have HWI : Hid (∀ W ao c, Below w.heap.size w W → SAt W ao M.length M → _) := Hid.mk (fun W ao c (hB : Below w.heap.size w W) hS => within_any2 W t σ Ls (hT.below rfl hB) ao c M hS (fun x hx => b3 x (by simp [hx])) (by omega) j hj)
  rw [he] at HS1
  rw [he2] at HS2
  rw [hw] at HWI
  simp only [spotV, optV, ptrV, strV] at HS1
  simp only [spotV, optV, ptrV, strV] at HS2
  have hw2 : wrap64 (M.length : Int) = (M.length : Int) := by unfold wrap64; omega
  have hne1 : ¬ ((L.length : Int) + 1 = 0) := by omega
  have hne2 : ¬ ((M.length : Int) + 1 = 0) := by omega
  have hbe1 : (((L.length : Int) + 1) == 0) = false := by simp; omega
  have hbe2 : (((M.length : Int) + 1) == 0) = false := by simp; omega
  generalize L.length = nl at *
  generalize M.length = nm at *
  clear hT hs hs2 h1 h2 he he2 hj hw b1 b2 b3 b4 hln hln2
  unfold callV at HBO
  unfold callV ptrV at *
  go_enter Tryz.func25, Tryz.ntmps25
  go_wp2_with fail
  obtain ⟨X, hX⟩ : ∃ X, X = (w.alloc (.cells #[.int .i64 k, .string s, .string s2, .int .i64 off, .int .i64 m, .slice dp dl dc] 34)).alloc (.cells #[.int .i64 0, .slice none 0 0, .int .i64 0, .int .i64 0, .int .i64 0, .slice none 0 0, .int .i64 0] 31) := ⟨_, rfl⟩
  have hXB : Below w.heap.size w X := by rw [hX]; exact ((Below.refl _ w).alloc (Nat.le_refl _) _).alloc (by simp) _
  have hXs : X.heap.size = w.heap.size + 2 := by rw [hX]; simp
  have hX0 : X.heap[w.heap.size]? = some (.cells #[.int .i64 k, .string s, .string s2, .int .i64 off, .int .i64 m, .slice dp dl dc] 34 (0, 0)) := by rw [hX, Below.heap_alloc _ _ _ (by simp)]; exact blk_new w _
  have hX1 : X.heap[w.heap.size + 1]? = some (.cells #[.int .i64 0, .slice none 0 0, .int .i64 0, .int .i64 0, .int .i64 0, .slice none 0 0, .int .i64 0] 31 (0, 0)) := by
    rw [hX]
    have := blk_new (w.alloc (.cells #[.int .i64 k, .string s, .string s2, .int .i64 off, .int .i64 m, .slice dp dl dc] 34)) (.cells #[.int .i64 0, .slice none 0 0, .int .i64 0, .int .i64 0, .int .i64 0, .slice none 0 0, .int .i64 0] 31)
    rwa [World.size_alloc] at this
  rw [← hX]
  clear hX
  have f0 := blk_cell hX0 0
  have f1 := blk_cell hX0 1
  have f2 := blk_cell hX0 2
  have f3 := blk_cell hX0 3
  have f4 := blk_cell hX0 4
  have f5 := blk_cell hX0 5
  simp at f0 f1 f2 f3 f4 f5
  have HXB := Hid.mk hXB
  have HXS := Hid.mk hXs
  have HX1 := Hid.mk hX1
  clear hXB hXs hX0 hX1
  try go_wp2_with fail
  refine (HBO.out X).mono ?_
  rintro e' W1 ⟨ao, c, bo, dd, rfl, hSA, hSB, hc1, hc2, hd1, hd2, hB1⟩
  have hBw : Below w.heap.size w W1 := HXB.out.trans (hB1.mono (by have := HXS.out; omega))
  have HP1 := Hid.mk (HS1.out W1 ao c hBw hSA hc1 hc2)
  have HR1 : Hid (W1.heap[w.heap.size + 1]? = some (.cells #[.int .i64 0, .slice none 0 0, .int .i64 0, .int .i64 0, .int .i64 0, .slice none 0 0, .int .i64 0] 31 (0, 0))) := Hid.mk ((hB1.block _ (by have := HXS.out; omega)).trans HX1.out)
  have HSB := Hid.mk hSB
  have HBW := Hid.mk hBw
  have HD1 := Hid.mk hd1
  have HD2 := Hid.mk hd2
  have hdc : (nm : Int) ≤ (dd : Int) := by omega
  clear hSA hSB hc1 hc2 hd1 hd2 hB1 hBw HXB HXS HX1 HBO HS1 f0 f1 f2 f3 f4 f5
  go_wp2_with fail
  refine HP1.out.mono ?_
  rintro e' W2 ⟨rfl, hB2⟩
  obtain ⟨Y2, hY2⟩ : ∃ Y2, Y2 = W2.alloc (.cells #[.pointer (some ⟨locL Ls d, 0, none⟩), .string (mkS p), .pointer (some ⟨locL Ls j, 0, none⟩)] 69) := ⟨_, rfl⟩
  have hBw2 : Below W1.heap.size W1 Y2 := by rw [hY2]; exact hB2.alloc hB2.size _
  have hsp : Y2.heap[W2.heap.size]? = some (.cells #[.pointer (some ⟨locL Ls d, 0, none⟩), .string (mkS p), .pointer (some ⟨locL Ls j, 0, none⟩)] 69 (0, 0)) := by rw [hY2]; exact blk_new W2 _
  have hw2Y : Below w.heap.size w Y2 := HBW.out.trans (hBw2.mono HBW.out.size)
  have HP2 := Hid.mk (HS2.out Y2 bo dd hw2Y (HSB.out.below hBw2) HD1.out HD2.out)
  go_upto_region 9 with fail
  rw [← hY2]
  clear hY2
  generalize W2.heap.size = sb at *
  have x0 := blk_cell hsp 2
  simp at x0
  have HSP := Hid.mk hsp
  have HY := Hid.mk hBw2
  have HWY := Hid.mk hw2Y
  clear hsp hBw2 hw2Y hB2 HP1
  go_upto_region 12 with (go_at_call 44; refine HP2.out.mono ?_; rintro e' W4 ⟨rfl, hB4⟩; have HB4 := Hid.mk hB4; clear hB4)
  obtain ⟨Y4, hY4⟩ : ∃ Y4, Y4 = W4.alloc (.cells #[.pointer (some ⟨locL Ls d2, 0, none⟩), .string (mkS q), .pointer (some ⟨locL Ls j2, 0, none⟩)] 69) := ⟨_, rfl⟩
  have hB4Y : Below Y2.heap.size Y2 Y4 := by rw [hY4]; exact HB4.out.alloc HB4.out.size _
  have hsq4 : Y4.heap[W4.heap.size]? = some (.cells #[.pointer (some ⟨locL Ls d2, 0, none⟩), .string (mkS q), .pointer (some ⟨locL Ls j2, 0, none⟩)] 69 (0, 0)) := by rw [hY4]; exact blk_new W4 _
  rw [← hY4]
  clear hY4
  have hsp4 := (hB4Y.block sb (lt_of_block HSP.out)).trans HSP.out
  have x4 := blk_cell hsp4 2
  simp at x4
  have hwY4 : Below w.heap.size w Y4 := HWY.out.trans (hB4Y.mono HWY.out.size)
  have HWW : Hid (∀ W, Below Y4.heap.size Y4 W → _) := Hid.mk (fun W (hB : Below Y4.heap.size Y4 W) => HWI.out W bo dd (hwY4.trans (hB.mono hwY4.size)) (((HSB.out.below HY.out).below hB4Y).below hB).front2)
  have HR4 : Hid (Y4.heap[w.heap.size + 1]? = some (.cells #[.int .i64 0, .slice none 0 0, .int .i64 0, .int .i64 0, .int .i64 0, .slice none 0 0, .int .i64 0] 31 (0, 0))) := Hid.mk ((hB4Y.block _ (Nat.lt_of_lt_of_le (lt_of_block HR1.out) HY.out.size)).trans ((HY.out.block _ (lt_of_block HR1.out)).trans HR1.out))
  have HW4 := Hid.mk hwY4
  unfold ptrV at HWW
  generalize hW4s : W4.heap.size = sb4 at *
  have HSP4 := Hid.mk hsp4
  have HSQ4 := Hid.mk hsq4
  have HMV4 : Hid (w.heap.size + 1 < Y4.heap.size) := Hid.mk (lt_of_block HR4.out)
  clear hB4Y hsp4 hsq4 hwY4 HWI HSB HY HP2 HS2 hW4s
  go_upto_region 14 with fail
  have k4 := cell_regrown x4
  have cW : ∀ dd' os, Calls Tryz.prog 45 #[.pointer (some ⟨t, 0, none⟩), .slice bo nm dd, .pointer (some ⟨locL Ls j, 0, none⟩)] (grow (redrawn Y4 dd') os) fun e w'' => e = .returned (.bool false) ∧ ∃ p : Regrown, w'' = grow (redrawn Y4 p.d) p.os := fun dd' os => Calls.regrown_of (HWW.out _ (below_regrown _ _ _))
  refine wp_region_quiet_below mixed (by kernel_rfl) ?_
  repeat (go_big_quiet_step (first | (go_at_call 45; exact cW _ _)))
  refine wpQuiet_nil ?_
  intro W5 hw'
  obtain ⟨⟨dq, osq⟩, hw''⟩ := hw'
  have hB5 := below_regrown Y4 dq osq
  rw [← hw''] at hB5
  have HB1 : Hid (W5.heap[w.heap.size + 1]? = some (.cells #[.int .i64 0, .slice none 0 0, .int .i64 0, .int .i64 0, .int .i64 0, .slice none 0 0, .int .i64 0] 31 (0, 0))) := Hid.mk ((hB5.block _ (lt_of_block HR4.out)).trans HR4.out)
  have HBB : Hid (Below w.heap.size w W5) := Hid.mk (HW4.out.trans (hB5.mono HW4.out.size))
  have hq0 := (hB5.block sb (lt_of_block HSP4.out)).trans HSP4.out
  have hq1 := (hB5.block sb4 (lt_of_block HSQ4.out)).trans HSQ4.out
  have u0 := blk_cell hq0 0
  have u1 := blk_cell hq0 1
  have u2 := blk_cell hq0 2
  have v0 := blk_cell hq1 0
  have v1 := blk_cell hq1 1
  have v2 := blk_cell hq1 2
  simp at u0 u1 u2 v0 v1 v2
  have HSZ : Hid (w.heap.size + 1 < W5.heap.size) := Hid.mk (lt_of_block HB1.out)
  have HM5 := Hid.mk (HMT.out W5 HBB.out)
  unfold ptrV strV at HM5
  clear hw'' hB5 cW k4 x4 HWW HR4 HW4 HSP4 HSQ4 HMT hq0 hq1
  go_wp2_with (first
    | (go_at_call 46; refine HM5.out.mono ?_; rintro e' W6 ⟨rfl, hst⟩; have ST := Hid.mk hst; clear hst)
    | (go_at_call 19; refine (failed_any _ _).mono ?_; rintro e' W3 ⟨rfl, hb3⟩; have hbx := (hb3.block _ (Nat.lt_of_lt_of_le HSZ.out ST.out.only.size)).trans ((ST.out.only.block _ HSZ.out (fun h => by have := HTL.out _ h; omega)).trans HB1.out); have z0 := blk_cell hbx 0; have y0 := blk_free hbx 0; have z1 := blk_cell hbx 1; have y1 := blk_free hbx 1; have z2 := blk_cell hbx 2; have y2 := blk_free hbx 2; have z3 := blk_cell hbx 3; have y3 := blk_free hbx 3; have z4 := blk_cell hbx 4; have y4 := blk_free hbx 4; have z5 := blk_cell hbx 5; have y5 := blk_free hbx 5; have z6 := blk_cell hbx 6; have y6 := blk_free hbx 6; simp at z0 z1 z2 z3 z4 z5 z6;  have BXX := Hid.mk hbx; have HB3 := Hid.mk hb3; unfold errV; clear hbx hb3))
  have hb7 := (box7 BXX.out (.int .i64 ev) (.slice none 0 0) (.int .i64 0) (.int .i64 0) (.int .i64 0) (.slice none 0 0) (.int .i64 0)).1
  have ho7 := (box7 BXX.out (.int .i64 ev) (.slice none 0 0) (.int .i64 0) (.int .i64 0) (.int .i64 0) (.slice none 0 0) (.int .i64 0)).2
  obtain ⟨Y, hY⟩ : ∃ Y, Y = (((((((W3.setCell ⟨w.heap.size + 1, 0, none⟩ (.int .i64 ev)).setCell ⟨w.heap.size + 1, 1, none⟩ (.slice none 0 0)).setCell ⟨w.heap.size + 1, 2, none⟩ (.int .i64 0)).setCell ⟨w.heap.size + 1, 3, none⟩ (.int .i64 0)).setCell ⟨w.heap.size + 1, 4, none⟩ (.int .i64 0)).setCell ⟨w.heap.size + 1, 5, none⟩ (.slice none 0 0)).setCell ⟨w.heap.size + 1, 6, none⟩ (.int .i64 0)) := ⟨_, rfl⟩
  rw [← hY] at hb7 ho7 ⊢
  have k0 := blk_cell hb7 0
  have k1 := blk_cell hb7 1
  have k2 := blk_cell hb7 2
  have k3 := blk_cell hb7 3
  have k4 := blk_cell hb7 4
  have k5 := blk_cell hb7 5
  have k6 := blk_cell hb7 6
  simp at k0 k1 k2 k3 k4 k5 k6
  have hnot : w.heap.size + 1 ∉ feet t Ls := fun h => by have := HTL.out _ h; omega
  have hst := ST.out.out HBB.out (fun k hk => .inl hk) ((Only.of_new (fun k => k = w.heap.size + 1) HB3.out).trans ho7 (fun i hi => .inl hi) |>.mono (fun i _ hi => by subst hi; exact ⟨by omega, HSZ.out, hnot⟩))
  refine bodyPost_ret (v := errV ev) ?_ rfl ⟨rfl, hst⟩
  simp [results, Tryz.results25, go_sem, errV, k0, k1, k2, k3, k4, k5, k6]
/-- What rename answers, and what it makes of the tree. -/
def renameS (σ : Tr) (s s2 : List UInt8) : Int × Tr :=
  match splitL s, splitL s2 with
  | some L, some M =>
    if L = [] ∨ M = [] then (18, σ)
    else match spotE σ.nodes L.dropLast (L.getLastD []) with
      | (e, none) => (e, σ)
      | (_, some ⟨_, _, none⟩) => (10, σ)
      | (_, some ⟨d, p, some j⟩) => match spotE σ.nodes M.dropLast (M.getLastD []) with
        | (e, none) => (e, σ)
        | (_, some ⟨d2, q, o⟩) =>
          if onWay σ.nodes M.dropLast j = true then (19, σ)
          else match o with
            | none => (moveE σ d j d2, moveR σ d p j d2 q)
            | some j2 => (ontoE σ j j2, ontoR σ d p j d2 q j2)
  | _, _ => (15, σ)
theorem snoc {α : Type} (L : List (List α)) (h : L ≠ []) : L.dropLast ++ [L.getLastD []] = L := by
  rcases List.eq_nil_or_concat L with e | ⟨A, q, e⟩
  · exact (h e).elim
  · rw [e]; simp
theorem doo_rename (w : World) (t : Nat) (σ : Tr) (Ls : List Lay) (hT : TrAt w t σ Ls) (hOk : ∀ x ∈ σ.nodes, x.Ok) (s s2 : ByteArray) (off m : Int) (dp : Option Addr) (dl dc : Nat) (hs : s.size ≤ 16777216) (hs2 : s2.size ≤ 16777216) :
    Calls Tryz.prog 9 #[ptrV t, callV 6 s s2 off m (.slice dp dl dc)] w fun e w' => e = .returned (errV (renameS σ (ofS s) (ofS s2)).1) ∧ Step (fun k => k ∈ feet t Ls) w t w' (renameS σ (ofS s) (ofS s2)).2 := by
  refine (do_rename w t (renameS σ (ofS s) (ofS s2)).2 Ls s s2 off m dp dl dc (renameS σ (ofS s) (ofS s2)).1 0 0 0 0 (fun x y _ => x = .slice none 0 0 ∧ y = .slice none 0 0) (fun k hk => hT.lt k hk) (fun _ _ _ _ h _ => h) (Hid.mk (fun W hB _ => (?_ : Calls Tryz.prog 25 #[ptrV t, callV 6 s s2 off m (.slice dp dl dc)] W fun e w' => e = .returned (errV (renameS σ (ofS s) (ofS s2)).1) ∧ Step (fun k => k ∈ feet t Ls) W t w' (renameS σ (ofS s) (ofS s2)).2).mono (fun e w' hh => ⟨none, 0, 0, none, 0, 0, hh.1, hh.2, rfl, rfl⟩)))).mono ?_
  · have hTW := hT.below rfl hB
    have still : ∀ e w', e = Ending.returned (errV (renameS σ (ofS s) (ofS s2)).1) ∧ Below W.heap.size W w' → (renameS σ (ofS s) (ofS s2)).2 = σ → e = Ending.returned (errV (renameS σ (ofS s) (ofS s2)).1) ∧ Step (fun k => k ∈ feet t Ls) W t w' (renameS σ (ofS s) (ofS s2)).2 := fun e w' h hσ => ⟨h.1, by rw [hσ]; exact Step.still hTW (fun k hk => hk) h.2⟩
    cases h1 : splitL (ofS s) with
    | none =>
      have e1 : renameS σ (ofS s) (ofS s2) = (15, σ) := by unfold renameS; rw [h1]
      rw [e1] at still ⊢
      exact (rename_bad W t σ Ls hTW 6 s s2 off m dp dl dc hs hs2 (.inl h1)).mono (fun e w' h => still e w' h rfl)
    | some L =>
      cases h2 : splitL (ofS s2) with
      | none =>
        have e1 : renameS σ (ofS s) (ofS s2) = (15, σ) := by unfold renameS; rw [h1, h2]
        rw [e1] at still ⊢
        exact (rename_bad W t σ Ls hTW 6 s s2 off m dp dl dc hs hs2 (.inr h2)).mono (fun e w' h => still e w' h rfl)
      | some M =>
        have e0 : renameS σ (ofS s) (ofS s2) = if L = [] ∨ M = [] then (18, σ)
            else match spotE σ.nodes L.dropLast (L.getLastD []) with
              | (e, none) => (e, σ)
              | (_, some ⟨_, _, none⟩) => (10, σ)
              | (_, some ⟨d, p, some j⟩) => match spotE σ.nodes M.dropLast (M.getLastD []) with
                | (e, none) => (e, σ)
                | (_, some ⟨d2, q, o⟩) =>
                  if onWay σ.nodes M.dropLast j = true then (19, σ)
                  else match o with
                    | none => (moveE σ d j d2, moveR σ d p j d2 q)
                    | some j2 => (ontoE σ j j2, ontoR σ d p j d2 q j2) := by unfold renameS; rw [h1, h2]
        by_cases hL : L = []
        · subst hL
          have e1 : renameS σ (ofS s) (ofS s2) = (18, σ) := by rw [e0]; simp
          rw [e1] at still ⊢
          exact (rename_root1 W t σ Ls hTW 6 s s2 off m dp dl dc hs hs2 M h1 h2).mono (fun e w' h => still e w' h rfl)
        · obtain ⟨A, p, rfl⟩ : ∃ A p, L = A ++ [p] := ⟨_, _, (snoc L hL).symm⟩
          by_cases hM : M = []
          · subst hM
            have e1 : renameS σ (ofS s) (ofS s2) = (18, σ) := by rw [e0]; simp
            rw [e1] at still ⊢
            exact (rename_root2 W t σ Ls hTW 6 s s2 off m dp dl dc hs hs2 A p h1 h2).mono (fun e w' h => still e w' h rfl)
          · obtain ⟨B, q, rfl⟩ : ∃ B q, M = B ++ [q] := ⟨_, _, (snoc M hM).symm⟩
            rw [if_neg (by simp)] at e0
            simp only [List.dropLast_concat, List.getLastD_concat] at e0
            rcases spotE_or σ.nodes A p with ⟨d, o, he, w1, w2, w3⟩ | ⟨e, he, hne⟩
            · cases o with
              | none =>
                rw [he] at e0
                have e1 : renameS σ (ofS s) (ofS s2) = (10, σ) := e0
                rw [e1] at still ⊢
                exact (rename_none1 W t σ Ls hTW 6 s s2 off m dp dl dc hs hs2 A B p q h1 h2 d he).mono (fun e w' h => still e w' h rfl)
              | some j =>
                rw [he] at e0
                have hdl := wayE_lt hTW A w1
                have hj : j < σ.nodes.length := by
                  obtain ⟨b, m', r, c, l, z, sl, q1, q2, q3, q4, q5⟩ := hTW.dirAt hdl w2
                  rw [q5] at w3
                  exact look_ref hTW q2 w3.symm
                have bp := (split_bounds h1).1 p (by simp)
                have bq := (split_bounds h2).1 q (by simp)
                rcases spotE_or σ.nodes B q with ⟨d2, o2, he2, w4, w5, w6⟩ | ⟨e, he2, hne⟩
                · rw [he2] at e0
                  have hd2l := wayE_lt hTW B w4
                  cases hw : onWay σ.nodes B j with
                  | true =>
                    have e1 : renameS σ (ofS s) (ofS s2) = (19, σ) := by rw [e0]; simp [hw]
                    rw [e1] at still ⊢
                    exact (rename_loop W t σ Ls hTW 6 s s2 off m dp dl dc hs hs2 A B p q h1 h2 d j d2 o2 he he2 hj hw).mono (fun e w' h => still e w' h rfl)
                  | false =>
                    cases o2 with
                    | none =>
                      have e1 : renameS σ (ofS s) (ofS s2) = (moveE σ d j d2, moveR σ d p j d2 q) := by rw [e0]; simp [hw]
                      rw [e1]
                      exact rename_by_move W t σ _ Ls hTW 6 s s2 off m dp dl dc hs hs2 A B p q h1 h2 d j d2 he he2 hj hw _ (Hid.mk (fun W' hB' => (move_any W' t σ Ls (hTW.below rfl hB') hOk d p j d2 q hdl w2 w3.symm bp hj hd2l w5 w6.symm bq).mono (fun e w' hh => ⟨hh.1, hh.2.step⟩)))
                    | some j2 =>
                      have e1 : renameS σ (ofS s) (ofS s2) = (ontoE σ j j2, ontoR σ d p j d2 q j2) := by rw [e0]; simp [hw]
                      rw [e1]
                      have hj2 : j2 < σ.nodes.length := by
                        obtain ⟨b, m', r, c, l, z, sl, q1, q2, q3, q4, q5⟩ := hTW.dirAt hd2l w5
                        rw [q5] at w6
                        exact look_ref hTW q2 w6.symm
                      exact rename_by_onto W t σ _ Ls hTW 6 s s2 off m dp dl dc hs hs2 A B p q h1 h2 d j d2 j2 he he2 hj hw _ (Hid.mk (fun W' hB' => (onto_any W' t σ Ls (hTW.below rfl hB') hOk d p j d2 q j2 hdl w2 w3.symm bp hj hd2l w5 w6.symm bq hj2).mono (fun e w' hh => ⟨hh.1, hh.2.step⟩)))
                · rw [he2] at e0
                  have e1 : renameS σ (ofS s) (ofS s2) = (e, σ) := e0
                  rw [e1] at still ⊢
                  exact (rename_no2 W t σ Ls hTW 6 s s2 off m dp dl dc hs hs2 A B p q h1 h2 d j he e he2 hne).mono (fun e w' h => still e w' h rfl)
            · rw [he] at e0
              have e1 : renameS σ (ofS s) (ofS s2) = (e, σ) := e0
              rw [e1] at still ⊢
              exact (rename_no1 W t σ Ls hTW 6 s s2 off m dp dl dc hs hs2 A B p q h1 h2 e he hne).mono (fun e w' h => still e w' h rfl)
  · rintro e w' ⟨a1, n1, c1, a5, n5, c5, rfl, hst, h1, h2⟩
    cases h1; cases h2
    exact ⟨rfl, hst⟩
end Go.Proofs.YtehaoeclnmelhacGreat
