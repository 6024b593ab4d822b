/-
  walk.Find.
-/
import Derived.Test.YtbahbhaoimabdaaWkWay
import Derived.Test.YtbahbhaoimabdaaLayPt
namespace Go.Proofs.Ytbahbhaoimabdaa
open Go Go.Proofs Go.RowKit Go.Shelf
attribute [local go_sem] Oper.semAt_some

theorem arm_call1 {f : Nat} {C : Prop} (h : C) : Fence.wide.fn f ∧ C := ⟨trivial, h⟩
/-- Where a path leads, and the error. -/
def findP (m : Nat) (Nd : Nat → NoV) (P : List (List UInt8)) : List (Nat × Nat) := wayW m Nd (placeS m Nd 1) (P.map mkS)
def lastP (L : List (Nat × Nat)) : Nat × Nat := L.getLast?.getD (0, 0)
def findS (m : Nat) (Nd : Nat → NoV) (s : ByteArray) : Nat × Nat := match splitL (ofS s) with | none => (0, 15) | some P => lastP (findP m Nd P)
theorem strAt_of {W : World} {B : Nat} {v : Value} {n : Nat} {L : List (List UInt8)} (h : W.ownsRow B 9 1 v n (Sy L)) : ∃ po c, v = .slice po n c ∧ StrAt W po n (L.map mkS) := by
  obtain ⟨ao, c, rfl, hs, -, -⟩ := owns_SAt h
  refine ⟨ao, c, rfl, by rw [List.length_map]; exact hs.1, fun hn => ?_⟩
  obtain ⟨b, o, e, hl, hc⟩ := hs.place hn
  refine ⟨b, o, e, hl, fun k hk => ?_⟩
  rw [hc k hk]
  have hlt : k < L.length := by rw [hs.1]; exact hk
  simp [strV, List.getD, List.getElem?_eq_getElem hlt]
theorem pieces_len (l : List UInt8) : (pieces l).length ≤ l.length + 1 := by
  induction l with
  | nil => simp [pieces]
  | cons c l ih =>
    unfold pieces
    split <;> simp <;> omega
theorem splitL_len {l : List UInt8} {P : List (List UInt8)} (h : splitL l = some P) : P.length ≤ l.length := by
  cases l with
  | nil => cases h
  | cons c r =>
    unfold splitL at h
    dsimp only at h
    by_cases hc : c = 47 ∧ r.length < 500 ∧ (partsL r).all mayB = true
    · rw [if_pos hc] at h
      cases h
      unfold partsL
      split
      · simp
      · have := pieces_len r
        simpa using this
    · rw [if_neg hc] at h
      cases h
/-- Between two rounds. -/
structure FnI (w : World) (ao : Option Addr) (m cc : Nat) (po : Option Addr) (n pc : Nat) (Lw : List (Nat × Nat)) (_S : Nat → Prop) (k : Nat) (W : World) : Prop where
  at' : ∃ a : Nat, W.heap[w.heap.size + 1]? = some (.cells #[.int .i64 (a : Int)] 3 (0, 0)) ∧ (0 < k → a = (Lw.getD (k - 1) (0, 0)).1)
  err : ∃ a : Nat, W.heap[w.heap.size]? = some (.cells #[.int .i64 (a : Int)] 25 (0, 0)) ∧ (0 < k → a = (Lw.getD (k - 1) (0, 0)).2)
  l : W.heap[w.heap.size + 2]? = some (.cells #[.slice ao m cc] 22 (0, 0))
  p : W.heap[w.heap.size + 3]? = some (.cells #[.slice po n pc] 31 (0, 0))
  below : Below w.heap.size w W
  size : w.heap.size + 4 ≤ W.heap.size
theorem FnI.kept {w : World} {ao po : Option Addr} {m cc n pc : Nat} {Lw : List (Nat × Nat)} (S T : Nat → Prop) (k : Nat) (A B : World) (h : FnI w ao m cc po n pc Lw S k A) (hS : ∀ b, S b → w.heap.size + 4 + 2 ≤ b) (hO : Only (fun b => S b ∨ b = w.heap.size + 4 + 1) A B) : FnI w ao m cc po n pc Lw T k B := by
  have hs := h.size
  have hk : ∀ b, b < w.heap.size + 4 → B.heap[b]? = A.heap[b]? := fun b hb => hO.block b (by omega) (fun e => by rcases e with e | e; (have := hS b e; omega); omega)
  obtain ⟨a, h1, h2⟩ := h.at'
  obtain ⟨e, g1, g2⟩ := h.err
  exact ⟨⟨a, (hk _ (by omega)).trans h1, h2⟩, ⟨e, (hk _ (by omega)).trans g1, g2⟩, (hk _ (by omega)).trans h.l, (hk _ (by omega)).trans h.p, h.below.trans (hO.below (by omega) (fun b e => by rcases e with e | e; (have := hS b e; omega); omega)), by have := hO.size; omega⟩
set_option maxRecDepth 100000 in
set_option maxHeartbeats 4000000 in
theorem way_any (w : World) (ao : Option Addr) (m cc : Nat) (po : Option Addr) (n pc : Nat) : Calls Try.prog 23 #[.slice ao m cc, .slice po n pc] w fun e w' => e = .returned (.func (.func 36) #[] #[.pointer (some ⟨w.heap.size, 0, none⟩), .pointer (some ⟨w.heap.size + 1, 0, none⟩)]) ∧ w' = (w.alloc (.cells #[.slice ao m cc] 22)).alloc (.cells #[.slice po n pc] 31) := by
  go_enter Try.func23, Try.ntmps23
  go_wp2
  go_ret
  exact ⟨rfl, rfl⟩
set_option maxRecDepth 100000 in
set_option maxHeartbeats 4000000 in
theorem find_any (w : World) (ao : Option Addr) (m cc : Nat) (Nd : Nat → NoV) (s : ByteArray) (hN : NoAt w ao m Nd) (hm : m ≤ 16777216) (hs : s.size ≤ 16777216) : Calls Try.prog 11 #[.slice ao m cc, .string s] w fun e w' => e = .returned (.tuple #[.int .i64 ((findS m Nd s).1 : Nat), .int .i64 ((findS m Nd s).2 : Nat)]) ∧ Below w.heap.size w w' := by
  have mixed : Try.prog.follows Departure.mixedOrders = true := by kernel_rfl
  have HN := Hid.mk hN
  have HM := Hid.mk hm
  have hsp := split_any w s hs
  unfold findS
  cases hq : splitL (ofS s) with
  | none =>
    rw [hq] at hsp
    have HSP := Hid.mk hsp
    clear hN hm hs hsp hq
    dsimp only
    refine (callsIn_wide (n := 5)).1 ?_
    refine callsIn_of_wp_marks Try.func11 rfl trivial ?_ rfl
    simp only [Try.ntmps11, List.size_toArray, List.length_cons, List.length_nil, Nat.reduceAdd, Nat.reduceSub, Array.replicate_succ, Array.replicate_zero, List.push_toArray, List.append_toArray, List.nil_append, List.cons_append]
    gi_wp2_with (refine ⟨trivial, ?_⟩; gi_at_call 22; refine (callsIn_wide.2 HSP.out).mono ?_; rintro e w1 ⟨v, rfl, -, hB1⟩; simp only [splE])
    obtain ⟨X, hX⟩ : ∃ X, X = w1.alloc (.cells #[.int .i64 15] 25) := ⟨_, rfl⟩
    have hBX : Below w.heap.size w X := by rw [hX]; exact hB1.alloc hB1.size _
    have cX : X.cell? ⟨w1.heap.size, 0, none⟩ = some (.int .i64 15) := by rw [hX, blk_cell (blk_new w1 _)]; rfl
    rw [← hX]
    have HBX := Hid.mk hBX
    generalize w1.heap.size = q at *
    clear hX hBX hB1 HSP
    gi_region
    gi_wp2
    refine ⟨.tuple #[.int .i64 0, .int .i64 15], ?_, rfl, HBX.out.drew⟩
    simp [results, Try.f11, go_sem]
  | some P =>
    rw [hq] at hsp
    have HSP := Hid.mk hsp
    clear hN hsp
    dsimp only
    refine (callsIn_wide (n := 5)).1 ?_
    refine callsIn_of_wp_marks Try.func11 rfl trivial ?_ rfl
    simp only [Try.ntmps11, List.size_toArray, List.length_cons, List.length_nil, Nat.reduceAdd, Nat.reduceSub, Array.replicate_succ, Array.replicate_zero, List.push_toArray, List.append_toArray, List.nil_append, List.cons_append]
    gi_wp2_with (first
      | (with_reducible refine arm_call1 ?_; gi_at_call 22; refine (callsIn_wide.2 HSP.out).mono ?_; rintro e w1 ⟨v, rfl, h1, hB1⟩; simp only [splE, splL, Option.getD] at h1 ⊢; obtain ⟨po, pc, rfl, hP⟩ := strAt_of h1; clear h1)
      | (with_reducible refine arm_call1 ?_; gi_at_call 23; refine (callsIn_wide.2 (way_any _ _ _ _ _ _ _)).mono ?_; rintro e w3 ⟨rfl, hw3⟩))
    obtain ⟨W0, hW0⟩ : ∃ W0, W0 = ((((w1.alloc (.cells #[.int .i64 0] 25)).alloc (.cells #[.int .i64 0] 3)).alloc (.cells #[.slice ao m cc] 22)).alloc (.cells #[.slice po P.length pc] 31)) := ⟨_, rfl⟩
    have zs : W0.heap.size = w1.heap.size + 4 := by rw [hW0]; simp
    have zb : Below w1.heap.size w1 W0 := by
      rw [hW0]
      exact ((((Below.refl _ w1).alloc (Nat.le_refl _) _).alloc (by simp) _).alloc (by simp; omega) _).alloc (by simp; omega) _
    have q1 := blk_new (w1.alloc (.cells #[.int .i64 0] 25)) (.cells #[.int .i64 0] 3)
    have q2 := blk_new ((w1.alloc (.cells #[.int .i64 0] 25)).alloc (.cells #[.int .i64 0] 3)) (.cells #[.slice ao m cc] 22)
    have q3 := blk_new (((w1.alloc (.cells #[.int .i64 0] 25)).alloc (.cells #[.int .i64 0] 3)).alloc (.cells #[.slice ao m cc] 22)) (.cells #[.slice po P.length pc] 31)
    simp only [World.size_alloc] at q1 q2 q3
    have hI0 : FnI w1 ao m cc po P.length pc (findP m Nd P) (fun _ => False) 0 W0 := by
      refine ⟨⟨0, ?_, fun h => absurd h (Nat.lt_irrefl 0)⟩, ⟨0, ?_, fun h => absurd h (Nat.lt_irrefl 0)⟩, ?_, ?_, zb, by omega⟩
      · rw [hW0, Below.heap_alloc _ _ _ (by simp <;> omega), Below.heap_alloc _ _ _ (by simp <;> omega)]; exact q1
      · rw [hW0, Below.heap_alloc _ _ _ (by simp <;> omega), Below.heap_alloc _ _ _ (by simp <;> omega), Below.heap_alloc _ _ _ (by simp)]; exact blk_new w1 _
      · rw [hW0, Below.heap_alloc _ _ _ (by simp [World.size_alloc] <;> omega)]; exact q2
      · rw [hW0]; exact q3
    have HB1 := Hid.mk hB1
    have HP := Hid.mk hP
    have HNE : Hid (findP m Nd P ≠ []) := Hid.mk (wayW_ne _ _ _ _)
    have hlen : P.length ≤ 16777216 := by
      have h1 := splitL_len hq
      rw [ofS_length] at h1
      omega
    rw [← hW0]
    clear q1 q2 q3 hW0 hP hB1 HSP hm hs hq
    refine wpIn_range_kz (gf := 36) (lb := #[.pointer (some ⟨w1.heap.size + 1 + 1, 0, none⟩), .pointer (some ⟨w1.heap.size + 1 + 1 + 1, 0, none⟩)]) rfl (enters_of Try.func36 (by kernel_rfl) rfl) (findP m Nd P).length (fun k => #[.int .i64 (((findP m Nd P).getD k (0, 0)).1 : Nat), .int .i64 (((findP m Nd P).getD k (0, 0)).2 : Nat)]) (fun _ => rfl)
      (FnI w1 ao m cc po P.length pc (findP m Nd P)) (fun S T k A B h hS hO _ => FnI.kept S T k A B h (by rw [zs] at hS; exact hS) (by rw [zs] at hO; exact hO)) hI0 ?hit ?round ?skip ?done
    case hit =>
      intro l J W hJI hg hJ h0'
      exact way_hit rfl rfl hJ (fun S k A h => ⟨(hJI S k A h).l, (hJI S k A h).p, HN.out.blw (HB1.out.trans ((hJI S k A h).below.mono HB1.out.size)), HP.out.blw (hJI S k A h).below⟩) HM.out hlen W h0' _
    case round =>
      intro n l k S W K hI hk hS hsz hK
      rw [zs] at hS hsz hK
      obtain ⟨av, h1, h2⟩ := hI.at'
      obtain ⟨ev, g1, g2⟩ := hI.err
      have c0 := blk_cell h1 0
      have f0 := blk_free h1 0
      have c1 := blk_cell g1 0
      have f1 := blk_free g1 0
      simp at c0 c1
      have hne : ¬ w1.heap.size = w1.heap.size + 1 := by omega
      have hne2 : ¬ w1.heap.size + 1 = w1.heap.size := by omega
      generalize hx : (findP m Nd P).getD k (0, 0) = x at *
      obtain ⟨x1, x2⟩ := x
      dsimp only
      have HFIN : Hid (∀ a', K a' ((W.setCell ⟨w1.heap.size + 1, 0, none⟩ (.int .i64 (x1 : Int))).setCell ⟨w1.heap.size, 0, none⟩ (.int .i64 (x2 : Int)))) := Hid.mk (fun a' => by
        have hst : ∀ b, b ≠ w1.heap.size → b ≠ w1.heap.size + 1 → ((W.setCell ⟨w1.heap.size + 1, 0, none⟩ (.int .i64 (x1 : Int))).setCell ⟨w1.heap.size, 0, none⟩ (.int .i64 (x2 : Int))).heap[b]? = W.heap[b]? := fun b h1 h2 => (Below.heap_setCell _ _ _ _ h1).trans (Below.heap_setCell _ _ _ _ h2)
        have hz : ((W.setCell ⟨w1.heap.size + 1, 0, none⟩ (.int .i64 (x1 : Int))).setCell ⟨w1.heap.size, 0, none⟩ (.int .i64 (x2 : Int))).heap.size = W.heap.size := by simp [World.setCell]
        refine hK _ _ (hst _ (by omega) (by omega)) (hst _ (by omega) (by omega)) (fun b hb => hst b (by have := hS b hb; omega) (by have := hS b hb; omega)) (by omega) ?_
        refine ⟨⟨x1, ?_, fun _ => by rw [show k + 1 - 1 = k by omega, hx]⟩, ⟨x2, ?_, fun _ => by rw [show k + 1 - 1 = k by omega, hx]⟩, (hst _ (by omega) (by omega)).trans hI.l, (hst _ (by omega) (by omega)).trans hI.p, ?_, by have := hI.size; omega⟩
        · rw [Below.heap_setCell _ _ _ _ (by simp)]
          exact one_setCell h1
        · exact one_setCell ((Below.heap_setCell _ _ _ _ (by simp)).trans g1)
        · exact (hI.below.setCell (p := ⟨w1.heap.size + 1, 0, none⟩) (Nat.le_succ _) _).setCell (p := ⟨w1.heap.size, 0, none⟩) (Nat.le_refl _) _)
      clear hK hI hS hsz h1 h2 g1 g2 hx hk hI0
      gi_wp2
      exact HFIN.out _
    case skip =>
      intro F' m' R b W h
      gi_wp2
      exact h
    case done =>
      intro D S W hD hI hS hKD
      rw [zs] at hD
      have hpos : 0 < (findP m Nd P).length := List.length_pos_iff.2 HNE.out
      obtain ⟨av, h1, h2⟩ := hI.at'
      obtain ⟨ev, g1, g2⟩ := hI.err
      have hla : (findP m Nd P).getD ((findP m Nd P).length - 1) (0, 0) = lastP (findP m Nd P) := by
        unfold lastP
        rw [List.getLast?_eq_getElem?, List.getD]
      have ea := h2 hpos
      have ee := g2 hpos
      rw [hla] at ea ee
      have m0 := blk_cell h1 0
      have m1 := blk_cell g1 0
      simp at m0 m1
      have HDK := Hid.mk hKD
      have HEA := Hid.mk (And.intro ea ee)
      have HGO : Hid (Below w.heap.size w (W.drew.putObj D (.deferred none))) := Hid.mk (by
        have h := (HB1.out.trans (hI.below.mono HB1.out.size)).drew
        have h3 : Below w.heap.size W.drew (W.drew.putObj D (.deferred none)) := belowK_b (w := w) (Nat.le_refl _) W.drew D _ _ (by have := HB1.out.size; omega) hKD rfl rfl
        exact h.trans h3)
      clear hI h1 h2 g1 g2 hpos hla ea ee hKD hI0 hlen
      gi_wp2
      gi_region
      gi_wp2
      have hK' : W.drew.heap[D]? = some (.deferred (some [])) := HDK.out
      refine ⟨by simp, .inl ⟨_, _, rfl, run_takeDeferred hK', ?_⟩⟩
      refine ⟨.tuple #[.int .i64 (av : Int), .int .i64 (ev : Int)], ?_, ?_, HGO.out⟩
      · simp [results, Try.f11, go_sem]
      · rw [HEA.out.1, HEA.out.2]
end Go.Proofs.Ytbahbhaoimabdaa
