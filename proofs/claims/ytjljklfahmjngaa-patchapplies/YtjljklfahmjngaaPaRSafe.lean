/-
  May what is out be made behind the others: the reference's Safe.
-/
import Derived.Test.YtjljklfahmjngaaPaRef
import Derived.Test.YtjljklfahmjngaaPaRLap
namespace Go.Proofs.Ytjljklfahmjngaa
open Go Go.Proofs Go.RowKit Go.Shelf
attribute [local go_sem] Oper.semAt_some
theorem exec_index3 {ev : Operand → Value} {oi : Oper} {x i : Operand} {a : Addr} {m cap k : Nat} {W : World} (ho : oi.op = .indexAddr 23 x i) (hx : ev x = .slice (some a) m cap) (hi : ev i = .int .i64 k) (hk : k < m) : (execOp ev oi).run Try.prog W = .ok (.value (.pointer (some (a.add (k * 3))))) W := by
  have h1 : (k : Int) < (m : Int) := by omega
  unfold execOp
  rw [ho]
  simp only [hx, hi]
  go_simp
theorem exec_load31a {ev : Operand → Value} {oi : Oper} {x : Operand} {b : Addr} {i a : Int} {ao : Option Addr} {n c : Nat} {W : World} (ho : oi.op = .load 31 x) (hx : ev x = .pointer (some b)) (h0 : W.cell? b = some (.int .i64 i)) (h1 : W.cell? ⟨b.block, b.off + 1, none⟩ = some (.int .i64 a)) (h2 : W.cell? ⟨b.block, b.off + 2, none⟩ = some (.slice ao n c)) : (execOp ev oi).run Try.prog W = .ok (.value (paV i a (.slice ao n c))) W := by
  unfold execOp paV
  simp only [ho, hx]
  go_simp
/-- Do these two not clash? -/
def okP (outs : List Int) (p q : Pt) : Bool := decide (p.id ∈ outs) || !(decide (q.id ∈ outs) && lapB p.at' p.n q.at' q.n)
def rowOk (L : List Pt) (outs : List Int) (i : Nat) : Bool := (List.range i).all (fun k => okP outs (L.getD i noP) (L.getD k noP))
/-- May what is out be made behind the others? -/
def safeL (L : List Pt) (outs : List Int) : Bool := (List.range L.length).all (rowOk L outs)
theorem safe_no {L : List Pt} {outs : List Int} {i k : Nat} (hi : i < L.length) (hk : k < i) (h : okP outs (L.getD i noP) (L.getD k noP) = false) : safeL L outs = false := by
  unfold safeL
  rw [List.all_eq_false]
  refine ⟨i, List.mem_range.2 hi, ?_⟩
  have : rowOk L outs i = false := by
    unfold rowOk
    rw [List.all_eq_false]
    exact ⟨k, List.mem_range.2 hk, by rw [h]; decide⟩
  rw [this]
  decide
theorem all_snoc {f : Nat → Bool} {k : Nat} (h : (List.range k).all f = true) (hk : f k = true) : (List.range (k + 1)).all f = true := by
  rw [List.range_succ, List.all_append, h]
  simp [hk]
structure RsI (w : World) (ao : Option Addr) (m : Nat) (L : List Pt) (oo : Option Addr) (om : Nat) (outs : List Int) (W : World) : Prop where
  below : Below w.heap.size w W
  pc : PcAt W ao m L
  lo : LAt W oo om outs
set_option maxRecDepth 100000 in
set_option maxHeartbeats 8000000 in
theorem rsafe_any (w : World) (ao : Option Addr) (m c : Nat) (L : List Pt) (h1 : PcAt w ao m L) (h2 : PnAt w L) (hm : m ≤ 1000) (hb : ∀ p ∈ L, p.n ≤ 5000) (oo : Option Addr) (om oc : Nat) (outs : List Int) (h3 : LAt w oo om outs) (hom : om ≤ 1000) :
    Calls Try.prog 14 #[.slice ao m c, .slice oo om oc] w fun e w' => e = .returned (.bool (safeL L outs)) ∧ Below w.heap.size w w' := by
  have H2 := Hid.mk h2
  have HM : Hid (m ≤ 1000 ∧ om ≤ 1000) := Hid.mk ⟨hm, hom⟩
  have HB := Hid.mk hb
  have HL := Hid.mk h1.1
  have H0 : Hid (RsI w ao m L oo om outs w) := Hid.mk ⟨Below.refl _ _, h1, h3⟩
  have HGR : Hid (∀ A B, RsI w ao m L oo om outs A → Below A.heap.size A B → RsI w ao m L oo om outs B) := Hid.mk (fun A B hA hB => ⟨hA.below.trans (hB.mono hA.below.size), hA.pc.below hB, hA.lo.below hB⟩)
  have HIN : Hid (∀ W x, RsI w ao m L oo om outs W → Calls Try.prog 20 #[.slice oo om oc, .int .i64 x] W fun e w' => e = .returned (.bool (decide (x ∈ outs))) ∧ w' = W) := Hid.mk (fun W x h => in_any W oo om oc outs h.lo (by omega) x)
  clear h1 h2 hm hb h3 hom
  go_enter Try.func14, Try.ntmps14
  go_wp2
  go_loopw [5, 6, 7, 8, 9] (fun iv _ _ _ _ wr => ∃ i : Nat, iv = .int .i64 i ∧ Hid (i ≤ m ∧ RsI w ao m L oo om outs wr ∧ (List.range i).all (rowOk L outs) = true)) (fun iv _ _ _ _ _ => m - (Go.RowKit.intOf iv).toNat)
  case atStart => exact ⟨0, rfl, Hid.mk ⟨Nat.zero_le _, H0.out, rfl⟩⟩
  case round =>
    obtain ⟨i, rfl, HI⟩ := hrel
    clear H0
    by_cases hlt : i < m
    · have hlt' : (i : Int) < (m : Int) := by omega
      have u1 : IntKind.i64.wrap ((i : Int) + 1) = ((i + 1 : Nat) : Int) := by have := HM.out; rw [IntKind.wrap_i64]; omega
      have HIM := Hid.mk hlt
      obtain ⟨a, rfl, x0, x1, x2⟩ := HI.out.2.1.pc.load i hlt
      have hpL : L.getD i noP ∈ L := getP_mem (by have := HL.out; omega)
      obtain ⟨p, hp⟩ : ∃ p, p = L.getD i noP := ⟨_, rfl⟩
      rw [← hp] at x0 x1 x2 hpL
      have HP := Hid.mk hp
      have HPL := Hid.mk hpL
      have HIN1 := Hid.mk (HIN.out _ p.id HI.out.2.1)
      clear hlt hpL hp
      by_cases hin : p.id ∈ outs
      · rw [decide_eq_true hin] at HIN1
        have HOK : Hid ((List.range (i + 1)).all (rowOk L outs) = true) := Hid.mk (all_snoc HI.out.2.2 (by
          unfold rowOk
          rw [List.all_eq_true]
          intro k _
          unfold okP
          rw [← HP.out, decide_eq_true hin]
          rfl))
        have HWR := Hid.mk HI.out.2.1
        clear HI hin x1 x2
        go_wp2_with (go_at_call 20; refine HIN1.out.mono ?_; rintro e w3 ⟨rfl, hw3⟩; have hw3' := hw3.symm; clear hw3; subst hw3'; clear HIN1)
        go_loopw [7, 8, 9] (fun kv _ _ wq => kv = .int .i64 0 ∧ Hid (RsI w (some a) m L oo om outs wq)) (fun _ _ _ _ => 0)
        case atStart => exact ⟨rfl, HWR⟩
        case round =>
          obtain ⟨rfl, HW2⟩ := hrel
          by_cases hi0 : (0 : Int) < (i : Int)
          · go_wp2
            go_roundw
            case rel => exact ⟨i + 1, rfl, Hid.mk ⟨HIM.out, HW2.out, HOK.out⟩⟩
            case measure => (have := HIM.out; simp [Go.RowKit.intOf]; omega)
          · go_wp2
            go_roundw
            case rel => exact ⟨i + 1, rfl, Hid.mk ⟨HIM.out, HW2.out, HOK.out⟩⟩
            case measure => (have := HIM.out; simp [Go.RowKit.intOf]; omega)
      · rw [decide_eq_false hin] at HIN1
        have HWR := Hid.mk HI.out.2.1
        have HALL := Hid.mk HI.out.2.2
        have HNI := Hid.mk hin
        clear HI hin x1 x2
        go_wp2_with (go_at_call 20; refine HIN1.out.mono ?_; rintro e w3 ⟨rfl, hw3⟩; have hw3' := hw3.symm; clear hw3; subst hw3'; clear HIN1)
        clear x0
        go_loopw [7, 8, 9] (fun kv _ _ wq => ∃ k : Nat, kv = .int .i64 k ∧ Hid (k ≤ i ∧ RsI w (some a) m L oo om outs wq ∧ (List.range k).all (fun t => okP outs (L.getD i noP) (L.getD t noP)) = true)) (fun kv _ _ _ => i - (Go.RowKit.intOf kv).toNat)
        case atStart => exact ⟨0, rfl, Hid.mk ⟨Nat.zero_le _, HWR.out, rfl⟩⟩
        case round =>
          obtain ⟨k, rfl, HK⟩ := hrel
          clear HWR
          by_cases hki : k < i
          · have hki' : (k : Int) < (i : Int) := by omega
            have u2 : IntKind.i64.wrap ((k : Int) + 1) = ((k + 1 : Nat) : Int) := by have := HM.out; have := HIM.out; rw [IntKind.wrap_i64]; omega
            have HKM : Hid (k < m) := Hid.mk (by have := HIM.out; omega)
            obtain ⟨a', e', y0, y1, y2⟩ := HK.out.2.1.pc.load i HIM.out
            cases e'
            obtain ⟨a', e', z0, z1, z2⟩ := HK.out.2.1.pc.load k HKM.out
            cases e'
            have hqL : L.getD k noP ∈ L := getP_mem (by have := HL.out; have := HKM.out; omega)
            obtain ⟨q, hq⟩ : ∃ q, q = L.getD k noP := ⟨_, rfl⟩
            rw [← hq] at z0 z1 z2 hqL
            rw [← HP.out] at y0 y1 y2
            have HQ := Hid.mk hq
            have HIN2 := Hid.mk (HIN.out _ q.id HK.out.2.1)
            have HLP : Hid (∀ W, Calls Try.prog 16 #[paV p.id p.at' (.slice p.ao p.n p.c), paV q.id q.at' (.slice q.ao q.n q.c)] W fun e w' => e = .returned (.bool (lapB p.at' p.n q.at' q.n)) ∧ Below W.heap.size W w') := Hid.mk (fun W => rlap_any W p.id q.id p.at' q.at' p.ao q.ao p.n q.n p.c q.c (H2.out p HPL.out).2.2.2.1 (H2.out q hqL).2.2.2.1 (by have := HB.out p HPL.out; omega) (by have := HB.out q hqL; omega))
            have hbk : a.block < wr.heap.size := by
              obtain ⟨a', e', hlt', -⟩ := HK.out.2.1.pc.2 (by have := HKM.out; omega)
              cases e'
              exact hlt'
            have hH : ((wr.drew.cell? (a.add (i * 3)) = some (.int .i64 p.id) ∧ wr.drew.cell? ⟨(a.add (i * 3)).block, (a.add (i * 3)).off + 1, none⟩ = some (.int .i64 p.at') ∧ wr.drew.cell? ⟨(a.add (i * 3)).block, (a.add (i * 3)).off + 2, none⟩ = some (.slice p.ao p.n p.c)) ∧ wr.drew.cell? (a.add (k * 3)) = some (.int .i64 q.id) ∧ wr.drew.cell? ⟨(a.add (k * 3)).block, (a.add (k * 3)).off + 1, none⟩ = some (.int .i64 q.at') ∧ wr.drew.cell? ⟨(a.add (k * 3)).block, (a.add (k * 3)).off + 2, none⟩ = some (.slice q.ao q.n q.c)) := ⟨⟨y0, y1, y2⟩, z0, z1, z2⟩
            have HSK : Hid (∀ W', Below wr.drew.heap.size wr.drew W' → ((W'.cell? (a.add (i * 3)) = some (.int .i64 p.id) ∧ W'.cell? ⟨(a.add (i * 3)).block, (a.add (i * 3)).off + 1, none⟩ = some (.int .i64 p.at') ∧ W'.cell? ⟨(a.add (i * 3)).block, (a.add (i * 3)).off + 2, none⟩ = some (.slice p.ao p.n p.c)) ∧ W'.cell? (a.add (k * 3)) = some (.int .i64 q.id) ∧ W'.cell? ⟨(a.add (k * 3)).block, (a.add (k * 3)).off + 1, none⟩ = some (.int .i64 q.at') ∧ W'.cell? ⟨(a.add (k * 3)).block, (a.add (k * 3)).off + 2, none⟩ = some (.slice q.ao q.n q.c))) := Hid.mk (fun W' hB' => by
              have e9 : ∀ b : Addr, b.block = a.block → W'.cell? b = wr.drew.cell? b := fun b hb => hB'.cell (p := b) (by rw [hb]; exact hbk)
              rw [e9 _ (add_block _ _), e9 ⟨_, _, none⟩ (add_block a (i * 3)), e9 ⟨_, _, none⟩ (add_block a (i * 3)), e9 _ (add_block _ _), e9 ⟨_, _, none⟩ (add_block a (k * 3)), e9 ⟨_, _, none⟩ (add_block a (k * 3))]
              exact hH)
            have HNX : Hid (okP outs p q = true → ∀ W', Below wr.heap.size wr W' → k + 1 ≤ i ∧ RsI w (some a) m L oo om outs W' ∧ (List.range (k + 1)).all (fun t => okP outs (L.getD i noP) (L.getD t noP)) = true) := Hid.mk (fun ho W' hB' => ⟨hki, HGR.out _ _ HK.out.2.1 hB', all_snoc HK.out.2.2 (by rw [← HP.out, ← HQ.out]; exact ho)⟩)
            have HNO : Hid (okP outs p q = false → safeL L outs = false) := Hid.mk (fun ho => safe_no (by have := HL.out; have := HIM.out; omega) hki (by rw [← HP.out, ← HQ.out]; exact ho))
            have HBW := Hid.mk HK.out.2.1.below
            have HKI := Hid.mk hki
            clear HK hki hqL hq hbk
            by_cases hin2 : q.id ∈ outs
            · rw [decide_eq_true hin2] at HIN2
              cases hlp : lapB p.at' p.n q.at' q.n with
              | true =>
                have HFA := Hid.mk (HNO.out (by unfold okP; rw [decide_eq_false HNI.out, decide_eq_true hin2, hlp]; rfl))
                have HLPE := Hid.mk hlp
                clear hlp hin2 HNX HNO
                go_wp2_with (go_at_call 20; refine HIN2.out.mono ?_; rintro e w4 ⟨rfl, hw4⟩; have hw4' := hw4.symm; clear hw4; subst hw4'; clear HIN2)
                clear y0 y1 y2 z0 z1 z2
                refine wp_region_held_drew (S := fun W' => ((W'.cell? (a.add (i * 3)) = some (.int .i64 p.id) ∧ W'.cell? ⟨(a.add (i * 3)).block, (a.add (i * 3)).off + 1, none⟩ = some (.int .i64 p.at') ∧ W'.cell? ⟨(a.add (i * 3)).block, (a.add (i * 3)).off + 2, none⟩ = some (.slice p.ao p.n p.c)) ∧ W'.cell? (a.add (k * 3)) = some (.int .i64 q.id) ∧ W'.cell? ⟨(a.add (k * 3)).block, (a.add (k * 3)).off + 1, none⟩ = some (.int .i64 q.at') ∧ W'.cell? ⟨(a.add (k * 3)).block, (a.add (k * 3)).off + 2, none⟩ = some (.slice q.ao q.n q.c))) (by kernel_rfl) hH (fun hH => ?_)
                refine takeH 0 39 (.slice (some a) m c) rfl (by kernel_rfl) (by kernel_rfl) (by kernel_rfl) (by kernel_rfl) (fun _ _ _ h => h) (by kernel_rfl) (fun w hw => by kernel_rfl) hH ?_
                simp only [List.setIfInBounds_toArray, List.set_cons_zero, List.set_cons_succ]
                refine takeH 1 40 (.int .i64 i) rfl (by kernel_rfl) (by kernel_rfl) (by kernel_rfl) (by kernel_rfl) (fun _ _ _ h => h) (by kernel_rfl) (fun w hw => by kernel_rfl) hH ?_
                simp only [List.setIfInBounds_toArray, List.set_cons_zero, List.set_cons_succ]
                refine takeH 2 41 (.pointer (some (a.add (i * 3)))) rfl (by kernel_rfl) (by kernel_rfl) (by kernel_rfl) (by kernel_rfl) (fun _ _ _ h => h) (by kernel_rfl) (fun w hw => by exact exec_index3 (x := .tmp 39) (i := .tmp 40) (m := m) (cap := c) (by kernel_rfl) (by kernel_rfl) (by kernel_rfl) HIM.out) hH ?_
                simp only [List.setIfInBounds_toArray, List.set_cons_zero, List.set_cons_succ]
                refine takeH 3 42 (paV p.id p.at' (.slice p.ao p.n p.c)) rfl (by kernel_rfl) (by kernel_rfl) (by kernel_rfl) (by kernel_rfl) (fun _ _ _ h => h) (by kernel_rfl) (fun w hw => by exact exec_load31a (x := .tmp 41) (by kernel_rfl) (by kernel_rfl) hw.1.1 hw.1.2.1 hw.1.2.2) hH ?_
                simp only [List.setIfInBounds_toArray, List.set_cons_zero, List.set_cons_succ]
                refine takeH 4 43 (.slice (some a) m c) rfl (by kernel_rfl) (by kernel_rfl) (by kernel_rfl) (by kernel_rfl) (fun _ _ _ h => h) (by kernel_rfl) (fun w hw => by kernel_rfl) hH ?_
                simp only [List.setIfInBounds_toArray, List.set_cons_zero, List.set_cons_succ]
                refine takeH 5 44 (.int .i64 k) rfl (by kernel_rfl) (by kernel_rfl) (by kernel_rfl) (by kernel_rfl) (fun _ _ _ h => h) (by kernel_rfl) (fun w hw => by kernel_rfl) hH ?_
                simp only [List.setIfInBounds_toArray, List.set_cons_zero, List.set_cons_succ]
                refine takeH 6 45 (.pointer (some (a.add (k * 3)))) rfl (by kernel_rfl) (by kernel_rfl) (by kernel_rfl) (by kernel_rfl) (fun _ _ _ h => h) (by kernel_rfl) (fun w hw => by exact exec_index3 (x := .tmp 43) (i := .tmp 44) (m := m) (cap := c) (by kernel_rfl) (by kernel_rfl) (by kernel_rfl) HKM.out) hH ?_
                simp only [List.setIfInBounds_toArray, List.set_cons_zero, List.set_cons_succ]
                refine takeH 7 46 (paV q.id q.at' (.slice q.ao q.n q.c)) rfl (by kernel_rfl) (by kernel_rfl) (by kernel_rfl) (by kernel_rfl) (fun _ _ _ h => h) (by kernel_rfl) (fun w hw => by exact exec_load31a (x := .tmp 45) (by kernel_rfl) (by kernel_rfl) hw.2.1 hw.2.2.1 hw.2.2.2) hH ?_
                simp only [List.setIfInBounds_toArray, List.set_cons_zero, List.set_cons_succ]
                refine stepH_call 8 47 rfl (by kernel_rfl) (by kernel_rfl) (by kernel_rfl) 16 #[.tmp 42, .tmp 46] #[31, 31] (by kernel_rfl) (enters_of Try.func16 (by kernel_rfl) rfl) #[paV p.id p.at' (.slice p.ao p.n p.c), paV q.id q.at' (.slice q.ao q.n q.c)] (by kernel_rfl) (HLP.out _) ?_
                rintro e w5 ⟨rfl, hb5⟩
                have HS5 := Hid.mk (HSK.out _ hb5)
                have HB5 : Hid (Below wr.heap.size wr w5) := Hid.mk ⟨hb5.os, hb5.tape, hb5.output, hb5.size, hb5.block⟩
                clear hb5
                refine ⟨_, rfl, HS5.out, ?_⟩
                simp only [List.setIfInBounds_toArray, List.set_cons_zero, List.set_cons_succ]
                refine takeH 9 9 (.bool (lapB p.at' p.n q.at' q.n)) rfl (by kernel_rfl) (by kernel_rfl) (by kernel_rfl) (by kernel_rfl) (fun _ _ _ h => h) (by kernel_rfl) (fun w hw => by kernel_rfl) HS5.out ?_
                simp only [List.setIfInBounds_toArray, List.set_cons_zero, List.set_cons_succ]
                refine wpAnyH_done (by kernel_rfl) ?_ _
                rw [HLPE.out]
                clear hH HSK
                go_wp2
                go_ret
                rw [HFA.out]
                exact ⟨rfl, HBW.out.trans (HB5.out.mono HBW.out.size)⟩
              | false =>
                have HOK := Hid.mk (HNX.out (by unfold okP; rw [decide_eq_false HNI.out, decide_eq_true hin2, hlp]; rfl))
                have HLPE := Hid.mk hlp
                clear hlp hin2 HNX HNO
                go_wp2_with (go_at_call 20; refine HIN2.out.mono ?_; rintro e w4 ⟨rfl, hw4⟩; have hw4' := hw4.symm; clear hw4; subst hw4'; clear HIN2)
                clear y0 y1 y2 z0 z1 z2
                refine wp_region_held_drew (S := fun W' => ((W'.cell? (a.add (i * 3)) = some (.int .i64 p.id) ∧ W'.cell? ⟨(a.add (i * 3)).block, (a.add (i * 3)).off + 1, none⟩ = some (.int .i64 p.at') ∧ W'.cell? ⟨(a.add (i * 3)).block, (a.add (i * 3)).off + 2, none⟩ = some (.slice p.ao p.n p.c)) ∧ W'.cell? (a.add (k * 3)) = some (.int .i64 q.id) ∧ W'.cell? ⟨(a.add (k * 3)).block, (a.add (k * 3)).off + 1, none⟩ = some (.int .i64 q.at') ∧ W'.cell? ⟨(a.add (k * 3)).block, (a.add (k * 3)).off + 2, none⟩ = some (.slice q.ao q.n q.c))) (by kernel_rfl) hH (fun hH => ?_)
                refine takeH 0 39 (.slice (some a) m c) rfl (by kernel_rfl) (by kernel_rfl) (by kernel_rfl) (by kernel_rfl) (fun _ _ _ h => h) (by kernel_rfl) (fun w hw => by kernel_rfl) hH ?_
                simp only [List.setIfInBounds_toArray, List.set_cons_zero, List.set_cons_succ]
                refine takeH 1 40 (.int .i64 i) rfl (by kernel_rfl) (by kernel_rfl) (by kernel_rfl) (by kernel_rfl) (fun _ _ _ h => h) (by kernel_rfl) (fun w hw => by kernel_rfl) hH ?_
                simp only [List.setIfInBounds_toArray, List.set_cons_zero, List.set_cons_succ]
                refine takeH 2 41 (.pointer (some (a.add (i * 3)))) rfl (by kernel_rfl) (by kernel_rfl) (by kernel_rfl) (by kernel_rfl) (fun _ _ _ h => h) (by kernel_rfl) (fun w hw => by exact exec_index3 (x := .tmp 39) (i := .tmp 40) (m := m) (cap := c) (by kernel_rfl) (by kernel_rfl) (by kernel_rfl) HIM.out) hH ?_
                simp only [List.setIfInBounds_toArray, List.set_cons_zero, List.set_cons_succ]
                refine takeH 3 42 (paV p.id p.at' (.slice p.ao p.n p.c)) rfl (by kernel_rfl) (by kernel_rfl) (by kernel_rfl) (by kernel_rfl) (fun _ _ _ h => h) (by kernel_rfl) (fun w hw => by exact exec_load31a (x := .tmp 41) (by kernel_rfl) (by kernel_rfl) hw.1.1 hw.1.2.1 hw.1.2.2) hH ?_
                simp only [List.setIfInBounds_toArray, List.set_cons_zero, List.set_cons_succ]
                refine takeH 4 43 (.slice (some a) m c) rfl (by kernel_rfl) (by kernel_rfl) (by kernel_rfl) (by kernel_rfl) (fun _ _ _ h => h) (by kernel_rfl) (fun w hw => by kernel_rfl) hH ?_
                simp only [List.setIfInBounds_toArray, List.set_cons_zero, List.set_cons_succ]
                refine takeH 5 44 (.int .i64 k) rfl (by kernel_rfl) (by kernel_rfl) (by kernel_rfl) (by kernel_rfl) (fun _ _ _ h => h) (by kernel_rfl) (fun w hw => by kernel_rfl) hH ?_
                simp only [List.setIfInBounds_toArray, List.set_cons_zero, List.set_cons_succ]
                refine takeH 6 45 (.pointer (some (a.add (k * 3)))) rfl (by kernel_rfl) (by kernel_rfl) (by kernel_rfl) (by kernel_rfl) (fun _ _ _ h => h) (by kernel_rfl) (fun w hw => by exact exec_index3 (x := .tmp 43) (i := .tmp 44) (m := m) (cap := c) (by kernel_rfl) (by kernel_rfl) (by kernel_rfl) HKM.out) hH ?_
                simp only [List.setIfInBounds_toArray, List.set_cons_zero, List.set_cons_succ]
                refine takeH 7 46 (paV q.id q.at' (.slice q.ao q.n q.c)) rfl (by kernel_rfl) (by kernel_rfl) (by kernel_rfl) (by kernel_rfl) (fun _ _ _ h => h) (by kernel_rfl) (fun w hw => by exact exec_load31a (x := .tmp 45) (by kernel_rfl) (by kernel_rfl) hw.2.1 hw.2.2.1 hw.2.2.2) hH ?_
                simp only [List.setIfInBounds_toArray, List.set_cons_zero, List.set_cons_succ]
                refine stepH_call 8 47 rfl (by kernel_rfl) (by kernel_rfl) (by kernel_rfl) 16 #[.tmp 42, .tmp 46] #[31, 31] (by kernel_rfl) (enters_of Try.func16 (by kernel_rfl) rfl) #[paV p.id p.at' (.slice p.ao p.n p.c), paV q.id q.at' (.slice q.ao q.n q.c)] (by kernel_rfl) (HLP.out _) ?_
                rintro e w5 ⟨rfl, hb5⟩
                have HS5 := Hid.mk (HSK.out _ hb5)
                have HB5 : Hid (Below wr.heap.size wr w5) := Hid.mk ⟨hb5.os, hb5.tape, hb5.output, hb5.size, hb5.block⟩
                clear hb5
                refine ⟨_, rfl, HS5.out, ?_⟩
                simp only [List.setIfInBounds_toArray, List.set_cons_zero, List.set_cons_succ]
                refine takeH 9 9 (.bool (lapB p.at' p.n q.at' q.n)) rfl (by kernel_rfl) (by kernel_rfl) (by kernel_rfl) (by kernel_rfl) (fun _ _ _ h => h) (by kernel_rfl) (fun w hw => by kernel_rfl) HS5.out ?_
                simp only [List.setIfInBounds_toArray, List.set_cons_zero, List.set_cons_succ]
                refine wpAnyH_done (by kernel_rfl) ?_ _
                rw [HLPE.out]
                clear hH HSK
                go_wp2
                go_roundw
                case rel => exact ⟨k + 1, rfl, Hid.mk (HOK.out _ HB5.out)⟩
                case measure => (have := HKI.out; simp [Go.RowKit.intOf]; omega)
            · rw [decide_eq_false hin2] at HIN2
              have HOK := Hid.mk (HNX.out (by unfold okP; rw [decide_eq_false HNI.out, decide_eq_false hin2]; rfl))
              clear hin2 HNX HNO
              go_wp2_with (go_at_call 20; refine HIN2.out.mono ?_; rintro e w4 ⟨rfl, hw4⟩; have hw4' := hw4.symm; clear hw4; subst hw4'; clear HIN2)
              clear y0 y1 y2 z0 z1 z2
              refine wp_region_held_drew (S := fun W' => ((W'.cell? (a.add (i * 3)) = some (.int .i64 p.id) ∧ W'.cell? ⟨(a.add (i * 3)).block, (a.add (i * 3)).off + 1, none⟩ = some (.int .i64 p.at') ∧ W'.cell? ⟨(a.add (i * 3)).block, (a.add (i * 3)).off + 2, none⟩ = some (.slice p.ao p.n p.c)) ∧ W'.cell? (a.add (k * 3)) = some (.int .i64 q.id) ∧ W'.cell? ⟨(a.add (k * 3)).block, (a.add (k * 3)).off + 1, none⟩ = some (.int .i64 q.at') ∧ W'.cell? ⟨(a.add (k * 3)).block, (a.add (k * 3)).off + 2, none⟩ = some (.slice q.ao q.n q.c))) (by kernel_rfl) hH (fun hH => ?_)
              refine takeH 0 39 (.slice (some a) m c) rfl (by kernel_rfl) (by kernel_rfl) (by kernel_rfl) (by kernel_rfl) (fun _ _ _ h => h) (by kernel_rfl) (fun w hw => by kernel_rfl) hH ?_
              simp only [List.setIfInBounds_toArray, List.set_cons_zero, List.set_cons_succ]
              refine takeH 1 40 (.int .i64 i) rfl (by kernel_rfl) (by kernel_rfl) (by kernel_rfl) (by kernel_rfl) (fun _ _ _ h => h) (by kernel_rfl) (fun w hw => by kernel_rfl) hH ?_
              simp only [List.setIfInBounds_toArray, List.set_cons_zero, List.set_cons_succ]
              refine takeH 2 41 (.pointer (some (a.add (i * 3)))) rfl (by kernel_rfl) (by kernel_rfl) (by kernel_rfl) (by kernel_rfl) (fun _ _ _ h => h) (by kernel_rfl) (fun w hw => by exact exec_index3 (x := .tmp 39) (i := .tmp 40) (m := m) (cap := c) (by kernel_rfl) (by kernel_rfl) (by kernel_rfl) HIM.out) hH ?_
              simp only [List.setIfInBounds_toArray, List.set_cons_zero, List.set_cons_succ]
              refine takeH 3 42 (paV p.id p.at' (.slice p.ao p.n p.c)) rfl (by kernel_rfl) (by kernel_rfl) (by kernel_rfl) (by kernel_rfl) (fun _ _ _ h => h) (by kernel_rfl) (fun w hw => by exact exec_load31a (x := .tmp 41) (by kernel_rfl) (by kernel_rfl) hw.1.1 hw.1.2.1 hw.1.2.2) hH ?_
              simp only [List.setIfInBounds_toArray, List.set_cons_zero, List.set_cons_succ]
              refine takeH 4 43 (.slice (some a) m c) rfl (by kernel_rfl) (by kernel_rfl) (by kernel_rfl) (by kernel_rfl) (fun _ _ _ h => h) (by kernel_rfl) (fun w hw => by kernel_rfl) hH ?_
              simp only [List.setIfInBounds_toArray, List.set_cons_zero, List.set_cons_succ]
              refine takeH 5 44 (.int .i64 k) rfl (by kernel_rfl) (by kernel_rfl) (by kernel_rfl) (by kernel_rfl) (fun _ _ _ h => h) (by kernel_rfl) (fun w hw => by kernel_rfl) hH ?_
              simp only [List.setIfInBounds_toArray, List.set_cons_zero, List.set_cons_succ]
              refine takeH 6 45 (.pointer (some (a.add (k * 3)))) rfl (by kernel_rfl) (by kernel_rfl) (by kernel_rfl) (by kernel_rfl) (fun _ _ _ h => h) (by kernel_rfl) (fun w hw => by exact exec_index3 (x := .tmp 43) (i := .tmp 44) (m := m) (cap := c) (by kernel_rfl) (by kernel_rfl) (by kernel_rfl) HKM.out) hH ?_
              simp only [List.setIfInBounds_toArray, List.set_cons_zero, List.set_cons_succ]
              refine takeH 7 46 (paV q.id q.at' (.slice q.ao q.n q.c)) rfl (by kernel_rfl) (by kernel_rfl) (by kernel_rfl) (by kernel_rfl) (fun _ _ _ h => h) (by kernel_rfl) (fun w hw => by exact exec_load31a (x := .tmp 45) (by kernel_rfl) (by kernel_rfl) hw.2.1 hw.2.2.1 hw.2.2.2) hH ?_
              simp only [List.setIfInBounds_toArray, List.set_cons_zero, List.set_cons_succ]
              refine stepH_call 8 47 rfl (by kernel_rfl) (by kernel_rfl) (by kernel_rfl) 16 #[.tmp 42, .tmp 46] #[31, 31] (by kernel_rfl) (enters_of Try.func16 (by kernel_rfl) rfl) #[paV p.id p.at' (.slice p.ao p.n p.c), paV q.id q.at' (.slice q.ao q.n q.c)] (by kernel_rfl) (HLP.out _) ?_
              rintro e w5 ⟨rfl, hb5⟩
              have HS5 := Hid.mk (HSK.out _ hb5)
              have HB5 : Hid (Below wr.heap.size wr w5) := Hid.mk ⟨hb5.os, hb5.tape, hb5.output, hb5.size, hb5.block⟩
              clear hb5
              refine ⟨_, rfl, HS5.out, ?_⟩
              simp only [List.setIfInBounds_toArray, List.set_cons_zero, List.set_cons_succ]
              refine takeH 9 9 (.bool (lapB p.at' p.n q.at' q.n)) rfl (by kernel_rfl) (by kernel_rfl) (by kernel_rfl) (by kernel_rfl) (fun _ _ _ h => h) (by kernel_rfl) (fun w hw => by kernel_rfl) HS5.out ?_
              simp only [List.setIfInBounds_toArray, List.set_cons_zero, List.set_cons_succ]
              refine wpAnyH_done (by kernel_rfl) ?_ _
              clear hH HSK
              go_wp2
              go_roundw
              case rel => exact ⟨k + 1, rfl, Hid.mk (HOK.out _ HB5.out)⟩
              case measure => (have := HKI.out; simp [Go.RowKit.intOf]; omega)
          · have hki' : ¬ (k : Int) < (i : Int) := by omega
            have HNX : Hid (i + 1 ≤ m ∧ RsI w (some a) m L oo om outs wr ∧ (List.range (i + 1)).all (rowOk L outs) = true) := Hid.mk ⟨HIM.out, HK.out.2.1, all_snoc HALL.out (by
              have h9 := HK.out.2.2
              have : k = i := by have := HK.out.1; omega
              rw [this] at h9
              exact h9)⟩
            clear HK
            go_wp2
            go_roundw
            case rel => exact ⟨i + 1, rfl, HNX⟩
            case measure => (have := HIM.out; simp [Go.RowKit.intOf]; omega)
    · have hlt' : ¬ (i : Int) < (m : Int) := by omega
      have HF : Hid (safeL L outs = true ∧ Below w.heap.size w wr) := Hid.mk ⟨by
        have h9 := HI.out.2.2
        have : i = L.length := by have := HI.out.1; have := HL.out; omega
        unfold safeL
        rw [← this]
        exact h9, HI.out.2.1.below⟩
      clear HI
      go_wp2
      go_ret
      rw [HF.out.1]
      exact ⟨rfl, HF.out.2⟩
end Go.Proofs.Ytjljklfahmjngaa
