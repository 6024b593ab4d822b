/-
  A row of bytes with changes made in it: the reference's Apply.
-/
import Derived.Test.YtjljklfahmjngaaPaApply
import Derived.Test.YtjljklfahmjngaaPaRef
namespace Go.Proofs.Ytjljklfahmjngaa
open Go Go.Proofs Go.RowKit Go.Shelf
attribute [local go_sem] Oper.semAt_some
theorem wrap64_nat (q : Nat) (h : q ≤ 1000000) : wrap64 (q : Int) = (q : Int) := by
  unfold wrap64
  omega
theorem lay_set (cb : List Int) (a : Int) (xs : List Int) (k q : Nat) (hk : k < xs.length) (hq : a + (k : Int) = q) (hn : q < cb.length) : (layL cb a (xs.take k)).set q (xs.getD k 0) = layL cb a (xs.take (k + 1)) := by
  refine list_ext (by rw [List.length_set, layL_length, layL_length]) (fun i hi => ?_)
  rw [List.length_set, layL_length] at hi
  rw [layL_get _ _ _ _ hi]
  have h1 : (xs.take (k + 1)).length = k + 1 := by rw [List.length_take]; omega
  have h0 : (xs.take k).length = k := by rw [List.length_take]; omega
  rw [h1]
  by_cases e : i = q
  · subst e
    rw [if_pos (by omega), List.getD_eq_getElem?_getD, List.getElem?_set_self (by rw [layL_length]; exact hn), show ((i : Int) - a).toNat = k by omega]
    simp only [List.getD_eq_getElem?_getD, List.getElem?_take]
    rw [if_pos (by omega)]
    rfl
  · rw [List.getD_eq_getElem?_getD, List.getElem?_set_ne (fun h => e h.symm), ← List.getD_eq_getElem?_getD, layL_get _ _ _ _ hi, h0]
    by_cases h : a ≤ i ∧ (i : Int) < a + (k : Int)
    · rw [if_pos h, if_pos (by omega)]
      simp only [List.getD_eq_getElem?_getD, List.getElem?_take]
      rw [if_pos (by omega), if_pos (by omega)]
    · rw [if_neg h, if_neg (by omega)]
theorem lay_keep (cb : List Int) (a : Int) (xs : List Int) (k : Nat) (hk : k < xs.length) (hn : ¬ (0 ≤ a + (k : Int) ∧ a + (k : Int) < cb.length)) : layL cb a (xs.take (k + 1)) = layL cb a (xs.take k) := by
  refine list_ext (by rw [layL_length, layL_length]) (fun i hi => ?_)
  rw [layL_length] at hi
  rw [layL_get _ _ _ _ hi, layL_get _ _ _ _ hi]
  have h1 : (xs.take (k + 1)).length = k + 1 := by rw [List.length_take]; omega
  have h0 : (xs.take k).length = k := by rw [List.length_take]; omega
  rw [h1, h0]
  by_cases h : a ≤ i ∧ (i : Int) < a + (k : Int)
  · rw [if_pos h, if_pos (by omega)]
    simp only [List.getD_eq_getElem?_getD, List.getElem?_take]
    rw [if_pos (by omega), if_pos (by omega)]
  · rw [if_neg h, if_neg (by omega)]
theorem owns_full_ge {W : World} {base g n cap e size : Nat} {xs : List Value} (h : W.ownsRow base e size (.slice (some ⟨g, 0, none⟩) n cap) n xs) : base ≤ g := (h.lt g rfl).1
set_option maxRecDepth 100000 in
set_option maxHeartbeats 8000000 in
theorem rapply_any (w : World) (xo : Option Addr) (n xc : Nat) (bs : List Int) (hx : BAt w xo n bs) (hxn : xo = none → n = 0 ∧ xc = 0) (hn : n ≤ 1000000) (ao : Option Addr) (m c : Nat) (L : List Pt) (hpc : PcAt w ao m L) (hpn : PnAt w L) (hm : m ≤ 1000000) (hpb : ∀ p ∈ L, p.n ≤ 1000000) (oo : Option Addr) (om oc : Nat) (outs : List Int) (hlo : LAt w oo om outs) (hom : om ≤ 1000000) :
    Calls Try.prog 12 #[.slice xo n xc, .slice ao m c, .slice oo om oc] w fun e w' => ∃ v, e = .returned v ∧ Hid (w'.ownsRow w.heap.size 5 1 v n (By (applyL bs (keptL L outs))) ∧ Below w.heap.size w w') := by
  have HPC := Hid.mk hpc
  have HPN := Hid.mk hpn
  have HLO := Hid.mk hlo
  have HPB := Hid.mk hpb
  have HM : Hid (n ≤ 1000000 ∧ m ≤ 1000000 ∧ om ≤ 1000000) := Hid.mk ⟨hn, hm, hom⟩
  have HBL := Hid.mk hx.1
  obtain ⟨v0, w1, hr0, hown0, hB0⟩ := append_nil_below w xo n xc bs hx (by omega) hxn
  obtain ⟨vo, vc, ev, -⟩ := owns_BAt hown0
  subst ev
  have HR0 := Hid.mk hr0
  have HOWN := Hid.mk hown0
  have HB0 := Hid.mk hB0
  clear hx hxn hn hpc hpn hm hpb hlo hom hr0 hown0 hB0
  go_enter Try.func12, Try.ntmps12
  go_wp2_with (at_builtin; refine wpList_append_known rfl (.const (.slice none 0 0)) (.tmp 12) 22 rfl _ _ _ _ rfl rfl HR0.out ?_)
  go_loopw [8, 9, 10, 11] (fun iv _ _ _ wr => ∃ i : Nat, iv = .int .i64 i ∧ Hid (i ≤ m ∧ Below w.heap.size w wr ∧ wr.ownsRow w.heap.size 5 1 (.slice vo n vc) n (By (applyL bs (keptL (L.take i) outs))))) (fun iv _ _ _ _ => m - (Go.RowKit.intOf iv).toNat)
  case atStart => exact ⟨0, rfl, Hid.mk ⟨Nat.zero_le _, HB0.out, HOWN.out⟩⟩
  case round =>
    obtain ⟨i, rfl, HI⟩ := hrel
    clear HOWN HB0 HR0
    by_cases hlt : i < m
    · have hlt' : (i : Int) < (m : Int) := by omega
      have u1 : IntKind.i64.wrap ((i : Int) + 1) = ((i + 1 : Nat) : Int) := by have := HM.out; rw [IntKind.wrap_i64]; omega
      have HIM := Hid.mk hlt
      obtain ⟨a, rfl, x0, x1, x2⟩ := (HPC.out.below HI.out.2.1).load i hlt
      have hiL : i < L.length := by have := HPC.out.1; omega
      have HIL := Hid.mk hiL
      have hpL : L.getD i noP ∈ L := getP_mem hiL
      obtain ⟨p, hp⟩ : ∃ p, p = L.getD i noP := ⟨_, rfl⟩
      rw [← hp] at x0 x1 x2 hpL
      have HP := Hid.mk hp
      have HPL := Hid.mk hpL
      have HIN1 := Hid.mk (in_any wr oo om oc outs (HLO.out.below HI.out.2.1) (by have := HM.out; omega) p.id)
      clear hlt hpL hp hiL
      by_cases hin : p.id ∈ outs
      · rw [decide_eq_true hin] at HIN1
        have HNX : Hid (i + 1 ≤ m ∧ Below w.heap.size w wr ∧ wr.ownsRow w.heap.size 5 1 (.slice vo n vc) n (By (applyL bs (keptL (L.take (i + 1)) outs)))) := Hid.mk ⟨HIM.out, HI.out.2.1, by rw [kept_no HIL.out (by rw [← HP.out]; exact hin)]; exact HI.out.2.2⟩
        clear HI hin x1 x2
        go_wp2_with (go_at_call 20; refine HIN1.out.mono ?_; rintro e w3 ⟨rfl, hw3⟩; have hw3' := hw3.symm; clear hw3; subst hw3'; clear HIN1)
        go_roundw
        case rel => exact ⟨i + 1, rfl, HNX⟩
        case measure => (have := HIM.out; simp [Go.RowKit.intOf]; omega)
      · rw [decide_eq_false hin] at HIN1
        obtain ⟨cb, hcb⟩ : ∃ cb, cb = applyL bs (keptL (L.take i) outs) := ⟨_, rfl⟩
        have HST : Hid (Below w.heap.size w wr ∧ wr.ownsRow w.heap.size 5 1 (.slice vo n vc) n (By cb)) := Hid.mk ⟨HI.out.2.1, by rw [hcb]; exact HI.out.2.2⟩
        have HCL : Hid (cb.length = n) := Hid.mk (by rw [hcb, applyL_length]; exact HBL.out)
        have HXL : Hid (p.xs.length = p.n) := Hid.mk (HPN.out p HPL.out).1.1
        have HPNN : Hid (p.n ≤ 1000000) := Hid.mk (HPB.out p HPL.out)
        have HNXT : Hid (applyL bs (keptL (L.take (i + 1)) outs) = layL cb p.at' p.xs) := Hid.mk (by rw [kept_yes HIL.out (by rw [← HP.out]; exact hin), applyL_snoc, ← HP.out, hcb])
        have HI64 := Hid.mk (HPN.out p HPL.out).2.2.2.1
        clear HI hin hcb
        go_wp2_with (go_at_call 20; refine HIN1.out.mono ?_; rintro e w3 ⟨rfl, hw3⟩; have hw3' := hw3.symm; clear hw3; subst hw3'; clear HIN1)
        clear x0 x1 x2
        go_loopw [10, 11] (fun kv _ wq => ∃ k : Nat, kv = .int .i64 k ∧ Hid (k ≤ p.n ∧ Below w.heap.size w wq ∧ True ∧ wq.ownsRow w.heap.size 5 1 (.slice vo n vc) n (By (layL cb p.at' (p.xs.take k))))) (fun kv _ _ => p.n - (Go.RowKit.intOf kv).toNat)
        case atStart =>
          refine ⟨0, rfl, Hid.mk ⟨Nat.zero_le _, HST.out.1, trivial, ?_⟩⟩
          have e : layL cb p.at' (p.xs.take 0) = cb := layL_none _ _ _ (fun j hj h => by simp at h; omega)
          rw [e]
          exact HST.out.2
        case round =>
          obtain ⟨k, rfl, HK⟩ := hrel
          clear HST
          obtain ⟨a', e', x0, x1, x2⟩ := (HPC.out.below HK.out.2.1).load i HIM.out
          cases e'
          rw [← HP.out] at x0 x1 x2
          by_cases hkn : k < p.n
          · have hkn' : (k : Int) < (p.n : Int) := by omega
            have u2 : IntKind.i64.wrap ((k : Int) + 1) = ((k + 1 : Nat) : Int) := by have := HPNN.out; rw [IntKind.wrap_i64]; omega
            obtain ⟨b, eb, hcb⟩ := ((HPN.out p HPL.out).1.below HK.out.2.1).at k hkn
            rw [eb] at x2
            have HPN' := HPNN
            have hI64 := HI64.out
            unfold I64 at hI64
            by_cases q1 : 0 ≤ p.at'
            · have q1' : ¬ p.at' < 0 := by omega
              by_cases q2 : p.at' < (n : Int)
              · have u4 : IntKind.i64.wrap ((n : Int) - p.at') = (n : Int) - p.at' := by have := HM.out; rw [IntKind.wrap_i64]; omega
                by_cases q3 : (k : Int) < (n : Int) - p.at'
                · obtain ⟨q, hq⟩ : ∃ q : Nat, p.at' + (k : Int) = q := ⟨(p.at' + (k : Int)).toNat, by omega⟩
                  have hqn : q < n := by omega
                  have hq6 : q ≤ 1000000 := by have := HM.out; omega
                  have u3 : IntKind.i64.wrap (p.at' + (k : Int)) = (q : Int) := by have := HM.out; have := HPNN.out; rw [IntKind.wrap_i64]; omega
                  have hv0 : vo ≠ none := fun e => by
                    rcases HK.out.2.2.2 with ⟨_, h⟩
                    rcases h with ⟨e1, e2⟩ | ⟨g, cap, cur, e1, _⟩
                    · omega
                    · rw [e] at e1; cases e1
                  obtain ⟨g, eg⟩ : ∃ g, vo = some ⟨g, 0, none⟩ := by
                    rcases HK.out.2.2.2.2 with ⟨e1, e2⟩ | ⟨g, cap, cur, e1, _⟩
                    · omega
                    · injection e1 with a1 a2 a3; exact ⟨g, a1⟩
                  subst eg
                  obtain ⟨d0, d1, -⟩ := owns_cell HK.out.2.2.2 q hqn
                  have hadd : (⟨g, 0, none⟩ : Addr).add q = ⟨g, q, none⟩ := by rw [add_at]; simp
                  have hqI : (q : Int) < (n : Int) := by omega
                  obtain ⟨gx, hgx⟩ : ∃ gx, gx = p.xs.getD k 0 := ⟨_, rfl⟩
                  rw [← hgx] at hcb
                  have HNX : Hid (k + 1 ≤ p.n ∧ Below w.heap.size w (wr.setCell ⟨g, q, none⟩ (.int .u8 gx)) ∧ True ∧ (wr.setCell ⟨g, q, none⟩ (.int .u8 gx)).ownsRow w.heap.size 5 1 (.slice (some ⟨g, 0, none⟩) n vc) n (By (layL cb p.at' (p.xs.take (k + 1))))) := Hid.mk ⟨hkn, HK.out.2.1.setCell (p := ⟨g, q, none⟩) (owns_full_ge HK.out.2.2.2) _, trivial, by
                    have h9 := owns_set HK.out.2.2.2 q gx
                    have e9 := lay_set cb p.at' p.xs k q (by have := HXL.out; omega) (by omega) (by have := HCL.out; omega)
                    rw [← hgx] at e9
                    rw [e9] at h9
                    exact h9⟩
                  have HKN := Hid.mk hkn
                  clear HK hgx hkn hv0 hqn hq hI64
                  try clear u5
                  try clear q5 q6
                  generalize (layL cb p.at' (p.xs.take k)).getD q 0 = old at d0
                  have u6 := wrap64_nat q hq6
                  clear hq6
                  go_wp2
                  go_roundw
                  case rel => exact ⟨k + 1, rfl, HNX⟩
                  case measure => (have := HKN.out; simp [Go.RowKit.intOf]; omega)
                · have HNX : Hid (k + 1 ≤ p.n ∧ Below w.heap.size w wr ∧ True ∧ wr.ownsRow w.heap.size 5 1 (.slice vo n vc) n (By (layL cb p.at' (p.xs.take (k + 1))))) := Hid.mk ⟨hkn, HK.out.2.1, trivial, by
                    rw [lay_keep cb p.at' p.xs k (by have := HXL.out; omega) (by have := HCL.out; have := HPNN.out; omega)]
                    exact HK.out.2.2.2⟩
                  have HKN := Hid.mk hkn
                  clear HK hkn
                  go_wp2
                  go_roundw
                  case rel => exact ⟨k + 1, rfl, HNX⟩
                  case measure => (have := HKN.out; simp [Go.RowKit.intOf]; omega)
              · have HNX : Hid (k + 1 ≤ p.n ∧ Below w.heap.size w wr ∧ True ∧ wr.ownsRow w.heap.size 5 1 (.slice vo n vc) n (By (layL cb p.at' (p.xs.take (k + 1))))) := Hid.mk ⟨hkn, HK.out.2.1, trivial, by
                  rw [lay_keep cb p.at' p.xs k (by have := HXL.out; omega) (by have := HCL.out; have := HPNN.out; omega)]
                  exact HK.out.2.2.2⟩
                have HKN := Hid.mk hkn
                clear HK hkn
                go_wp2
                go_roundw
                case rel => exact ⟨k + 1, rfl, HNX⟩
                case measure => (have := HKN.out; simp [Go.RowKit.intOf]; omega)
            · have q1' : p.at' < 0 := by omega
              by_cases q4 : -1099511627776 < p.at'
              · have u5 : IntKind.i64.wrap (p.at' + (k : Int)) = p.at' + (k : Int) := by have := HM.out; have := HPNN.out; rw [IntKind.wrap_i64]; omega
                by_cases q5 : 0 ≤ p.at' + (k : Int)
                · by_cases q6 : p.at' + (k : Int) < (n : Int)
                  · obtain ⟨q, hq⟩ : ∃ q : Nat, p.at' + (k : Int) = q := ⟨(p.at' + (k : Int)).toNat, by omega⟩
                    have hqn : q < n := by omega
                    have hq6 : q ≤ 1000000 := by have := HM.out; omega
                    have u3 : IntKind.i64.wrap (p.at' + (k : Int)) = (q : Int) := by have := HM.out; have := HPNN.out; rw [IntKind.wrap_i64]; omega
                    have hv0 : vo ≠ none := fun e => by
                      rcases HK.out.2.2.2 with ⟨_, h⟩
                      rcases h with ⟨e1, e2⟩ | ⟨g, cap, cur, e1, _⟩
                      · omega
                      · rw [e] at e1; cases e1
                    obtain ⟨g, eg⟩ : ∃ g, vo = some ⟨g, 0, none⟩ := by
                      rcases HK.out.2.2.2.2 with ⟨e1, e2⟩ | ⟨g, cap, cur, e1, _⟩
                      · omega
                      · injection e1 with a1 a2 a3; exact ⟨g, a1⟩
                    subst eg
                    obtain ⟨d0, d1, -⟩ := owns_cell HK.out.2.2.2 q hqn
                    have hadd : (⟨g, 0, none⟩ : Addr).add q = ⟨g, q, none⟩ := by rw [add_at]; simp
                    have hqI : (q : Int) < (n : Int) := by omega
                    obtain ⟨gx, hgx⟩ : ∃ gx, gx = p.xs.getD k 0 := ⟨_, rfl⟩
                    rw [← hgx] at hcb
                    have HNX : Hid (k + 1 ≤ p.n ∧ Below w.heap.size w (wr.setCell ⟨g, q, none⟩ (.int .u8 gx)) ∧ True ∧ (wr.setCell ⟨g, q, none⟩ (.int .u8 gx)).ownsRow w.heap.size 5 1 (.slice (some ⟨g, 0, none⟩) n vc) n (By (layL cb p.at' (p.xs.take (k + 1))))) := Hid.mk ⟨hkn, HK.out.2.1.setCell (p := ⟨g, q, none⟩) (owns_full_ge HK.out.2.2.2) _, trivial, by
                      have h9 := owns_set HK.out.2.2.2 q gx
                      have e9 := lay_set cb p.at' p.xs k q (by have := HXL.out; omega) (by omega) (by have := HCL.out; omega)
                      rw [← hgx] at e9
                      rw [e9] at h9
                      exact h9⟩
                    have HKN := Hid.mk hkn
                    clear HK hgx hkn hv0 hqn hq hI64
                    try clear u5
                    try clear q5 q6
                    generalize (layL cb p.at' (p.xs.take k)).getD q 0 = old at d0
                    have u6 := wrap64_nat q hq6
                    clear hq6
                    go_wp2
                    go_roundw
                    case rel => exact ⟨k + 1, rfl, HNX⟩
                    case measure => (have := HKN.out; simp [Go.RowKit.intOf]; omega)
                  · have HNX : Hid (k + 1 ≤ p.n ∧ Below w.heap.size w wr ∧ True ∧ wr.ownsRow w.heap.size 5 1 (.slice vo n vc) n (By (layL cb p.at' (p.xs.take (k + 1))))) := Hid.mk ⟨hkn, HK.out.2.1, trivial, by
                      rw [lay_keep cb p.at' p.xs k (by have := HXL.out; omega) (by have := HCL.out; have := HPNN.out; omega)]
                      exact HK.out.2.2.2⟩
                    have HKN := Hid.mk hkn
                    clear HK hkn
                    go_wp2
                    go_roundw
                    case rel => exact ⟨k + 1, rfl, HNX⟩
                    case measure => (have := HKN.out; simp [Go.RowKit.intOf]; omega)
                · have HNX : Hid (k + 1 ≤ p.n ∧ Below w.heap.size w wr ∧ True ∧ wr.ownsRow w.heap.size 5 1 (.slice vo n vc) n (By (layL cb p.at' (p.xs.take (k + 1))))) := Hid.mk ⟨hkn, HK.out.2.1, trivial, by
                    rw [lay_keep cb p.at' p.xs k (by have := HXL.out; omega) (by have := HCL.out; have := HPNN.out; omega)]
                    exact HK.out.2.2.2⟩
                  have HKN := Hid.mk hkn
                  clear HK hkn
                  go_wp2
                  go_roundw
                  case rel => exact ⟨k + 1, rfl, HNX⟩
                  case measure => (have := HKN.out; simp [Go.RowKit.intOf]; omega)
              · have HNX : Hid (k + 1 ≤ p.n ∧ Below w.heap.size w wr ∧ True ∧ wr.ownsRow w.heap.size 5 1 (.slice vo n vc) n (By (layL cb p.at' (p.xs.take (k + 1))))) := Hid.mk ⟨hkn, HK.out.2.1, trivial, by
                  rw [lay_keep cb p.at' p.xs k (by have := HXL.out; omega) (by have := HCL.out; have := HPNN.out; omega)]
                  exact HK.out.2.2.2⟩
                have HKN := Hid.mk hkn
                clear HK hkn
                go_wp2
                go_roundw
                case rel => exact ⟨k + 1, rfl, HNX⟩
                case measure => (have := HKN.out; simp [Go.RowKit.intOf]; omega)
          · have hkn' : ¬ (k : Int) < (p.n : Int) := by omega
            have HNX : Hid (i + 1 ≤ m ∧ Below w.heap.size w wr ∧ wr.ownsRow w.heap.size 5 1 (.slice vo n vc) n (By (applyL bs (keptL (L.take (i + 1)) outs)))) := Hid.mk ⟨HIM.out, HK.out.2.1, by
              have h9 := HK.out.2.2.2
              rw [List.take_of_length_le (by have := HXL.out; omega)] at h9
              rw [HNXT.out]
              exact h9⟩
            clear HK
            go_wp2
            go_roundw
            case rel => exact ⟨i + 1, rfl, HNX⟩
            case measure => (have := HIM.out; simp [Go.RowKit.intOf]; omega)
    · have hlt' : ¬ (i : Int) < (m : Int) := by omega
      have HF : Hid (wr.ownsRow w.heap.size 5 1 (.slice vo n vc) n (By (applyL bs (keptL L outs))) ∧ Below w.heap.size w wr) := Hid.mk ⟨by
        have h9 := HI.out.2.2
        rwa [List.take_of_length_le (by have := HPC.out.1; omega)] at h9, HI.out.2.1⟩
      clear HI
      go_wp2
      go_ret
      exact ⟨_, rfl, HF⟩
end Go.Proofs.Ytjljklfahmjngaa
