/- LedgerPlays: the walk. -/
import Derived.Test.YtlhdecjpjpnlhaaLgPlA
namespace Go.Proofs.Ytlhdecjpjpnlhaa.Lg
open Go.RowKit Go.Proofs.Ytlhdecjpjpnlhaa

theorem start_lw {w0 w : World} {hb : Nat} {S : Nat → Prop} (hA : At w S hb []) (hS : ∀ q, S q → w0.heap.size ≤ q) (hO : Only Nil w0 w) : Lw w0 w S hb (.slice none 0 0) [] :=
  ⟨hA, World.ownsRow_nil _ _ _ _, fun g hg => by simp [Value.ownBlock] at hg, hS, hO⟩

set_option maxRecDepth 100000 in
set_option maxHeartbeats 8000000 in
theorem plays_all (a : Option Addr) (cap : Nat) (X : List Op) (w : World) (hX : OpsIn w a X) (hr : X.length * 24 ≤ 140737488351232) :
    Calls Try.prog 3 #[.slice a X.length cap] w fun e w' => e = .returned (.bool true) ∧ Below w.heap.size w w' := by
  have hX' := Lib.hid hX
  clear hX
  generalize hlen : X.length = len at hr ⊢
  have hlen' := Lib.hid hlen
  clear hlen
  have len8 : (len : Int) * 24 ≤ 140737488351232 := by omega
  clear hr
  go_enter Try.func3, Try.ntmps3
  go_wp2_with (first
    | (go_at_call 7; (with_reducible refine (alive_any _).mono ?_); rintro e w1 ⟨rfl, h⟩; have o1 := Lib.hid h; clear h)
    | (go_at_call 8; (with_reducible refine (mine_new w _ o1.out).mono ?_); rintro e w2 ⟨rfl, h⟩; obtain ⟨S, hA, hS, hO⟩ := h; have k2 := Lib.hid (start_lw hA hS hO); clear hA hS hO; generalize w1.heap.size + 2 = hb at *))
  go_loopw [4, 5, 6, 7, 8] (fun s4 s5 _ _ _ wr => ∃ (i : Nat) (L : List Ms), i ≤ len ∧ i ≤ 400 ∧ s5 = .int .i64 (i : Int) ∧ Hid (L.length ≤ i) ∧ Hid (Lw w wr S hb s4 L))
    (fun _ s5 _ _ _ _ => 1000 - (intOf s5).toNat)
  case atStart => exact ⟨0, [], Nat.zero_le _, Nat.zero_le _, rfl, Lib.hid (Nat.le_refl _), k2⟩
  case round =>
    obtain ⟨i, L, hil, hi1, rfl, hn, hm⟩ := hrel
    by_cases hin : i < len ∧ i < 400
    · have hli : (i : Int) < (len : Int) := by omega
      have hl3 : (i : Int) < 400 := by omega
      obtain ⟨bS, off, rfl, hb1, hb2⟩ := hX'.out i (by rw [hlen'.out]; exact hin.1)
      obtain ⟨x5, x6, x7⟩ := hb2 i (by rw [hlen'.out]; exact hin.1)
      clear hb2
      generalize X.getD i default = o at x5 x6 x7
      have cells := Lib.hid (fun (wx : World) (ox : Only Nil w wx) => show wx.cell? ⟨bS, off + i * 3, none⟩ = some (.int .u8 o.k) ∧ wx.cell? ⟨bS, off + i * 3 + 1, none⟩ = some (.int .u64 o.id) ∧ wx.cell? ⟨bS, off + i * 3 + 2, none⟩ = some (.int .i64 o.wh) from
        ⟨(World.cell?_of_block (a := ⟨bS, off + i * 3, none⟩) (ox.block bS hb1 (fun z => z))).trans x5, (World.cell?_of_block (a := ⟨bS, off + i * 3 + 1, none⟩) (ox.block bS hb1 (fun z => z))).trans x6, (World.cell?_of_block (a := ⟨bS, off + i * 3 + 2, none⟩) (ox.block bS hb1 (fun z => z))).trans x7⟩)
      obtain ⟨y5, y6, y7⟩ := cells.out _ hm.out.only
      have hd := Lib.hid (does_any hm.out o (by have := hn.out; omega))
      have nums := Lib.hid (And.intro hin (Nat.le_trans (pL_le L o) (Nat.succ_le_succ hn.out)))
      clear x5 x6 x7 hb1 hin hil hi1 hn
      generalize pL L o = Ln at *
      go_upto_region 9 with (go_at_call 9; go_loud ((with_reducible refine hd.out.mono ?_); rintro e w3 ⟨v', rfl, hk⟩; obtain ⟨a3, c3, rfl⟩ := own_slice_n hk.out.row; obtain ⟨z5, z6, z7⟩ := cells.out _ hk.out.only))
      clear y5 y6 y7 hd cells hm
      have okk := o.ok
      have whq := Lib.hid (fun n => where_any (hk.out.at_.nil ((Only.refl Nil w3).drewN n)) o.id okk)
      have rwq := Lib.hid (fun n => rwhere_any ((own_rin hk.out.row).nil ((Only.refl Nil w3).drewN n)) c3 o.id (by have := nums.out; omega))
      have ln400 := Lib.hid (show Ln.length ≤ 401 by have := nums.out; omega)
      clear okk
      generalize whOf Ln o.id = y at *
      obtain ⟨p, hp⟩ : ∃ p, p = o.wh := ⟨_, rfl⟩
      rw [← hp] at z7
      have hrow := Lib.hid hk.out.row
      generalize hnl : Ln.length = n3 at *
      have hnl' := Lib.hid hnl
      clear hnl
      generalize o.id = x at *
      generalize o.k = kq at *
      clear hp
      go_wp2_with fail
      go_quiet ((first
        | (go_at_call 10; exact quiet_same (whq.out _))
        | (go_at_call 11; exact quiet_same (rwq.out _))))
      obtain ⟨W3, hW3⟩ : ∃ W3, W3 = w3.drewN nq := ⟨_, rfl⟩
      have oW3 : Only Nil w3 W3 := by rw [hW3]; exact (Only.refl Nil w3).drewN nq
      rw [← hW3]
      have k3 := Lib.hid (hk.out.nil oW3)
      have w7 : W3.cell? ⟨bS, off + i * 3 + 2, none⟩ = some (.int .i64 p) := by rw [hW3]; exact z7
      clear hW3 oW3 z5 z6 z7 whq rwq hk hrow
      have rin := Lib.hid (show RIn W3 a3 Ln by have := k3.out.row; unfold Row at this; rw [hnl'.out] at this; exact own_rin this)
      by_cases hpl : 1 ≤ p ∧ p ≤ 8
      · obtain ⟨q1, q8⟩ := hpl
        obtain ⟨k, rfl⟩ : ∃ k : Nat, p = (k : Int) := ⟨p.toNat, by omega⟩
        have cq := Lib.hid (count_any k3.out.at_ k (by omega) (by omega))
        have rc := rcount_any rin.out c3 (k : Int) (by have := ln400.out; have := hnl'.out; omega)
        rw [hnl'.out] at rc
        have rc' := Lib.hid rc
        have q2 : ¬ (k : Int) < 1 := by omega
        have q3 : ¬ 8 < (k : Int) := by omega
        clear rc
        generalize cnt Ln (k : Int) = ck at *
        go_wp2_with (first
          | (go_at_call 12; go_loud ((with_reducible refine cq.out.mono ?_); rintro e w' ⟨rfl, rfl⟩))
          | (go_at_call 13; go_loud ((with_reducible refine rc'.out.mono ?_); rintro e w' ⟨rfl, rfl⟩)))
        refine ⟨?rel, ?measure⟩
        case rel => exact ⟨i + 1, Ln, by have := nums.out; omega, by have := nums.out; omega, by go_num, Lib.hid (by have := nums.out; have := hnl'.out; omega), k3⟩
        case measure => have := nums.out; simp [intOf]; omega
      · have cn := Lib.hid (count_not (w := W3) (hb := hb) p ((place_not p).2 (by omega)))
        by_cases q1 : 1 ≤ p
        · have q8 : 8 < p := by omega
          have q9 : ¬ p ≤ 8 := by omega
          have q2 : ¬ p < 1 := by omega
          clear hpl
          go_wp2_with (go_at_call 12; go_loud ((with_reducible refine cn.out.mono ?_); rintro e w' ⟨rfl, rfl⟩))
          refine ⟨?rel, ?measure⟩
          case rel => exact ⟨i + 1, Ln, by have := nums.out; omega, by have := nums.out; omega, by go_num, Lib.hid (by have := nums.out; have := hnl'.out; omega), k3⟩
          case measure => have := nums.out; simp [intOf]; omega
        · have q2 : p < 1 := by omega
          clear hpl
          go_wp2_with (go_at_call 12; go_loud ((with_reducible refine cn.out.mono ?_); rintro e w' ⟨rfl, rfl⟩))
          refine ⟨?rel, ?measure⟩
          case rel => exact ⟨i + 1, Ln, by have := nums.out; omega, by have := nums.out; omega, by go_num, Lib.hid (by have := nums.out; have := hnl'.out; omega), k3⟩
          case measure => have := nums.out; simp [intOf]; omega
    · have hcase : i = len ∨ (i < len ∧ i = 400) := by omega
      have few := Lib.hid (show L.length ≤ 65000 by have := hn.out; omega)
      clear hin hil hi1 hn
      obtain ⟨a4, c4, hv⟩ := own_slice_n hm.out.row
      have hh := Lib.hid (held_any hm.out.at_ few.out)
      have hrow := Lib.hid hm.out.row
      have rh := Lib.hid (fun (w4 : World) (o4 : Only Nil wr w4) => show Calls Try.prog 16 #[.slice a4 L.length c4] w4 _ from rheld_any (own_rin (by have := hrow.out.nil o4; unfold Row at this; rw [hv] at this; exact this)) c4 few.out)
      have fH := Lib.hid (show (hl L).length ≤ 65000 from Nat.le_trans (cq_le _ _) few.out)
      have only := Lib.hid hm.out.only
      subst hv
      clear hm hrow
      generalize hl L = H at *
      generalize L.length = n4 at *
      have rs := Lib.hid (fun (w5 : World) (T : Nat) (a5 : Option Addr) (c5 : Nat) (hp : PIn w5 T H) (hr : w5.ownsRow 0 43 2 (.slice a5 H.length c5) H.length (pls H)) => rsame_any hp.rin (own_rin hr) H.length c5 fH.out)
      obtain rfl | ⟨hlt2, rfl⟩ := hcase
      · have hk : ¬ (i : Int) < (i : Int) := by omega
        go_wp2_with (first
          | (go_at_call 15; go_loud ((with_reducible refine hh.out.mono ?_); rintro e w4 ⟨rfl, p4_, o4_⟩; have p4 := Lib.hid p4_; have o4 := Lib.hid o4_; have rh4 := Lib.hid (rh.out _ o4_); clear p4_ o4_))
          | (go_at_call 16; go_loud ((with_reducible refine rh4.out.mono ?_); rintro e w5 ⟨a5, c5, rfl, hR⟩; have rs5 := Lib.hid (rs.out w5 _ a5 c5 (p4.out.nil hR.out.only) hR.out.row)))
          | (go_at_call 14; go_loud ((with_reducible refine rs5.out.mono ?_); rintro e w6 ⟨rfl, o6_⟩; have o6 := Lib.hid o6_; clear o6_)))
        go_ret
        exact ⟨rfl, (only.out.trans (o4.out.trans (hR.out.only.trans o6.out))).below (Nat.le_refl _) (fun _ h => h.elim)⟩
      · have hk : (400 : Int) < (len : Int) := by omega
        have hk2 : ¬ (400 : Int) < 400 := by omega
        clear hlt2
        go_wp2_with (first
          | (go_at_call 15; go_loud ((with_reducible refine hh.out.mono ?_); rintro e w4 ⟨rfl, p4_, o4_⟩; have p4 := Lib.hid p4_; have o4 := Lib.hid o4_; have rh4 := Lib.hid (rh.out _ o4_); clear p4_ o4_))
          | (go_at_call 16; go_loud ((with_reducible refine rh4.out.mono ?_); rintro e w5 ⟨a5, c5, rfl, hR⟩; have rs5 := Lib.hid (rs.out w5 _ a5 c5 (p4.out.nil hR.out.only) hR.out.row)))
          | (go_at_call 14; go_loud ((with_reducible refine rs5.out.mono ?_); rintro e w6 ⟨rfl, o6_⟩; have o6 := Lib.hid o6_; clear o6_)))
        go_ret
        exact ⟨rfl, (only.out.trans (o4.out.trans (hR.out.only.trans o6.out))).below (Nat.le_refl _) (fun _ h => h.elim)⟩
end Go.Proofs.Ytlhdecjpjpnlhaa.Lg
