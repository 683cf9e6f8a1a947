/- StashSums: the walk. -/
import Derived.Test.YtdhfmocjhcgicaaStRoW
namespace Go.Proofs.Ytdhfmocjhcgicaa.St
open Go.RowKit Go.Proofs.Ytdhfmocjhcgicaa

theorem count_take (X : List Int) (id : Int) (k : Nat) (h : k < X.length) : (X.take (k + 1)).count id = (X.take k).count id + (if X.getD k 0 = id then 1 else 0) := by
  have e : X.take (k + 1) = X.take k ++ [X.getD k 0] := by
    rw [List.take_add_one]
    simp [List.getD_eq_getElem?_getD, h]
  rw [e, List.count_append, List.count_singleton]
  by_cases hx : X.getD k 0 = id
  · rw [if_pos hx, hx]; simp
  · have hz : (X.getD k 0 == id) = false := by rw [beq_eq_false_iff_ne]; exact hx
    rw [if_neg hx, hz]; rfl

set_option maxRecDepth 100000 in
set_option maxHeartbeats 16000000 in
theorem sums_all (r : Int) (a : Option Addr) (cap : Nat) (X : List Op) (id : Int) (w : World) (hX : OpsIn w a X) (hr : X.length * 16 ≤ 140737488351232) :
    Calls Try.prog 5 #[.int .i64 r, .slice a X.length cap, .int .u64 id] w fun e w' => e = .returned (.bool true) ∧ Below w.heap.size w w' := by
  have hX' := Lib.hid hX
  clear hX
  generalize hlen : X.length = len at hr ⊢
  have hlen' := Lib.hid hlen
  clear hlen
  have len8 : (len : Int) * 16 ≤ 140737488351232 := by omega
  clear hr
  have hrm := rm_eq r
  have ek : max 0 (min r 64) = (rm r : Int) := by omega
  have nw := Lib.hid (fun w1 (o : Only Nil w w1) => mine_new w w1 o r)
  have ct := Lib.hid count_take
  generalize rm r = k at *
  clear hrm
  go_enter Try.func5, Try.ntmps5
  go_wp2_with (first
    | (go_at_call 8; (with_reducible refine (alive_any _).mono ?_); rintro e w1 ⟨rfl, h⟩; have o1 := Lib.hid h; clear h)
    | (go_at_call 9; (with_reducible refine (nw.out _ o1.out).mono ?_); rintro e w2 ⟨rfl, h⟩; have k2 := Lib.hid h; clear h; generalize w1.heap.size = hb at *))
  go_loopw [8, 9, 10, 11, 12, 13, 14] (fun s8 s9 s10 _ _ _ _ wr => ∃ (i p q : Nat) (A F : List Int), i ≤ len ∧ i ≤ 300 ∧ s8 = .int .i64 (p : Int) ∧ s9 = .int .i64 (q : Int) ∧ s10 = .int .i64 (i : Int) ∧ p ≤ 300 ∧ q ≤ 300 ∧ Hid (p ≤ i ∧ p = q + A.count id + F.count id ∧ A.length + F.length ≤ i) ∧ Hid (Mine w wr hb k A F))
    (fun _ _ s10 _ _ _ _ _ => 1000 - (intOf s10).toNat)
  case atStart => exact ⟨0, 0, 0, [], [], Nat.zero_le _, Nat.zero_le _, rfl, rfl, rfl, by omega, by omega, Lib.hid ⟨Nat.le_refl _, rfl, Nat.le_refl _⟩, k2⟩
  case round =>
    obtain ⟨i, p, q, A, F, hil, hi1, rfl, rfl, rfl, hp3, hq3, hn, hm⟩ := hrel
    have p300 : (p : Int) ≤ 300 := by omega
    have q300 : (q : Int) ≤ 300 := by omega
    by_cases hin : i < len ∧ i < 300
    · have hli : (i : Int) < (len : Int) := by omega
      have hl3 : (i : Int) < 300 := by omega
      obtain ⟨bS, off, rfl, hb1, hb2⟩ := hX'.out i (by rw [hlen'.out]; exact hin.1)
      obtain ⟨x5, x6⟩ := hb2 i (by rw [hlen'.out]; exact hin.1)
      clear hb2
      generalize X.getD i default = o at x5 x6
      have cells := Lib.hid (fun (wx : World) (ox : Only Nil w wx) => show wx.cell? ⟨bS, off + i * 2, none⟩ = some (.int .u8 o.k) ∧ wx.cell? ⟨bS, off + i * 2 + 1, none⟩ = some (.int .u64 o.id) from
        ⟨(World.cell?_of_block (a := ⟨bS, off + i * 2, none⟩) (ox.block bS hb1 (fun z => z))).trans x5, (World.cell?_of_block (a := ⟨bS, off + i * 2 + 1, none⟩) (ox.block bS hb1 (fun z => z))).trans x6⟩)
      obtain ⟨y5, y6⟩ := cells.out _ hm.out.only
      have nums := Lib.hid hin
      clear x5 x6 hb1 hin hil hi1
      obtain ⟨K, hK⟩ := Int.eq_ofNat_of_zero_le o.k0.1
      have hK8 := o.k0.2
      rw [hK] at y5 hK8
      have mk1 : Int.tmod (K : Int) 4 = ((K % 4 : Nat) : Int) := rfl
      have mk2 : (K : Int) % 4 = ((K % 4 : Nat) : Int) := rfl
      have hk4 := Nat.mod_lt K (show 0 < 4 by decide)
      clear hK
      have fewF := Lib.hid (show F.length ≤ 50000 by have := hn.out; have := nums.out; omega)
      generalize K % 4 = kk at mk1 mk2 hk4
      obtain rfl | rfl | rfl | rfl : kk = 0 ∨ kk = 1 ∨ kk = 2 ∨ kk = 3 := by omega
      · have st := mine_stash hm.out o.id
        rcases er_cases k A o.id with ⟨h1, h2, h3⟩ | ⟨h1, h2, h3⟩
        · rw [h2, h3] at st
          have st' := Lib.hid st
          clear st h1 h2 h3
          go_wp2_with (go_at_call 12; go_loud ((with_reducible refine st'.out.mono ?_); rintro e w3 ⟨rfl, h⟩; have k3 := Lib.hid h; clear h))
          refine ⟨?rel, ?measure⟩
          case rel => exact ⟨i + 1, p, q, A, F, by have := nums.out; omega, by have := nums.out; omega, rfl, rfl, by go_num, hp3, hq3, Lib.hid (by have := hn.out; omega), k3⟩
          case measure => have := nums.out; simp [intOf]; omega
        · rw [h2, h3] at st
          have st' := Lib.hid st
          clear st h1 h2 h3
          by_cases hid : o.id = id
          · have hz : (o.id == id) = true := by rw [hid]; exact beq_self_eq_true id
            have hc := Lib.hid (show (A ++ [o.id]).count id = A.count id + 1 by rw [List.count_append, hid]; simp)
            have hp' := Lib.hid (show p + 1 ≤ 300 by have := hn.out; have := nums.out; omega)
            clear hid
            go_wp2_with (go_at_call 12; go_loud ((with_reducible refine st'.out.mono ?_); rintro e w3 ⟨rfl, h⟩; have k3 := Lib.hid h; clear h; obtain ⟨z5, z6⟩ := cells.out _ k3.out.only))
            refine ⟨?rel, ?measure⟩
            case rel => exact ⟨i + 1, p + 1, q, A ++ [o.id], F, by have := nums.out; omega, by have := nums.out; omega, by go_num, rfl, by go_num, hp'.out, hq3, Lib.hid (by have := hn.out; have := hc.out; rw [List.length_append, List.length_singleton]; omega), k3⟩
            case measure => have := nums.out; simp [intOf]; omega
          · have hz : (o.id == id) = false := by rw [beq_eq_false_iff_ne]; exact hid
            have hc := Lib.hid (show (A ++ [o.id]).count id = A.count id by rw [List.count_append]; simp [hid])
            clear hid
            go_wp2_with (go_at_call 12; go_loud ((with_reducible refine st'.out.mono ?_); rintro e w3 ⟨rfl, h⟩; have k3 := Lib.hid h; clear h; obtain ⟨z5, z6⟩ := cells.out _ k3.out.only))
            refine ⟨?rel, ?measure⟩
            case rel => exact ⟨i + 1, p, q, A ++ [o.id], F, by have := nums.out; omega, by have := nums.out; omega, rfl, rfl, by go_num, hp3, hq3, Lib.hid (by have := hn.out; have := hc.out; rw [List.length_append, List.length_singleton]; omega), k3⟩
            case measure => have := nums.out; simp [intOf]; omega
      · have un := Lib.hid (mine_unstash hm.out fewF.out)
        go_wp2_with (go_at_call 13; go_loud ((with_reducible refine un.out.mono ?_); rintro e w3 ⟨rfl, h⟩; have k3 := Lib.hid h; clear h))
        refine ⟨?rel, ?measure⟩
        case rel => exact ⟨i + 1, p, q, [], A ++ F, by have := nums.out; omega, by have := nums.out; omega, rfl, rfl, by go_num, hp3, hq3, Lib.hid (by have := hn.out; rw [List.count_append, List.length_append, List.count_nil, List.length_nil]; omega), k3⟩
        case measure => have := nums.out; simp [intOf]; omega
      · cases F with
        | nil =>
          have ne := Lib.hid (mine_none hm.out)
          go_wp2_with (go_at_call 15; go_loud ((with_reducible refine ne.out.mono ?_); rintro e w3 ⟨rfl, rfl⟩))
          refine ⟨?rel, ?measure⟩
          case rel => exact ⟨i + 1, p, q, A, [], by have := nums.out; omega, by have := nums.out; omega, rfl, rfl, by go_num, hp3, hq3, Lib.hid (by have := hn.out; omega), hm⟩
          case measure => have := nums.out; simp [intOf]; omega
        | cons x F =>
          have ne := Lib.hid (mine_some hm.out (by have := fewF.out; simp at this; omega))
          by_cases hid : x = id
          · have hz : (x == id) = true := by rw [hid]; exact beq_self_eq_true id
            have hc := Lib.hid (show (x :: F).count id = F.count id + 1 by rw [hid]; simp)
            have hq' := Lib.hid (show q + 1 ≤ 300 by have := hn.out; have := hc.out; have := nums.out; omega)
            clear hid
            go_wp2_with (go_at_call 15; go_loud ((with_reducible refine ne.out.mono ?_); rintro e w3 ⟨rfl, h⟩; have k3 := Lib.hid h; clear h))
            refine ⟨?rel, ?measure⟩
            case rel => exact ⟨i + 1, p, q + 1, A, F, by have := nums.out; omega, by have := nums.out; omega, rfl, by go_num, by go_num, hp3, hq'.out, Lib.hid (by have h1 := hn.out; rw [List.length_cons] at h1; have := hc.out; omega), k3⟩
            case measure => have := nums.out; simp [intOf]; omega
          · have hz : (x == id) = false := by rw [beq_eq_false_iff_ne]; exact hid
            have hc := Lib.hid (show (x :: F).count id = F.count id by simp [hid])
            clear hid
            go_wp2_with (go_at_call 15; go_loud ((with_reducible refine ne.out.mono ?_); rintro e w3 ⟨rfl, h⟩; have k3 := Lib.hid h; clear h))
            refine ⟨?rel, ?measure⟩
            case rel => exact ⟨i + 1, p, q, A, F, by have := nums.out; omega, by have := nums.out; omega, rfl, rfl, by go_num, hp3, hq3, Lib.hid (by have h1 := hn.out; rw [List.length_cons] at h1; have := hc.out; omega), k3⟩
            case measure => have := nums.out; simp [intOf]; omega
      · have cl := Lib.hid (mine_clear hm.out fewF.out)
        obtain ⟨Z, hZ⟩ : ∃ Z, Z = F ++ A := ⟨_, rfl⟩
        obtain ⟨m, hmm⟩ : ∃ m, m = F.length + A.length := ⟨_, rfl⟩
        rw [← hZ, ← hmm] at cl
        have hZl := Lib.hid (show Z.length = m by rw [hZ, hmm, List.length_append])
        have hZc := Lib.hid (show Z.count id = F.count id + A.count id by rw [hZ, List.count_append])
        have m300 := Lib.hid (show m ≤ 300 by have := hn.out; have := nums.out; omega)
        have hmi : (m : Int) ≤ 300 := by have := m300.out; omega
        have hZl2 := Lib.hid (show ∀ j, (Z.take j).count id ≤ Z.count id from fun j => List.Sublist.count_le _ (List.take_sublist _ _))
        have hcap := Lib.hid (show q + Z.count id ≤ 300 by have := hn.out; have := hZc.out; have := nums.out; omega)
        clear hZ hmm
        go_wp2_with (go_at_call 18; go_loud ((with_reducible refine cl.out.mono ?_); rintro e w3 ⟨a3, c3, rfl, k3⟩))
        go_loopw [9, 14] (fun s9 s14 wx => ∃ (j : Nat), j ≤ m ∧ s9 = .int .i64 ((q + (Z.take j).count id : Nat) : Int) ∧ s14 = .int .i64 (j : Int) ∧ w3 = wx)
          (fun _ s14 _ => 1000 - (intOf s14).toNat)
        case atStart => exact ⟨0, Nat.zero_le _, rfl, rfl, rfl⟩
        case round =>
          obtain ⟨j, hj, rfl, rfl, rfl⟩ := hrel
          have cj := hZl2.out j
          have cj2 := hcap.out
          have ctj := ct.out Z id j
          by_cases hjm : j < m
          · have hji : (j : Int) < (m : Int) := by omega
            obtain ⟨g, rfl, gl, cg⟩ := us_in (show w3.ownsRow _ 30 1 (.slice a3 m c3) m (us Z) by have := k3.out.1; unfold RowB at this; rw [hZl.out] at this; exact this) j hjm
            have ctj' := Lib.hid (ctj (by rw [hZl.out]; exact hjm))
            have cj' := Lib.hid (hZl2.out (j + 1))
            have hjs := Lib.hid hjm
            obtain ⟨t, ht⟩ : ∃ t, t = q + (Z.take j).count id := ⟨_, rfl⟩
            rw [← ht]
            have t300 : (t : Int) ≤ 300 := by omega
            have ht' := Lib.hid ht
            clear ht ctj cj cj2 hjm hj
            generalize Z.getD j 0 = x at *
            by_cases hid : x = id
            · have hz : (x == id) = true := by rw [hid]; exact beq_self_eq_true id
              have e1 := Lib.hid (show q + (Z.take (j + 1)).count id = t + 1 by have := ctj'.out; rw [if_pos hid] at this; have := ht'.out; omega)
              clear hid
              go_wp2
              refine ⟨?rel, ?measure⟩
              case rel => exact ⟨j + 1, hjs.out, by rw [e1.out]; go_num, by go_num, trivial⟩
              case measure => have := hjs.out; have := m300.out; simp [intOf]; omega
            · have hz : (x == id) = false := by rw [beq_eq_false_iff_ne]; exact hid
              have e1 := Lib.hid (show q + (Z.take (j + 1)).count id = t by have := ctj'.out; rw [if_neg hid] at this; have := ht'.out; omega)
              clear hid
              go_wp2
              refine ⟨?rel, ?measure⟩
              case rel => exact ⟨j + 1, hjs.out, by rw [e1.out], by go_num, trivial⟩
              case measure => have := hjs.out; have := m300.out; simp [intOf]; omega
          · obtain rfl : j = m := by omega
            have hk0 : ¬ (j : Int) < (j : Int) := by omega
            have et : Z.take j = Z := by rw [List.take_of_length_le]; have := hZl.out; omega
            rw [et]
            clear ctj cj cj2 hjm hj et
            go_wp2
            refine ⟨?rel, ?measure⟩
            case rel => exact ⟨i + 1, p, q + Z.count id, [], [], by have := nums.out; omega, by have := nums.out; omega, rfl, rfl, by go_num, hp3, hcap.out, Lib.hid (by have := hn.out; have := hZc.out; rw [List.count_nil, List.length_nil]; omega), Lib.hid k3.out.2⟩
            case measure => have := nums.out; simp [intOf]; omega
    · have hcase : i = len ∨ (i < len ∧ i = 300) := by omega
      have st := Lib.hid (mine_stashed hm.out)
      have fr := Lib.hid (fun (w3 : World) (h : Mine w w3 hb k A F) => mine_front h (by have := hn.out; omega))
      obtain ⟨Z, hZ⟩ : ∃ Z, Z = A ++ F := ⟨_, rfl⟩
      obtain ⟨m, hmm⟩ : ∃ m, m = Z.length := ⟨_, rfl⟩
      have hZl := Lib.hid (show Z.length = m by rw [hmm])
      have hZc := Lib.hid (show Z.count id = A.count id + F.count id by rw [hZ, List.count_append])
      have m300 := Lib.hid (show m ≤ 300 by rw [hmm, hZ, List.length_append]; have := hn.out; omega)
      have hmi : (m : Int) ≤ 300 := by have := m300.out; omega
      have hZl2 := Lib.hid (show ∀ j, (Z.take j).count id ≤ Z.count id from fun j => List.Sublist.count_le _ (List.take_sublist _ _))
      have hcap := Lib.hid (show q + Z.count id ≤ 300 by have := hn.out; have := hZc.out; omega)
      have ap := Lib.hid (fun (w3 w4 : World) (x y : Value) (hx : RowB wr.heap.size w3 x A) (o3 : Only Nil wr w3) (hy : RowB w3.heap.size w4 y F) (o4 : Only Nil w3 w4) => show ∃ a5 c5 w5, (Builtin.append_ #[26, 26] 26 #[x, y]).run Try.prog w4 = .ok (.slice a5 m c5) w5 ∧ Hid (Row w5 (.slice a5 m c5) Z ∧ Only Nil wr w5) from by
        have hx4 := hx.nil o4
        obtain ⟨v', w5, hr, ho, hg⟩ := rows hx4 hy.row.src (by have := hn.out; omega) (Nat.le_trans o3.size o4.size)
        rw [← hZ] at ho
        obtain ⟨a5, c5, rfl⟩ := ho.slice
        rw [← hmm] at ho hr
        exact ⟨a5, c5, w5, hr, Lib.hid ⟨ho.row, own_grown hx4 (o3.trans o4) (Nat.le_refl _) hg⟩⟩)
      clear hZ hmm hin hil hi1
      obtain rfl | ⟨hlt2, rfl⟩ := hcase
      · have hk : ¬ (i : Int) < (i : Int) := by omega
        go_wp2_with (first
          | (go_at_call 20; go_loud ((with_reducible refine st.out.mono ?_); rintro e w3 ⟨a3, c3, rfl, k3⟩))
          | (go_at_call 21; go_loud ((with_reducible refine (fr.out _ (hm.out.nil k3.out.2)).mono ?_); rintro e w4 ⟨a4, c4, rfl, h⟩; obtain ⟨a5, c5, w5, hrun, hk⟩ := ap.out _ _ _ _ k3.out.1 k3.out.2 h.out.1 h.out.2; have hrun' := Lib.hid hrun; clear h hrun))
          | (at_builtin; refine Lib.wpList_append_run _ rfl (.tmp 96) (.tmp 98) 26 26 rfl _ _ rfl rfl _ _ hrun'.out ?_))
        clear hrun' ap fr st k3
        have m5 := Lib.hid (hm.out.nil hk.out.2)
        clear hm
        go_loopw [9, 16] (fun s9 s16 wx => ∃ (j : Nat), j ≤ m ∧ s9 = .int .i64 ((q + (Z.take j).count id : Nat) : Int) ∧ s16 = .int .i64 (j : Int) ∧ w5 = wx)
          (fun _ s16 _ => 1000 - (intOf s16).toNat)
        case atStart => exact ⟨0, Nat.zero_le _, rfl, rfl, rfl⟩
        case round =>
          obtain ⟨j, hj, rfl, rfl, rfl⟩ := hrel
          have cj := hZl2.out j
          have cj2 := hcap.out
          have ctj := ct.out Z id j
          by_cases hjm : j < m
          · have hji : (j : Int) < (m : Int) := by omega
            obtain ⟨g, rfl, gl, cg⟩ := us_in (show w5.ownsRow _ 30 1 (.slice a5 m c5) m (us Z) by have := hk.out.1; unfold Row at this; rw [hZl.out] at this; exact this) j hjm
            have ctj' := Lib.hid (ctj (by rw [hZl.out]; exact hjm))
            have cj' := Lib.hid (hZl2.out (j + 1))
            have hjs := Lib.hid hjm
            obtain ⟨t, ht⟩ : ∃ t, t = q + (Z.take j).count id := ⟨_, rfl⟩
            rw [← ht]
            have t300 : (t : Int) ≤ 600 := by omega
            have ht' := Lib.hid ht
            clear ht ctj cj cj2 hjm hj
            generalize Z.getD j 0 = x at *
            by_cases hid : x = id
            · have hz : (x == id) = true := by rw [hid]; exact beq_self_eq_true id
              have e1 := Lib.hid (show q + (Z.take (j + 1)).count id = t + 1 by have := ctj'.out; rw [if_pos hid] at this; have := ht'.out; omega)
              clear hid
              go_wp2
              refine ⟨?rel, ?measure⟩
              case rel => exact ⟨j + 1, hjs.out, by rw [e1.out]; go_num, by go_num, trivial⟩
              case measure => have := hjs.out; have := m300.out; simp [intOf]; omega
            · have hz : (x == id) = false := by rw [beq_eq_false_iff_ne]; exact hid
              have e1 := Lib.hid (show q + (Z.take (j + 1)).count id = t by have := ctj'.out; rw [if_neg hid] at this; have := ht'.out; omega)
              clear hid
              go_wp2
              refine ⟨?rel, ?measure⟩
              case rel => exact ⟨j + 1, hjs.out, by rw [e1.out], by go_num, trivial⟩
              case measure => have := hjs.out; have := m300.out; simp [intOf]; omega
          · obtain rfl : j = m := by omega
            have hk0 : ¬ (j : Int) < (j : Int) := by omega
            have et : Z.take j = Z := by rw [List.take_of_length_le]; have := hZl.out; omega
            have epq : q + Z.count id = p := by have := hn.out; have := hZc.out; omega
            rw [et, epq]
            have st2 := Lib.hid (mine_stashed m5.out)
            have hAk : (A.length : Int) ≤ (k : Int) := by have := m5.out.few; omega
            have only5 := Lib.hid m5.out.only
            clear ctj cj cj2 hjm hj et epq
            generalize A.length = la at *
            go_wp2_with (go_at_call 20; go_loud ((with_reducible refine st2.out.mono ?_); rintro e w6 ⟨a6, c6, rfl, h⟩; have o6 := Lib.hid (only5.out.trans h.out.2); clear h))
            go_ret
            exact ⟨by simp, o6.out.below (Nat.le_refl _) (fun _ h => h.elim)⟩
      · have hk : (300 : Int) < (len : Int) := by omega
        have hk2 : ¬ (300 : Int) < 300 := by omega
        clear hlt2
        go_wp2_with (first
          | (go_at_call 20; go_loud ((with_reducible refine st.out.mono ?_); rintro e w3 ⟨a3, c3, rfl, k3⟩))
          | (go_at_call 21; go_loud ((with_reducible refine (fr.out _ (hm.out.nil k3.out.2)).mono ?_); rintro e w4 ⟨a4, c4, rfl, h⟩; obtain ⟨a5, c5, w5, hrun, hk⟩ := ap.out _ _ _ _ k3.out.1 k3.out.2 h.out.1 h.out.2; have hrun' := Lib.hid hrun; clear h hrun))
          | (at_builtin; refine Lib.wpList_append_run _ rfl (.tmp 96) (.tmp 98) 26 26 rfl _ _ rfl rfl _ _ hrun'.out ?_))
        clear hrun' ap fr st k3
        have m5 := Lib.hid (hm.out.nil hk.out.2)
        clear hm
        go_loopw [9, 16] (fun s9 s16 wx => ∃ (j : Nat), j ≤ m ∧ s9 = .int .i64 ((q + (Z.take j).count id : Nat) : Int) ∧ s16 = .int .i64 (j : Int) ∧ w5 = wx)
          (fun _ s16 _ => 1000 - (intOf s16).toNat)
        case atStart => exact ⟨0, Nat.zero_le _, rfl, rfl, rfl⟩
        case round =>
          obtain ⟨j, hj, rfl, rfl, rfl⟩ := hrel
          have cj := hZl2.out j
          have cj2 := hcap.out
          have ctj := ct.out Z id j
          by_cases hjm : j < m
          · have hji : (j : Int) < (m : Int) := by omega
            obtain ⟨g, rfl, gl, cg⟩ := us_in (show w5.ownsRow _ 30 1 (.slice a5 m c5) m (us Z) by have := hk.out.1; unfold Row at this; rw [hZl.out] at this; exact this) j hjm
            have ctj' := Lib.hid (ctj (by rw [hZl.out]; exact hjm))
            have cj' := Lib.hid (hZl2.out (j + 1))
            have hjs := Lib.hid hjm
            obtain ⟨t, ht⟩ : ∃ t, t = q + (Z.take j).count id := ⟨_, rfl⟩
            rw [← ht]
            have t300 : (t : Int) ≤ 600 := by omega
            have ht' := Lib.hid ht
            clear ht ctj cj cj2 hjm hj
            generalize Z.getD j 0 = x at *
            by_cases hid : x = id
            · have hz : (x == id) = true := by rw [hid]; exact beq_self_eq_true id
              have e1 := Lib.hid (show q + (Z.take (j + 1)).count id = t + 1 by have := ctj'.out; rw [if_pos hid] at this; have := ht'.out; omega)
              clear hid
              go_wp2
              refine ⟨?rel, ?measure⟩
              case rel => exact ⟨j + 1, hjs.out, by rw [e1.out]; go_num, by go_num, trivial⟩
              case measure => have := hjs.out; have := m300.out; simp [intOf]; omega
            · have hz : (x == id) = false := by rw [beq_eq_false_iff_ne]; exact hid
              have e1 := Lib.hid (show q + (Z.take (j + 1)).count id = t by have := ctj'.out; rw [if_neg hid] at this; have := ht'.out; omega)
              clear hid
              go_wp2
              refine ⟨?rel, ?measure⟩
              case rel => exact ⟨j + 1, hjs.out, by rw [e1.out], by go_num, trivial⟩
              case measure => have := hjs.out; have := m300.out; simp [intOf]; omega
          · obtain rfl : j = m := by omega
            have hk0 : ¬ (j : Int) < (j : Int) := by omega
            have et : Z.take j = Z := by rw [List.take_of_length_le]; have := hZl.out; omega
            have epq : q + Z.count id = p := by have := hn.out; have := hZc.out; omega
            rw [et, epq]
            have st2 := Lib.hid (mine_stashed m5.out)
            have hAk : (A.length : Int) ≤ (k : Int) := by have := m5.out.few; omega
            have only5 := Lib.hid m5.out.only
            clear ctj cj cj2 hjm hj et epq
            generalize A.length = la at *
            go_wp2_with (go_at_call 20; go_loud ((with_reducible refine st2.out.mono ?_); rintro e w6 ⟨a6, c6, rfl, h⟩; have o6 := Lib.hid (only5.out.trans h.out.2); clear h))
            go_ret
            exact ⟨by simp, o6.out.below (Nat.le_refl _) (fun _ h => h.elim)⟩
end Go.Proofs.Ytdhfmocjhcgicaa.St
