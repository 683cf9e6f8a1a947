/- DeadPlays: the walk. -/
import Derived.Test.YtpkphmemeapdfaaDdPlA
import Derived.Deep.DeepCutAuto
import Derived.Deep.CutBlock
namespace Go.Proofs.Ytpkphmemeapdfaa.Dd
open Go.RowKit Go.Proofs.Ytpkphmemeapdfaa

set_option maxRecDepth 100000 in
set_option maxHeartbeats 8000000 in
theorem plays_all (r : Int) (a : Option Addr) (cap : Nat) (X : List Lr) (a2 : Option Addr) (cap2 : Nat) (Z : List Int) (w : World) (hX : LIn w a X) (hr : X.length * 24 ≤ 140737488351232) (hZ : RowK .i64 w a2 Z) (wfZ : ∀ n ∈ Z, (Lit.int .i64 n).wf = true) (hr2 : Z.length * 8 ≤ 140737488351232) :
    Calls Try.prog 3 #[.int .i64 r, .slice a X.length cap, .slice a2 Z.length cap2] w fun e w' => e = .returned (.bool true) ∧ Below w.heap.size w w' := by
  have hX' := Lib.hid hX
  have hZ' := Lib.hid hZ
  have wf' := Lib.hid (show ∀ j, j < Z.length → (Lit.int .i64 (Z.getD j 0)).wf = true from fun j hj => by
    have e : Z.getD j 0 = Z[j] := by simp [hj]
    rw [e]; exact wfZ _ (List.getElem_mem hj))
  clear hX hZ wfZ
  generalize hlen : X.length = len at hr ⊢
  have hlen' := Lib.hid hlen
  generalize hlen2 : Z.length = len2 at *
  have hlen2' := Lib.hid hlen2
  clear hlen hlen2
  have len8 : (len : Int) * 24 ≤ 140737488351232 := by omega
  have len28 : (len2 : Int) * 8 ≤ 140737488351232 := by omega
  have nw := Lib.hid (fun w1 (o : Only Nil w w1) => mine_new w w1 o r)
  clear hr hr2
  go_enter Try.func3, Try.ntmps3
  go_wp2_with (first
    | (go_at_call 7; (with_reducible refine (alive_any _).mono ?_); rintro e w1 ⟨rfl, h⟩; have o1 := Lib.hid h; clear h)
    | (go_at_call 8; (with_reducible refine (nw.out _ o1.out).mono ?_); rintro e w2 ⟨rfl, h⟩; have k2 := Lib.hid (Lw.start h); clear h; generalize w1.heap.size + 1 = hb at *))
  obtain ⟨k, hk0⟩ : ∃ k, k = kn r := ⟨_, rfl⟩
  rw [← hk0] at k2
  have hk0' := Lib.hid hk0
  clear hk0
  go_loopw [8, 9] (fun s8 s9 wr => ∃ (i n cl : Nat) (al : Option Addr) (L : List Lr), i ≤ len ∧ i ≤ 1000 ∧ n ≤ i ∧ s8 = .slice al n cl ∧ s9 = .int .i64 (i : Int) ∧ Hid (L.length = n) ∧ Hid (Lw w wr hb k L (.slice al n cl) L (fun _ => False)))
    (fun _ s9 _ => 1000 - (intOf s9).toNat)
  case atStart => exact ⟨0, 0, 0, none, [], Nat.zero_le _, Nat.zero_le _, Nat.le_refl _, rfl, rfl, Lib.hid rfl, k2⟩
  case round =>
    obtain ⟨i, n, cl, al, L, hil, hi1, hni, rfl, rfl, hn, hm⟩ := hrel
    by_cases hin : i < len ∧ i < 1000
    · have hli : (i : Int) < (len : Int) := by omega
      have hl3 : (i : Int) < 1000 := by omega
      obtain ⟨bS, off, rfl, hb1, hb2⟩ := hX'.out i (by rw [hlen'.out]; exact hin.1)
      obtain ⟨x5, x6, x7⟩ := hb2 i (by rw [hlen'.out]; exact hin.1)
      clear hb2
      generalize X.getD i default = t at x5 x6 x7
      have owr : Only Nil w wr := hm.out.only
      have y5 : wr.cell? ⟨bS, off + i * 3, none⟩ = some (.int .u64 t.id) := (World.cell?_of_block (a := ⟨bS, off + i * 3, none⟩) (owr.block bS hb1 (fun z => z))).trans x5
      have y6 : wr.cell? ⟨bS, off + i * 3 + 1, none⟩ = some (.int .i64 t.dst) := (World.cell?_of_block (a := ⟨bS, off + i * 3 + 1, none⟩) (owr.block bS hb1 (fun z => z))).trans x6
      have y7 : wr.cell? ⟨bS, off + i * 3 + 2, none⟩ = some (.int .i64 t.why) := (World.cell?_of_block (a := ⟨bS, off + i * 3 + 2, none⟩) (owr.block bS hb1 (fun z => z))).trans x7
      have nums := Lib.hid (And.intro hin hni)
      have pu := Lib.hid (lw_put (hm.out.box (.cells #[.int .u64 t.id, .int .i64 t.dst, .int .i64 t.why] 29)) t (by have := hn.out; omega))
      have bx := Lib.hid (heap_new wr (.cells #[.int .u64 t.id, .int .i64 t.dst, .int .i64 t.why] 29))
      clear x5 x6 x7 hb1 hin hil hi1 hni owr
      go_upto_if 43 with (first
        | (go_at_call 9; (with_reducible refine pu.out.mono ?_); rintro e w3 ⟨rfl, h, hkk⟩; have k3 := Lib.hid h; have bx3 := (hkk _ rfl).trans bx.out; have z0 : w3.cell? ⟨wr.heap.size, 0, none⟩ = some (.int .u64 t.id) := (by simp [World.cell?, bx3]); have z1 : w3.cell? ⟨wr.heap.size, 1, none⟩ = some (.int .i64 t.dst) := (by simp [World.cell?, bx3]); have z2 : w3.cell? ⟨wr.heap.size, 2, none⟩ = some (.int .i64 t.why) := (by simp [World.cell?, bx3]); have l3 := lt_of_block bx3; clear h hkk bx3)
        | (go_at_call 10; (with_reducible refine (right_any _ _).mono ?_); rintro e w' ⟨rfl, rfl⟩))
      generalize wr.heap.size = ba at *
      clear y5 y6 y7 pu bx hm
      go_cut [8] (fun s8 wx => ∃ (n' cl' : Nat) (al' : Option Addr) (L' : List Lr), n' ≤ i + 1 ∧ s8 = .slice al' n' cl' ∧ Hid (L'.length = n') ∧ Hid (Lw w wx hb k L' (.slice al' n' cl') L' (fun _ => False)))
      case first =>
        cases hrt : right t.why
        · have e1 : er t = 1 := by unfold er; rw [hrt]; rfl
          have e2 : nx L t = L := by unfold nx; rw [hrt]; rfl
          rw [e2] at k3
          have q1 : (er t == 1) = true := by rw [e1]; rfl
          have q2 : (er t != 1) = false := by rw [e1]; rfl
          clear e1 e2
          go_wp2_with fail
          go_meet
          exact ⟨n, cl, al, L, by have := nums.out; omega, rfl, hn, Lib.hid k3.out.free⟩
        · have e1 : er t = 0 := by unfold er; rw [hrt]; rfl
          have e2 : nx L t = L ++ [t] := by unfold nx; rw [hrt]; rfl
          rw [e2] at k3
          have q1 : (er t == 0) = true := by rw [e1]; rfl
          have q2 : (er t != 0) = false := by rw [e1]; rfl
          obtain ⟨a', c', w6, hr6, h6⟩ := lw_push k3.out hn.out (by have := nums.out; omega) t #[.int .u64 t.id, .int .i64 t.dst, .int .i64 t.why] rfl
          have hl6 := Lib.hid (show (L ++ [t]).length = n + 1 by rw [List.length_append, hn.out]; rfl)
          clear e1 e2 k3
          go_wp2_with (at_builtin; refine Lib.wpList_append_run _ rfl (.tmp 48) (.tmp 50) 22 22 rfl _ _ rfl rfl _ _ hr6.out ?_)
          go_meet
          exact ⟨n + 1, c', a', L ++ [t], by have := nums.out; omega, rfl, hl6, h6⟩
      case rest =>
        clear k3 z0 z1 z2 l3 hn
        obtain ⟨n', cl', al', L', hn', rfl, hl', T⟩ := hcut
        obtain ⟨W1, rfl⟩ : ∃ W1, W1 = wc := ⟨_, rfl⟩
        have hn2 := Lib.hid (show L'.length ≤ 1001 by have := hl'.out; have := nums.out; omega)
        have nums2 := Lib.hid hn'
        clear hn'
        go_upto_region 18 with (fail)
        go_cut [94] (fun s94 wx => s94 = .bool false ∧ Hid (Only Nil W1 wx))
        case first =>
          by_cases hz : i < len2
          · obtain ⟨b2, off2, rfl, hb3, hz2⟩ := hZ'.out i (by rw [hlen2'.out]; exact hz)
            have yz : W1.cell? ⟨b2, off2 + i, none⟩ = some (.int .i64 (Z.getD i 0)) := (World.cell?_of_block (a := ⟨b2, off2 + i, none⟩) (T.out.only.block b2 hb3 (fun z => z))).trans (hz2 i (by rw [hlen2'.out]; exact hz))
            have wx := wf'.out i hz
            have hzi : (i : Int) < (len2 : Int) := by omega
            clear hz2
            generalize Z.getD i 0 = x at yz wx
            have ct := Lib.hid (fun n => mine_count (T.out.nil ((Only.refl Nil W1).drewN n)).mine x wx)
            have rc := Lib.hid (fun n => lw_rcount (T.out.nil ((Only.refl Nil W1).drewN n)) hl'.out (by have := hl'.out; have := hn2.out; omega) x)
            have gd := Lib.hid T.out.mine.good
            clear wx hz
            cases hrx : right x
            · have rt := Lib.hid (fun w => by have := right_any x w; rw [hrx] at this; exact this)
              have e0 := cnt_none gd.out hrx
              rw [e0] at ct rc
              clear e0 hrx
              go_quiet (first | (go_at_call 11; exact quiet_same (ct.out _)) | (go_at_call 12; exact quiet_same (rc.out _)) | (go_at_call 10; exact quiet_same (rt.out _)))
              go_wp2_with fail
              go_meet
              exact ⟨rfl, Lib.hid ((Only.refl Nil W1).drewN nq)⟩
            · have rt := Lib.hid (fun w => by have := right_any x w; rw [hrx] at this; exact this)
              clear hrx
              have hb4 := cnt_le L' x
              generalize cnt L' x = cx at *
              have hcx := Lib.hid hb4
              clear hb4
              have hcc : ((cx : Int) != (cx : Int)) = false := by simp
              go_quiet (first | (go_at_call 11; exact quiet_same (ct.out _)) | (go_at_call 12; exact quiet_same (rc.out _)) | (go_at_call 10; exact quiet_same (rt.out _)))
              go_wp2_with fail
              go_meet
              exact ⟨rfl, Lib.hid ((Only.refl Nil W1).drewN nq)⟩
          · have hzi : decide ((i : Int) < (len2 : Int)) = false := decide_eq_false (by omega)
            have hzi2 : decide (i < len2) = false := decide_eq_false (by omega)
            go_quiet (fail)
            go_wp2_with fail
            go_meet
            exact ⟨rfl, Lib.hid ((Only.refl Nil W1).drewN nq)⟩
        case rest =>
          obtain ⟨rfl, hO⟩ := hcut
          have T2 := Lib.hid (T.out.nil hO.out)
          clear T hO
          obtain ⟨W2, rfl⟩ : ∃ W2, W2 = wc := ⟨_, rfl⟩
          have mk1 : Int.tmod (i : Int) 3 = ((i % 3 : Nat) : Int) := rfl
          have mk2 : (i : Int) % 3 = ((i % 3 : Nat) : Int) := rfl
          have rcn := Lib.hid (lw_recent T2.out)
          by_cases h3 : i % 3 = 0
          · rw [h3] at mk1 mk2
            clear h3
            go_wp2_with (first
              | (go_at_call 14; (with_reducible refine (rcn.out).mono ?_); rintro e w8 ⟨rfl, h8, h⟩; have T8 := Lib.hid h; have l8 := Lib.hid h8; have rr := Lib.hid (lw_rrecent h hl'.out (by have := hl'.out; have := hn2.out; omega) r hk0'.out); clear h8 h)
              | (go_at_call 15; (with_reducible refine rr.out.mono ?_); rintro e w9 ⟨a9, c9, rfl, h9, rfl⟩; have sm := Lib.hid (fun c1 => rsame_any (c1 := c1) (c2 := c9) l8.out h9 T8.out.kept_few); clear h9 rr)
              | (go_at_call 13; (with_reducible refine (sm.out _).mono ?_); rintro e w10 ⟨rfl, o10⟩; have T10 := Lib.hid (T8.out.nil o10); clear o10 sm))
            go_roundw
            case rel => exact ⟨i + 1, n', cl', al', L', by have := nums.out; omega, by have := nums.out; omega, nums2.out, rfl, by go_num, hl', T10⟩
            case measure => simp [intOf]; omega
          · have h3' : (((i % 3 : Nat) : Int) == 0) = false := by rw [beq_eq_false_iff_ne]; omega
            clear h3
            generalize i % 3 = i3 at *
            go_wp2_with fail
            go_roundw
            case rel => exact ⟨i + 1, n', cl', al', L', by have := nums.out; omega, by have := nums.out; omega, nums2.out, rfl, by go_num, hl', T2⟩
            case measure => simp [intOf]; omega
    · have tt := Lib.hid (mine_total hm.out.mine (by have := hn.out; omega))
      rw [hn.out] at tt
      have nums := Lib.hid (And.intro hi1 hni)
      have hn1 : (n : Int) ≤ 1000 := by omega
      have hcase : i = len ∨ (i < len ∧ i = 1000) := by omega
      clear hin hi1 hni hil
      obtain rfl | ⟨hlt, rfl⟩ := hcase
      · have hk : ¬ (i : Int) < (i : Int) := by omega
        go_wp2_with (first
          | (go_at_call 16; (with_reducible refine tt.out.mono ?_); rintro e w7 ⟨rfl, _, o7⟩; have T7 := Lib.hid (hm.out.nil o7); have rcn := Lib.hid (lw_recent T7.out); clear o7)
          | (go_at_call 14; (with_reducible refine (rcn.out).mono ?_); rintro e w8 ⟨rfl, h8, h⟩; have T8 := Lib.hid h; have l8 := Lib.hid h8; have rr := Lib.hid (lw_rrecent h hn.out (by have := nums.out; omega) r hk0'.out); clear h8 h)
          | (go_at_call 15; (with_reducible refine rr.out.mono ?_); rintro e w9 ⟨a9, c9, rfl, h9, rfl⟩; have sm := Lib.hid (fun c1 => rsame_any (c1 := c1) (c2 := c9) l8.out h9 T8.out.kept_few); clear h9 rr)
          | (go_at_call 13; (with_reducible refine (sm.out _).mono ?_); rintro e w10 ⟨rfl, o10⟩; have T10 := Lib.hid (T8.out.nil o10); clear o10 sm))
        go_ret
        exact ⟨rfl, T10.out.only.below (Nat.le_refl _) (fun _ h => h.elim)⟩
      · have hk : (1000 : Int) < (len : Int) := by omega
        go_wp2_with (first
          | (go_at_call 16; (with_reducible refine tt.out.mono ?_); rintro e w7 ⟨rfl, _, o7⟩; have T7 := Lib.hid (hm.out.nil o7); have rcn := Lib.hid (lw_recent T7.out); clear o7)
          | (go_at_call 14; (with_reducible refine (rcn.out).mono ?_); rintro e w8 ⟨rfl, h8, h⟩; have T8 := Lib.hid h; have l8 := Lib.hid h8; have rr := Lib.hid (lw_rrecent h hn.out (by have := nums.out; omega) r hk0'.out); clear h8 h)
          | (go_at_call 15; (with_reducible refine rr.out.mono ?_); rintro e w9 ⟨a9, c9, rfl, h9, rfl⟩; have sm := Lib.hid (fun c1 => rsame_any (c1 := c1) (c2 := c9) l8.out h9 T8.out.kept_few); clear h9 rr)
          | (go_at_call 13; (with_reducible refine (sm.out _).mono ?_); rintro e w10 ⟨rfl, o10⟩; have T10 := Lib.hid (T8.out.nil o10); clear o10 sm))
        go_ret
        exact ⟨rfl, T10.out.only.below (Nat.le_refl _) (fun _ h => h.elim)⟩
end Go.Proofs.Ytpkphmemeapdfaa.Dd
