/- check: a fault's words. -/
import Derived.Test.YthanclicnkjmiaaGreatDoorCwC
import Derived.Test.YthanclicnkjmiaaGreatDoorCpF
import Derived.Laws.MakeOwn
import Derived.Lib.Join
set_option linter.unusedVariables false
set_option linter.unusedSimpArgs false
namespace Go.Proofs.YthanclicnkjmiaaGreatDoor.Ch
open Go.RowKit Go.Proofs.YthanclicnkjmiaaGreatDoor Lx Ps

theorem Tryz.infoStr : (Tryz.prog.info? 9).map (fun i => (i.zero, i.size, i.bytes)) = some (some (.string ⟨#[]⟩), 1, 16) := by kernel_rfl
theorem Tryz.make_strs (k : Nat) (hk : k ≤ 65536) (w : World) : (Instr.makeSlice 103 (.int .i64 (k : Int)) (.int .i64 (k : Int))).run Tryz.prog w =
    .ok (.slice (some ⟨w.heap.size, 0, none⟩) k k) (w.alloc (.cells (madeCells (Value.string ⟨#[]⟩).cells k) 9)) := by
  obtain ⟨i, hi, hz, hs, hb⟩ := info_parts Tryz.infoStr
  have := run_make (P := Tryz.prog) w 103 9 i _ Tryz.underlying103 hi hz .i64 .i64 (k : Int) (k : Int) (by omega) (Int.le_refl _) (by rw [hb]; omega) (by omega)
  rw [hs] at this
  simpa using this
def txt (n : Nat) : Wd := Lib.itoa (n : Int)
/-- The numbers of a place, with dots between. -/
def dots (W : List Nat) : Wd := Lib.join (W.map txt) [46]
theorem txt_len {n : Nat} (h : n ≤ 65535) : (txt n).length ≤ 21 := itoa_le ⟨by omega, by omega⟩
theorem lens_le : ∀ (L : List Wd), (∀ l ∈ L, l.length ≤ 21) → Lib.lens L ≤ 21 * L.length := by
  intro L
  induction L with
  | nil => intro _; simp [Lib.lens]
  | cons x r ih =>
    intro h
    have h1 := h x (by simp)
    have h2 := ih (fun l hl => h l (by simp [hl]))
    simp [Lib.lens] at h2 ⊢
    omega
theorem dots_len {W : List Nat} (h : ∀ x ∈ W, x ≤ 65535) (hn : W.length ≤ 20) : (dots W).length ≤ 500 := by
  cases W with
  | nil => simp [dots, Lib.join_nil]
  | cons x r =>
    unfold dots
    rw [List.map_cons, Lib.join_length]
    have := lens_le (txt x :: r.map txt) (fun l hl => by
      rw [← List.map_cons, List.mem_map] at hl
      obtain ⟨y, hy, rfl⟩ := hl
      exact txt_len (h y hy))
    simp at this hn ⊢
    omega
theorem dots_one (x : Nat) : dots [x] = txt x := Lib.join_one _ _
theorem dots_snoc {W : List Nat} (h : W ≠ []) (x : Nat) : dots (W ++ [x]) = (dots W ++ [46]) ++ txt x := by
  cases W with
  | nil => exact absurd rfl h
  | cons y r =>
    unfold dots
    rw [List.cons_append, List.map_cons, List.map_cons, Lib.join_cons, Lib.join_cons]
    simp [Lib.joinTail]
def words (z : Int) (W : List Nat) : Wd := if W = [] then wErr ++ Lib.itoa z else (wErr ++ Lib.itoa z ++ wIn) ++ dots W
set_option maxRecDepth 100000 in
set_option maxHeartbeats 8000000 in
theorem bad_text (b : Nat) (z : Int) (W : List Nat) {w : World} {lo : Nat} {u : Value} (hz : inW z) (hB : Bx w b [.int .i64 z, u] 48) (hown : w.ownsRow lo 3 1 u W.length (intsC W)) (hW : ∀ x ∈ W, x ≤ 65535) (hn : W.length ≤ 20) (T : Tab w) :
    Calls Tryz.prog 21 #[.pointer (some ⟨b, 0, none⟩)] w fun e w' => e = .returned (.string (bs (words z W))) ∧ Only Nil w w' := by
  obtain ⟨ua, uc, rfl⟩ := own_slice_n hown
  have CC := Lib.hid (show ∀ w', Only Nil w w' → (w'.cell? ⟨b, 0, none⟩ = some (.int .i64 z) ∧ w'.cell? ⟨b, 1, none⟩ = some (.slice ua W.length uc)) from fun w' o => ⟨(hB.keep o).cell 0 rfl, (hB.keep o).cell 1 rfl⟩)
  have TT := Lib.hid T
  have HOW := Lib.hid hown
  have HWb := Lib.hid hW
  have ET := Lib.hid (fun w' (o : Only Nil w w') => errno_text z hz w' (T.keep o))
  have EL := Lib.hid (show (wErr ++ Lib.itoa z).length ≤ 40 from by have := itoa_le hz; simp [wErr]; omega)
  obtain ⟨y0, y1⟩ := CC.out w (Only.refl _ _)
  have WD := Lib.hid (show words z W = (if W = [] then wErr ++ Lib.itoa z else (wErr ++ Lib.itoa z ++ wIn) ++ dots W) from rfl)
  generalize wErr ++ Lib.itoa z = A at *
  clear T hz hB hown hW
  by_cases hE : W = []
  · subst hE
    rw [WD.out, if_pos rfl]
    go_enter Tryz.func21, Tryz.ntmps21
    go_wp2_with (go_at_call 20; refine (ET.out _ (Only.refl _ _)).mono ?_; rintro e w1 ⟨rfl, o1⟩; have O1 := Lib.hid o1; clear o1)
    go_ret
    exact ⟨rfl, O1.out⟩
  · rw [WD.out, if_neg hE]
    have n0 : 0 < W.length := List.length_pos_iff.2 hE
    have DL := Lib.hid (dots_len HWb.out hn)
    obtain ⟨b2, rfl, _⟩ := own_ints HOW.out 0 n0
    have NU := Lib.hid (show ∀ w' i, Only Nil w w' → i < W.length → w'.cell? ⟨b2, i, none⟩ = some (.int .i64 ((W.getD i 0 : Nat) : Int)) from fun w' i o hi => by
      obtain ⟨b3, h3, h4⟩ := own_ints (own_keep HOW.out o (fun _ _ h => h)) i hi
      obtain rfl : b2 = b3 := by simpa using h3
      exact h4)
    obtain ⟨n, hnn⟩ : ∃ n, n = W.length := ⟨_, rfl⟩
    rw [← hnn] at CC y1 n0 hn NU
    have HN := Lib.hid hnn
    have hz1 : ((n : Int) == 0) = false := by simp; omega
    have hz2 : (n == 0) = false := by simp; omega
    have hmk := Tryz.make_strs n (by omega)
    clear hnn hE HOW
    go_enter Tryz.func21, Tryz.ntmps21
    go_upto_region 4 with (fail)
    have hO1 := (Only.refl Nil w).alloc (.cells (madeCells #[Value.string ⟨#[]⟩] n) 9)
    have hB1 : Bx (w.alloc (.cells (madeCells #[Value.string ⟨#[]⟩] n) 9)) w.heap.size (madeCells #[Value.string ⟨#[]⟩] n).toList 9 := heap_new w _
    have hC1 : (madeCells #[Value.string ⟨#[]⟩] n).toList.length = n := by rw [Array.length_toList, size_madeCells]
    have hG : w.heap.size ≤ w.heap.size := Nat.le_refl _
    generalize (madeCells #[Value.string ⟨#[]⟩] n).toList = C0 at *
    generalize w.alloc (.cells (madeCells #[Value.string ⟨#[]⟩] n) 9) = w1 at *
    obtain ⟨g, hg⟩ : ∃ g, g = w.heap.size := ⟨_, rfl⟩
    rw [← hg] at hB1 ⊢
    have HG := Lib.hid hg
    have O1 := Lib.hid hO1
    have B1 := Lib.hid hB1
    have HC1 := Lib.hid hC1
    clear hO1 hB1 hC1 hG hg hmk
    obtain ⟨y0, y1⟩ := CC.out w1 O1.out
    go_upto_region 5 with (fail)
    clear y0 y1
    go_loopw [28] (fun s28 wr => ∃ (i : Nat) (C : List Value), i ≤ n ∧ s28 = .int .i64 (i : Int) ∧ Hid (C.length = n ∧ Bx wr g C 9 ∧ ∀ k, k < i → C[k]? = some (.string (bs (txt (W.getD k 0))))) ∧ Hid (Only Nil w wr))
      (fun s28 _ => n - (intOf s28).toNat)
    case atStart => exact ⟨0, C0, Nat.zero_le _, rfl, Lib.hid ⟨HC1.out, B1.out, fun k hk => absurd hk (Nat.not_lt_zero k)⟩, O1⟩
    case round =>
      obtain ⟨i, C, hi, rfl, hC, hO⟩ := hrel
      by_cases hin : i < n
      · have hin' : (i : Int) < (n : Int) := by omega
        have x0 := NU.out wr i hO.out hin
        have HX := Lib.hid (show W.getD i 0 ≤ 65535 from HWb.out _ (by
          have : i < W.length := by rw [← HN.out]; exact hin
          have e : W.getD i 0 = W[i] := by simp [List.getD, this]
          rw [e]; exact List.getElem_mem this))
        obtain ⟨x, hx⟩ : ∃ x, x = W.getD i 0 := ⟨_, rfl⟩
        rw [← hx] at x0 HX
        have HXe := Lib.hid hx
        have IT := Lib.hid (itoa_any (x : Int) ⟨by omega, by have := HX.out; omega⟩ wr (TT.out.keep hO.out))
        have hil : i < C.length := by have := hC.out.1; omega
        have hCi : C[i]? = some C[i] := List.getElem?_eq_getElem hil
        obtain ⟨ci, hci⟩ : ∃ ci, C[i]? = some ci := ⟨_, hCi⟩
        have HCi := Lib.hid hci
        clear hx hil hCi hci
        go_wp2_with (go_at_call 42; refine IT.out.mono ?_; rintro e w2 ⟨rfl, o2⟩; have O2 := Lib.hid (hO.out.trans o2); have B2 := Lib.hid (hC.out.2.1.keep o2); have k0 := B2.out.cell i HCi.out; have k1 := B2.out.free i; clear o2)
        have B3 := Lib.hid (B2.out.put i (.string (bs (Lib.itoa (x : Int)))))
        have O3 := Lib.hid (O2.out.then (((Only.refl (At g) w2).setCell (p := ⟨g, i, none⟩) rfl (.string (bs (Lib.itoa (x : Int)))))) (fun q hq hlt => by have : q = g := hq; have := HG.out; omega))
        go_roundw
        case rel =>
          refine ⟨i + 1, C.set i (.string (bs (Lib.itoa (x : Int)))), by omega, by go_num, Lib.hid ⟨by rw [List.length_set]; exact hC.out.1, B3.out, fun k hk => ?_⟩, O3⟩
          rw [List.getElem?_set]
          split
          · rename_i e
            subst e
            rw [if_pos (by have := hC.out.1; omega), HXe.out]; rfl
          · exact hC.out.2.2 k (by omega)
        case measure => simp [intOf]; omega
      · obtain rfl : i = n := by omega
        have hii : ¬ (i : Int) < (i : Int) := by omega
        obtain ⟨y0, y1⟩ := CC.out wr hO.out
        have hlt : g < wr.heap.size := lt_of_block hC.out.2.1
        have JN := Lib.hid (show ∀ w', Only Nil wr w' → Calls Tryz.prog 43 #[.slice (some ⟨g, 0, none⟩) i i, .string (bs [46])] w' fun e w'' => e = .returned (.string (bs (dots W))) ∧ Only Nil w' w'' from fun w' o => by
          have h := join_any (w := w') (W.map txt) [46] g i (fun j l hj => by
            rw [List.getElem?_map] at hj
            cases hw : W[j]? with
            | none => rw [hw] at hj; cases hj
            | some y =>
              rw [hw] at hj
              obtain rfl := Option.some.inj hj
              have hjl : j < W.length := by
                rcases Nat.lt_or_ge j W.length with h | h
                · exact h
                · rw [List.getElem?_eq_none h] at hw; cases hw
              have := hC.out.2.2 j (by rw [HN.out]; exact hjl)
              have e : W.getD j 0 = y := by simp [List.getD, hw]
              rw [e] at this
              exact (hC.out.2.1.keep o).cell j this) (Nat.lt_of_lt_of_le hlt o.size) (by rw [List.length_map, ← HN.out]; omega) (by rw [List.length_map, ← HN.out]; exact Nat.le_refl _) (by have := DL.out; unfold dots at this; omega)
          rw [List.length_map, ← HN.out] at h
          exact h)
        have EA := Lib.hid (ET.out wr hO.out)
        have a1 := fun w => str_add A wIn (by have := EL.out; simp [wIn]; omega) w
        have a2 := fun w => str_add (A ++ wIn) (dots W) (by have := EL.out; have := DL.out; simp [wIn]; omega) w
        have hlit : bs wIn = ⟨#[32, 105, 110, 32]⟩ := rfl
        have hdot : bs [46] = ⟨#[46]⟩ := rfl
        rw [hlit] at a1
        rw [hdot] at JN
        obtain ⟨Dt, hDt⟩ : ∃ Dt, Dt = dots W := ⟨_, rfl⟩
        obtain ⟨AI, hAI⟩ : ∃ AI, AI = A ++ wIn := ⟨_, rfl⟩
        rw [← hAI] at a1 a2
        rw [← hDt] at a2 JN
        have HS := Lib.hid (show AI ++ Dt = A ++ wIn ++ dots W from by rw [hAI, hDt])
        clear hlit hdot hlt hin hDt hAI
        go_wp2_with (first
          | (go_at_call 20; refine EA.out.mono ?_; rintro e w1 ⟨rfl, o1⟩; have O5 := Lib.hid o1; clear o1)
          | (go_at_call 43; refine (JN.out _ O5.out).mono ?_; rintro e w1 ⟨rfl, o1⟩; have O6 := Lib.hid (O5.out.trans o1); clear o1))
        go_ret
        exact ⟨by rw [← HS.out]; rfl, hO.out.trans O6.out⟩
end Go.Proofs.YthanclicnkjmiaaGreatDoor.Ch
