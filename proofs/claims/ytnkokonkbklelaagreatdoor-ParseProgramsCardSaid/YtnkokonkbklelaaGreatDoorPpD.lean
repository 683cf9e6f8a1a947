/- parse, the document's reader: Word, Verb, effect. -/
import Derived.Test.YtnkokonkbklelaaGreatDoorPpC
import Derived.Test.YtnkokonkbklelaaGreatDoorPpBm
import Derived.Test.YtnkokonkbklelaaGreatDoorPsM9
set_option linter.unusedSimpArgs false
set_option linter.unusedVariables false
namespace Go.Proofs.YtnkokonkbklelaaGreatDoor.Ps
open Go.RowKit Go.Proofs.YtnkokonkbklelaaGreatDoor Lx

theorem pick_out {ws : List Wd} {i : Int} (h : ¬ (0 ≤ i ∧ i < (ws.length : Int))) : pickW ws i = [] := if_neg h
theorem rword_any (z : Int) (w : World) : Calls Tryz.prog 28 #[.int .i64 z] w fun e w' => e = .returned (.string (bs (pickW dirs (z - 1)))) ∧ w = w' := by
  by_cases h1 : z = 1
  · subst h1
    go_enter Tryz.func28, Tryz.ntmps28
    go_wp2
    go_ret
    exact ⟨rfl, rfl⟩
  by_cases h2 : z = 2
  · subst h2
    go_enter Tryz.func28, Tryz.ntmps28
    go_wp2
    go_ret
    exact ⟨rfl, rfl⟩
  by_cases h3 : z = 3
  · subst h3
    go_enter Tryz.func28, Tryz.ntmps28
    go_wp2
    go_ret
    exact ⟨rfl, rfl⟩
  by_cases h4 : z = 4
  · subst h4
    go_enter Tryz.func28, Tryz.ntmps28
    go_wp2
    go_ret
    exact ⟨rfl, rfl⟩
  have e : pickW dirs (z - 1) = [] := pick_out (by have : (dirs.length : Int) = 4 := rfl; omega)
  have e1 : (z == 1) = false := by simpa using h1
  have e2 : (z == 2) = false := by simpa using h2
  have e3 : (z == 3) = false := by simpa using h3
  have e4 : (z == 4) = false := by simpa using h4
  have HE := Lib.hid e
  clear e h1 h2 h3 h4
  go_enter Tryz.func28, Tryz.ntmps28
  go_wp2
  go_ret
  exact ⟨by rw [HE.out]; rfl, rfl⟩
theorem rverb_any (z : Int) (w : World) : Calls Tryz.prog 78 #[.int .i64 z] w fun e w' => e = .returned (.tuple #[.string (bs (pickW effw (z - 1))), .string (bs (parts z))]) ∧ w = w' := by
  by_cases h1 : z = 1
  · subst h1
    go_enter Tryz.func78, Tryz.ntmps78
    go_wp2
    go_ret2
    exact ⟨rfl, rfl⟩
  by_cases h2 : z = 2
  · subst h2
    go_enter Tryz.func78, Tryz.ntmps78
    go_wp2
    go_ret2
    exact ⟨rfl, rfl⟩
  by_cases h3 : z = 3
  · subst h3
    go_enter Tryz.func78, Tryz.ntmps78
    go_wp2
    go_ret2
    exact ⟨rfl, rfl⟩
  by_cases h4 : z = 4
  · subst h4
    go_enter Tryz.func78, Tryz.ntmps78
    go_wp2
    go_ret2
    exact ⟨rfl, rfl⟩
  by_cases h5 : z = 5
  · subst h5
    go_enter Tryz.func78, Tryz.ntmps78
    go_wp2
    go_ret2
    exact ⟨rfl, rfl⟩
  by_cases h6 : z = 6
  · subst h6
    go_enter Tryz.func78, Tryz.ntmps78
    go_wp2
    go_ret2
    exact ⟨rfl, rfl⟩
  by_cases h7 : z = 7
  · subst h7
    go_enter Tryz.func78, Tryz.ntmps78
    go_wp2
    go_ret2
    exact ⟨rfl, rfl⟩
  by_cases h8 : z = 8
  · subst h8
    go_enter Tryz.func78, Tryz.ntmps78
    go_wp2
    go_ret2
    exact ⟨rfl, rfl⟩
  by_cases h9 : z = 9
  · subst h9
    go_enter Tryz.func78, Tryz.ntmps78
    go_wp2
    go_ret2
    exact ⟨rfl, rfl⟩
  by_cases h10 : z = 10
  · subst h10
    go_enter Tryz.func78, Tryz.ntmps78
    go_wp2
    go_ret2
    exact ⟨rfl, rfl⟩
  by_cases h11 : z = 11
  · subst h11
    go_enter Tryz.func78, Tryz.ntmps78
    go_wp2
    go_ret2
    exact ⟨rfl, rfl⟩
  by_cases h12 : z = 12
  · subst h12
    go_enter Tryz.func78, Tryz.ntmps78
    go_wp2
    go_ret2
    exact ⟨rfl, rfl⟩
  have e : pickW effw (z - 1) = [] ∧ parts z = [] := ⟨pick_out (by have : (effw.length : Int) = 12 := rfl; omega), by unfold parts; simp only [h1, h2, h3, h9, h12, h6, h7, h8, h10, if_false]⟩
  have e1 : (z == 1) = false := by simpa using h1
  have e2 : (z == 2) = false := by simpa using h2
  have e3 : (z == 3) = false := by simpa using h3
  have e4 : (z == 4) = false := by simpa using h4
  have e5 : (z == 5) = false := by simpa using h5
  have e6 : (z == 6) = false := by simpa using h6
  have e7 : (z == 7) = false := by simpa using h7
  have e8 : (z == 8) = false := by simpa using h8
  have e9 : (z == 9) = false := by simpa using h9
  have e10 : (z == 10) = false := by simpa using h10
  have e11 : (z == 11) = false := by simpa using h11
  have e12 : (z == 12) = false := by simpa using h12
  have HE := Lib.hid e
  clear e h1 h2 h3 h4 h5 h6 h7 h8 h9 h10 h11 h12
  go_enter Tryz.func78, Tryz.ntmps78
  go_wp2
  go_ret2
  exact ⟨by rw [HE.out.1, HE.out.2]; rfl, rfl⟩


/-- What is left to do, at st: what there was to do, at st0. -/
def Gw {α : Type} (P0 : Tks → PR α) (st0 : DSt) (P : Tks → PR α) (st : DSt) : Prop :=
  lift P0 st0 = lift P st ∧ ∀ a r, st0.1 = false → P0 st0.2 = .ok a r → st.1 = false ∧ P st.2 = .ok a r
theorem Gw.start {α : Type} (P : Tks → PR α) (st : DSt) : Gw P st P st := ⟨rfl, fun a r h1 h2 => ⟨h1, h2⟩⟩
theorem Gw.bind {α β : Type} {P0 : Tks → PR α} {st0 st : DSt} {p : Tks → PR β} {q : β → Tks → PR α} {P : Tks → PR α} {a : β} (h : Gw P0 st0 P st) (hP : st.1 = false → P st.2 = (p st.2).bind q) (hv : Val p st a) : Gw P0 st0 (q a) (lift p st) := by
  refine ⟨?_, fun x r h1 h2 => ?_⟩
  · rw [h.1, lift_congr (q := fun T => (p T).bind q) hP, lift_bind hv]
  · obtain ⟨hb, he⟩ := h.2 x r h1 h2
    rw [hP hb] at he
    obtain ⟨b, T⟩ := st
    simp only at hb he
    subst hb
    rw [lift_go]
    cases hp : p T with
    | bad r1 => rw [hp] at he; cases he
    | ok a' r1 =>
      have e := hv rfl a' r1 hp
      subst e
      rw [hp] at he
      exact ⟨rfl, he⟩
theorem Gw.ret {α : Type} {P0 P : Tks → PR α} {st0 st : DSt} {a : α} (h : Gw P0 st0 P st) (hP : P = fun T => .ok a T) : lift P0 st0 = st ∧ Val P0 st0 a := by
  subst hP
  refine ⟨by rw [h.1, lift_ret], fun h1 a' r h2 => ?_⟩
  obtain ⟨_, he⟩ := h.2 a' r h1 h2
  cases he
  rfl

/-- What an effect's reader reads, but for the sign behind it. -/
def pEffB (T : Tks) : PR Eff := (ch effw T).bind fun i r => pParts (parts ((i : Int) + 1)) (eff0 ((i : Int) + 1)) r
theorem pEff_eq (T : Tks) : pEff T = (pEffB T).bind fun e r => (pass w_semi r).bind fun _ r' => .ok e r' := by
  unfold pEff pEffB
  cases ch effw T <;> rfl
/-- The words of a state are no numbers. -/
def Nw (st : DSt) : Prop := st.1 = false → hk st.2 = 2 → ∀ s, NoDg s → s ≠ [] → hw st.2 ≠ s
theorem Tx.nw {w : World} {R : Nat} {X : Tks} {st : DSt} (h : Tx w R X st) : Nw st := by
  obtain ⟨b, T⟩ := st
  intro _ h2 s hs hne
  cases T with
  | nil => exact fun e => hne e.symm
  | cons x r => exact dg_ne h.dg (suf_mem h.suf) h2 hs
theorem nd_less : NoDg w_less := fun c r h => by cases h; decide
theorem nd_keep : NoDg w_keep := fun c r h => by cases h; decide
theorem nd_semi : NoDg w_semi := fun c r h => by cases h; decide
theorem pVal_num {T : Tks} (h : hk T = 2) : pVal T = (tk 2 T).bind fun t r => .ok (2, (t.n : Int)) r := if_pos h
theorem pVal_ch {T : Tks} (h : hk T ≠ 2) : pVal T = (ch vals T).bind fun i r => .ok ((i : Int), 0) r := if_neg h
theorem pVal_less {st : DSt} (nw : Nw st) (h : dW w_less st = true) : lift pVal st = (false, st.2.tail) ∧ Val pVal st (1, 0) := by
  obtain ⟨h1, h2⟩ := dW_yes h
  have hk2 : hk st.2 ≠ 2 := fun e => nw h1 e _ nd_less (by decide) h2
  obtain ⟨b, T⟩ := st
  simp only at h1 h2 hk2
  subst h1
  have e : pVal T = .ok (1, 0) T.tail := by
    rw [pVal_ch hk2]
    unfold ch
    rw [h2, if_pos (by decide)]
    rfl
  exact ⟨by rw [lift_go, e]; rfl, fun _ a' r h => by simp only at h; rw [e] at h; cases h; rfl⟩
theorem pVal_keep {st : DSt} (nw : Nw st) (h : dW w_keep st = true) : lift pVal st = (false, st.2.tail) ∧ Val pVal st (0, 0) := by
  obtain ⟨h1, h2⟩ := dW_yes h
  have hk2 : hk st.2 ≠ 2 := fun e => nw h1 e _ nd_keep (by decide) h2
  obtain ⟨b, T⟩ := st
  simp only at h1 h2 hk2
  subst h1
  have e : pVal T = .ok (0, 0) T.tail := by
    rw [pVal_ch hk2]
    unfold ch
    rw [h2, if_pos (by decide)]
    rfl
  exact ⟨by rw [lift_go, e]; rfl, fun _ a' r h => by simp only at h; rw [e] at h; cases h; rfl⟩
theorem pVal_else {st : DSt} (h : dW w_less st = false) (h2 : dW w_keep st = false) : lift pVal st = lift (tk 2) st ∧ Val pVal st (2, ((dT 2 st).n : Int)) := by
  obtain ⟨b, T⟩ := st
  cases b with
  | true => exact ⟨rfl, Val.of_bad rfl _⟩
  | false =>
    have n1 := dW_no h rfl
    have n2 := dW_no h2 rfl
    simp only at n1 n2
    by_cases hk2 : hk T = 2
    · have e := pVal_num hk2
      refine ⟨?_, ?_⟩
      · rw [lift_go, lift_go, e]
        cases tk 2 T <;> rfl
      · refine Val.congr (q := fun T => (tk 2 T).bind fun t r => .ok (2, (t.n : Int)) r) (fun _ => e) ?_
        exact Val.bind (dT_val 2 (false, T)) (Val.ret _ _)
    · have e : pVal T = .bad T := by
        rw [pVal_ch hk2]
        unfold ch
        rw [if_neg (by unfold vals; simp; exact ⟨n2, n1⟩)]
        rfl
      refine ⟨?_, fun _ a' r h => by simp only at h; rw [e] at h; cases h⟩
      rw [lift_go, lift_go, e, tk_bad hk2]
      rfl
def noDgB : Wd → Bool
  | [] => true
  | c :: _ => !isDi c
theorem noDg_of {s : Wd} (h : noDgB s = true) : NoDg s := by
  rintro c r rfl
  simpa [noDgB] using h
theorem effw_all : effw.all (fun s => noDgB s && !s.isEmpty) = true := by decide
theorem effw_nd {i : Nat} (hi : i < 12) : NoDg (effw.getD i []) ∧ effw.getD i [] ≠ [] := by
  have h := List.all_eq_true.1 effw_all (effw.getD i []) (by
    have : i < effw.length := hi
    rw [List.getD_eq_getElem?_getD, List.getElem?_eq_getElem this]
    exact List.getElem_mem this)
  rw [Bool.and_eq_true, Bool.not_eq_true', List.isEmpty_eq_false_iff] at h
  exact ⟨noDg_of h.1, h.2⟩
theorem pick_at {i : Nat} (hi : i < 12) : pickW effw ((i : Int) + 1 - 1) = effw.getD i [] := by
  unfold pickW
  rw [if_pos ⟨by omega, by show (i : Int) + 1 - 1 < 12; omega⟩]
  congr 1
  omega
theorem eff_hit {st : DSt} {i : Nat} (hi : i < 12) (h : dW (effw.getD i []) st = true) (hl : st.1 = true ∨ i ≤ effw.idxOf (hw st.2)) : st.1 = false ∧ pEffB st.2 = pParts (parts ((i : Int) + 1)) (eff0 ((i : Int) + 1)) st.2.tail := by
  obtain ⟨h1, h2⟩ := dW_yes h
  refine ⟨h1, ?_⟩
  have hle : i ≤ effw.idxOf (hw st.2) := hl.resolve_left (by rw [h1]; decide)
  have hge := idx_le effw (hw st.2) i hi h2.symm
  have e : effw.idxOf (hw st.2) = i := by omega
  have hm : hw st.2 ∈ effw := by
    have : i < effw.length := hi
    rw [h2, List.getD_eq_getElem?_getD, List.getElem?_eq_getElem this]
    exact List.getElem_mem this
  unfold pEffB ch
  rw [if_pos hm, e]
  rfl
theorem eff_miss {st : DSt} {i : Nat} (hi : i < 12) (h : dW (effw.getD i []) st = false) (hl : st.1 = true ∨ i ≤ effw.idxOf (hw st.2)) : st.1 = true ∨ i + 1 ≤ effw.idxOf (hw st.2) := by
  cases hb : st.1 with
  | true => exact .inl rfl
  | false =>
    right
    refine idx_ne effw (hw st.2) i hi (hl.resolve_left (by rw [hb]; decide)) ?_
    exact fun e => dW_no h hb e.symm
theorem eff_none {st : DSt} (hl : st.1 = true ∨ 12 ≤ effw.idxOf (hw st.2)) : lift pEffB st = (true, st.2) ∧ ∀ e, Val pEffB st e := by
  obtain ⟨b, T⟩ := st
  cases b with
  | true => exact ⟨rfl, fun e => Val.of_bad rfl e⟩
  | false =>
    have hm : ¬ hw T ∈ effw := by
      intro hm
      have := List.idxOf_lt_length_iff.2 hm
      have h2 : effw.length = 12 := rfl
      have h3 := hl.resolve_left (by simp)
      simp only at h3
      omega
    have e : pEffB T = .bad T := by
      unfold pEffB ch
      rw [if_neg hm]
      rfl
    exact ⟨by rw [lift_go, e]; rfl, fun x _ a' r h => by simp only at h; rw [e] at h; cases h⟩

theorem parts_list (z : Int) : parts z ∈ [[114, 110, 118], [115, 110], [110], [114], [100, 110, 118], [115], ([] : List UInt8)] := by
  unfold parts
  repeat' split
  all_goals simp
theorem parts_v (z : Int) : ∀ k : Nat, (parts z)[k]? = some 118 → 118 ∉ (parts z).drop (k + 1) := by
  have h := parts_list z
  intro k hk
  have hlt : k < (parts z).length := (List.getElem?_eq_some_iff.1 hk).1
  generalize parts z = p at *
  simp only [List.mem_cons, List.not_mem_nil, or_false] at h
  rcases h with rfl | rfl | rfl | rfl | rfl | rfl | rfl <;> (first | (simp at hlt; done) | (simp at hlt; rcases k with _ | _ | _ | k <;> first | omega | simp_all))
theorem parts_few (z : Int) : (parts z).length ≤ 3 := by
  have h := parts_list z
  simp only [List.mem_cons, List.not_mem_nil, or_false] at h
  rcases h with h | h | h | h | h | h | h <;> (rw [h]; decide)
theorem one_lit {w : World} {R : Nat} {X : Tks} {st : DSt} (h : Tx w R X st) (k : Nat) :
    Calls Tryz.prog 27 #[.pointer (some ⟨R, 0, none⟩), .int .i64 (k : Nat)] w fun e w' => (∃ q : Nat, e = .returned (.agg #[.int .i64 ((dT k st).k : Nat), .string (bs (dT k st).w), .int .i64 ((dT k st).n : Nat), .int .i64 (q : Nat)])) ∧ Tx w' R X (lift (tk k) st) ∧ Only (At R) w w' :=
  one_any h k
/-- What effect comes to. -/
def EffP (w : World) (R : Nat) (X : Tks) (st : DSt) (e : Ending) (w' : World) : Prop := ∃ x : Eff, e = .returned (.agg (effC x).toArray) ∧ Val pEffB st x ∧ Tx w' R X (lift pEffB st) ∧ Only (At R) w w'
theorem run_idx (l : Wd) (i : Nat) (c : UInt8) (h : l[i]? = some c) (w : World) : (Instr.index 9 (.string (bs l)) (.int .i64 (i : Int))).run Tryz.prog w = .ok (.int .u8 (c.toNat : Int)) w := by
  obtain ⟨h1, h2⟩ := List.getElem?_eq_some_iff.1 h
  have e : (bs l)[i]'(by simpa using h1) = c := by rw [← h2]; simp [bs, ByteArray.getElem_eq_getElem_data]
  simp [go_sem, Tryz.underlying9, h1, e]

set_option maxRecDepth 100000 in
set_option maxHeartbeats 20000000 in
theorem reffect_any {w : World} {R : Nat} {X : Tks} {st : DSt} (h : Tx w R X st) :
    Calls Tryz.prog 50 #[.pointer (some ⟨R, 0, none⟩)] w (EffP w R X st) := by
  obtain ⟨wB, hwB, HB, oB⟩ := box2 (Only.refl (At R) w) h.lt (effC (eff0 0)) 50
  have hwB' : wB = w.alloc (.cells #[.int .i64 0, .string ⟨#[]⟩, .string ⟨#[]⟩, .string ⟨#[]⟩, .int .i64 0, .int .i64 0, .int .i64 0] 50) := hwB
  have HR := Lib.hid (h.keep oB)
  have HH := Lib.hid HB
  clear hwB HB h oB
  generalize hO : w.heap.size = O at *
  have HO := Lib.hid hO
  clear hO
  have htw := tok_w
  have htn := tok_n
  go_enter Tryz.func50, Tryz.ntmps50
  go_upto_region 1 with (fail)
  rw [HO.out, ← hwB']; clear hwB'
  go_wp2_with fail
  go_loopw [3] (fun s3 wr => ∃ (i : Nat), i ≤ 12 ∧ s3 = .int .i64 ((i : Int) + 1) ∧ Hid (st.1 = true ∨ i ≤ effw.idxOf (hw st.2)) ∧ Hid (Own w R O (effC (eff0 0)) 50 wr ∧ Tx wr R X st))
    (fun s3 _ => 14 - (intOf s3).toNat)
  case atStart => exact ⟨0, by decide, rfl, Lib.hid (.inr (Nat.zero_le _)), Lib.hid ⟨HH.out, HR.out⟩⟩
  case round =>
    obtain ⟨i, hi, rfl, HI, HK⟩ := hrel
    by_cases hin : i < 12
    · have hin' : (i : Int) + 1 ≤ 12 := by omega
      have hi0 : (0 : Int) ≤ (i : Int) := by omega
      obtain ⟨nd, nne⟩ := effw_nd hin
      have RV := Lib.hid (fun w' => show Calls Tryz.prog 78 #[.int .i64 ((i : Int) + 1)] w' fun e w'' => e = .returned (.tuple #[.string (bs (effw.getD i [])), .string (bs (parts ((i : Int) + 1)))]) ∧ w' = w'' from by
        have := rverb_any ((i : Int) + 1) w'
        rw [pick_at hin] at this
        exact this)
      have WD := Lib.hid (Ps.word_any HK.out.2 (effw.getD i []) nd nne)
      have HIT := Lib.hid (fun h => eff_hit hin h HI.out)
      have MIS := Lib.hid (fun h => eff_miss hin h HI.out)
      clear nd nne
      generalize effw.getD i [] = s at *
      cases hd : dW s st with
      | false =>
        rw [hd] at WD
        have e1 : dWs s st = st := by unfold dWs; rw [if_neg (by rw [hd]; decide)]
        rw [e1] at WD
        have HN := Lib.hid (MIS.out hd)
        clear e1 hd HIT MIS
        go_wp2_with (first
          | (go_at_call 78; (with_reducible refine (RV.out _).mono ?_); rintro e w1 ⟨rfl, rfl⟩)
          | (go_at_call 26; (with_reducible refine WD.out.mono ?_); rintro e w2 ⟨rfl, h2, o2⟩; have K2 := Lib.hid (And.intro (HK.out.1.keep o2) h2); clear h2 o2))
        go_roundw
        case rel => exact ⟨i + 1, by omega, by go_num, HN, K2⟩
        case measure => simp [intOf]; omega
      | true =>
        rw [hd] at WD
        have e1 : dWs s st = (false, st.2.tail) := by unfold dWs; rw [if_pos hd]
        rw [e1] at WD
        obtain ⟨hb, hE⟩ := HIT.out hd
        have HE := Lib.hid hE
        have HBd := Lib.hid hb
        clear e1 hd HIT MIS hE hb HR HH
        go_upto_region 6 with (first
          | (go_at_call 78; (with_reducible refine (RV.out _).mono ?_); rintro e w1 ⟨rfl, rfl⟩)
          | (go_at_call 26; (with_reducible refine WD.out.mono ?_); rintro e w2 ⟨rfl, h2, o2⟩; have K2 := Lib.hid (And.intro (HK.out.1.keep o2) h2); clear h2 o2))
        clear HK WD RV HI
        obtain ⟨z, hz⟩ : ∃ z : Int, z = (i : Int) + 1 := ⟨_, rfl⟩
        rw [← hz] at HE ⊢
        clear hz
        obtain ⟨W3, hW3, H3, o3⟩ := box2 K2.out.1.only K2.out.1.low (effC (eff0 z)) 50
        have hW3' : W3 = w2.alloc (.cells #[.int .i64 z, .string ⟨#[]⟩, .string ⟨#[]⟩, .string ⟨#[]⟩, .int .i64 0, .int .i64 0, .int .i64 0] 50) := hW3
        have HLO0 := K2.out.1.lt
        have HK3 := Lib.hid (show Own w R O (effC (eff0 0)) 50 W3 ∧ Own w R w2.heap.size (effC (eff0 z)) 50 W3 ∧ Tx W3 R X (false, st.2.tail) from ⟨K2.out.1.keep (o3.nilTo _), H3, K2.out.2.keep o3⟩)
        have HLO := Lib.hid (show O ≠ w2.heap.size by omega)
        clear hW3 H3 o3 HLO0 K2
        go_upto_region 7 with (fail)
        rw [← hW3']; clear hW3'
        generalize w2.heap.size = L at *
        have HM := Lib.hid (parts_mem z)
        have HV := Lib.hid (parts_v z)
        have G0 := Lib.hid (Gw.start (pParts (parts z) (eff0 z)) (false, st.2.tail))
        have HPL := Lib.hid (parts_few z)
        generalize parts z = p at *
        have hpl : (bs p).size = p.length := bs_size p
        have hpf : (p.length : Int) ≤ 3 := by have := HPL.out; omega
        clear hin hin' hi hi0
        go_wp2_with fail
        go_loopw [7] (fun s7 wr => ∃ (k : Nat) (e0 : Eff) (st1 : DSt), k ≤ p.length ∧ s7 = .int .i64 (k : Int) ∧ Hid (Own w R O (effC (eff0 0)) 50 wr ∧ Own w R L (effC e0) 50 wr ∧ Tx wr R X st1) ∧ Hid (Gw (pParts p (eff0 z)) (false, st.2.tail) (pParts (p.drop k) e0) st1) ∧ Hid (118 ∈ p.drop k → e0.val = 0 ∧ e0.n = 0))
          (fun s7 _ => p.length - (intOf s7).toNat)
        case atStart => exact ⟨0, eff0 z, _, Nat.zero_le _, rfl, HK3, G0, Lib.hid (fun _ => ⟨rfl, rfl⟩)⟩
        case round =>
          obtain ⟨k, e0, st1, hk, rfl, HKK, HG, HZ⟩ := hrel
          clear HK3 G0
          by_cases hkl : k < p.length
          · have hkl' : (k : Int) < (p.length : Int) := by omega
            obtain ⟨c, hd, hcb, hcm⟩ := drop_c hkl
            have hcs := HM.out c hcm
            have hge : p[k]? = some c := by
              have h1 := List.drop_eq_getElem_cons hkl
              rw [hd] at h1
              injection h1 with h1 _
              rw [List.getElem?_eq_getElem hkl, ← h1]
            have hx := run_idx p k c hge
            have HD := Lib.hid hd
            have HV1 := Lib.hid (fun (h : c = 118) => HV.out k (by rw [hge, h]))
            clear hd hcb hcm hge
            rcases hcs with rfl | rfl | rfl | rfl | rfl
            · have ec : (((114 : UInt8).toNat : Nat) : Int) = 114 := rfl
              simp only [ec] at hx
              clear ec
              have ON := Lib.hid (one_lit HKK.out.2.2 1)
              have GN := Lib.hid (HG.out.bind (fun _ => by rw [HD.out]; exact pParts_r _ _ _) (dT_val 1 st1))
              go_wp2_with fail
              refine ON.out.mono ?_
              rintro e w6 ⟨⟨q, rfl⟩, h6, o6⟩
              have L6 := HKK.out.2.1.keep o6
              have c1 := L6.cell 1 (v := .string (bs e0.ref)) rfl
              have f1 := L6.free 1
              have HN := Lib.hid (show Own w R O (effC (eff0 0)) 50 (w6.setCell ⟨L, 1, none⟩ (.string (bs (dT 1 st1).w))) ∧ Own w R L (effC { e0 with ref := (dT 1 st1).w }) 50 (w6.setCell ⟨L, 1, none⟩ (.string (bs (dT 1 st1).w))) ∧ Tx (w6.setCell ⟨L, 1, none⟩ (.string (bs (dT 1 st1).w))) R X (lift (tk 1) st1) from
                ⟨(HKK.out.1.keep o6).other (at_only w6 L 1 _) (Ne.symm HLO.out) HKK.out.2.1.new, L6.put 1 _, L6.tx 1 _ h6⟩)
              clear h6 o6 L6
              go_wp2_with fail
              go_roundw
              case rel => exact ⟨k + 1, { e0 with ref := (dT 1 st1).w }, _, by omega, by go_num, HN, GN, Lib.hid (fun hm => HZ.out (by rw [HD.out]; exact List.mem_cons_of_mem _ hm))⟩
              case measure => simp [intOf]; omega
            · have ec : (((115 : UInt8).toNat : Nat) : Int) = 115 := rfl
              simp only [ec] at hx
              clear ec
              have ON := Lib.hid (one_lit HKK.out.2.2 1)
              have GN := Lib.hid (HG.out.bind (fun _ => by rw [HD.out]; exact pParts_s _ _ _) (dT_val 1 st1))
              go_wp2_with fail
              refine ON.out.mono ?_
              rintro e w6 ⟨⟨q, rfl⟩, h6, o6⟩
              have L6 := HKK.out.2.1.keep o6
              have c1 := L6.cell 2 (v := .string (bs e0.slot)) rfl
              have f1 := L6.free 2
              have HN := Lib.hid (show Own w R O (effC (eff0 0)) 50 (w6.setCell ⟨L, 2, none⟩ (.string (bs (dT 1 st1).w))) ∧ Own w R L (effC { e0 with slot := (dT 1 st1).w }) 50 (w6.setCell ⟨L, 2, none⟩ (.string (bs (dT 1 st1).w))) ∧ Tx (w6.setCell ⟨L, 2, none⟩ (.string (bs (dT 1 st1).w))) R X (lift (tk 1) st1) from
                ⟨(HKK.out.1.keep o6).other (at_only w6 L 2 _) (Ne.symm HLO.out) HKK.out.2.1.new, L6.put 2 _, L6.tx 2 _ h6⟩)
              clear h6 o6 L6
              go_wp2_with fail
              go_roundw
              case rel => exact ⟨k + 1, { e0 with slot := (dT 1 st1).w }, _, by omega, by go_num, HN, GN, Lib.hid (fun hm => HZ.out (by rw [HD.out]; exact List.mem_cons_of_mem _ hm))⟩
              case measure => simp [intOf]; omega
            · have ec : (((110 : UInt8).toNat : Nat) : Int) = 110 := rfl
              simp only [ec] at hx
              clear ec
              have ON := Lib.hid (one_lit HKK.out.2.2 1)
              have GN := Lib.hid (HG.out.bind (fun _ => by rw [HD.out]; exact pParts_n _ _ _) (dT_val 1 st1))
              go_wp2_with fail
              refine ON.out.mono ?_
              rintro e w6 ⟨⟨q, rfl⟩, h6, o6⟩
              have L6 := HKK.out.2.1.keep o6
              have c1 := L6.cell 3 (v := .string (bs e0.name)) rfl
              have f1 := L6.free 3
              have HN := Lib.hid (show Own w R O (effC (eff0 0)) 50 (w6.setCell ⟨L, 3, none⟩ (.string (bs (dT 1 st1).w))) ∧ Own w R L (effC { e0 with name := (dT 1 st1).w }) 50 (w6.setCell ⟨L, 3, none⟩ (.string (bs (dT 1 st1).w))) ∧ Tx (w6.setCell ⟨L, 3, none⟩ (.string (bs (dT 1 st1).w))) R X (lift (tk 1) st1) from
                ⟨(HKK.out.1.keep o6).other (at_only w6 L 3 _) (Ne.symm HLO.out) HKK.out.2.1.new, L6.put 3 _, L6.tx 3 _ h6⟩)
              clear h6 o6 L6
              go_wp2_with fail
              go_roundw
              case rel => exact ⟨k + 1, { e0 with name := (dT 1 st1).w }, _, by omega, by go_num, HN, GN, Lib.hid (fun hm => HZ.out (by rw [HD.out]; exact List.mem_cons_of_mem _ hm))⟩
              case measure => simp [intOf]; omega
            · have ec : (((100 : UInt8).toNat : Nat) : Int) = 100 := rfl
              simp only [ec] at hx
              clear ec
              have ON := Lib.hid (one_lit HKK.out.2.2 2)
              have GN := Lib.hid (HG.out.bind (fun _ => by rw [HD.out]; exact pParts_d _ _ _) (dT_val 2 st1))
              go_wp2_with fail
              refine ON.out.mono ?_
              rintro e w6 ⟨⟨q, rfl⟩, h6, o6⟩
              have L6 := HKK.out.2.1.keep o6
              have c1 := L6.cell 6 (v := .int .i64 e0.delay) rfl
              have f1 := L6.free 6
              have HN := Lib.hid (show Own w R O (effC (eff0 0)) 50 (w6.setCell ⟨L, 6, none⟩ (.int .i64 ((dT 2 st1).n : Int))) ∧ Own w R L (effC { e0 with delay := ((dT 2 st1).n : Int) }) 50 (w6.setCell ⟨L, 6, none⟩ (.int .i64 ((dT 2 st1).n : Int))) ∧ Tx (w6.setCell ⟨L, 6, none⟩ (.int .i64 ((dT 2 st1).n : Int))) R X (lift (tk 2) st1) from
                ⟨(HKK.out.1.keep o6).other (at_only w6 L 6 _) (Ne.symm HLO.out) HKK.out.2.1.new, L6.put 6 _, L6.tx 6 _ h6⟩)
              clear h6 o6 L6
              go_wp2_with fail
              go_roundw
              case rel => exact ⟨k + 1, { e0 with delay := ((dT 2 st1).n : Int) }, _, by omega, by go_num, HN, GN, Lib.hid (fun hm => HZ.out (by rw [HD.out]; exact List.mem_cons_of_mem _ hm))⟩
              case measure => simp [intOf]; omega
            · have ec : (((118 : UInt8).toNat : Nat) : Int) = 118 := rfl
              simp only [ec] at hx
              clear ec
              have hz2 := HZ.out (by rw [HD.out]; exact List.mem_cons_self)
              have HNO := Lib.hid (HV1.out rfl)
              have WL := Lib.hid (Ps.word_any HKK.out.2.2 w_less nd_less (by decide))
              have nw := HKK.out.2.2.nw
              cases hl : dW w_less st1 with
              | true =>
                rw [hl, show dWs w_less st1 = (false, st1.2.tail) from by unfold dWs; rw [if_pos hl]] at WL
                obtain ⟨v1, v2⟩ := pVal_less nw hl
                have GN := Lib.hid (HG.out.bind (fun _ => by rw [HD.out]; exact pParts_v _ _ _) v2)
                rw [v1] at GN
                clear hl nw v1 v2
                go_wp2_with fail
                refine WL.out.mono ?_
                rintro e w6 ⟨rfl, h6, o6⟩
                have L6 := HKK.out.2.1.keep o6
                have c1 := L6.cell 4 (v := .int .i64 e0.val) rfl
                have f1 := L6.free 4
                have HN := Lib.hid (show Own w R O (effC (eff0 0)) 50 (w6.setCell ⟨L, 4, none⟩ (.int .i64 1)) ∧ Own w R L (effC { e0 with val := 1, n := 0 }) 50 (w6.setCell ⟨L, 4, none⟩ (.int .i64 1)) ∧ Tx (w6.setCell ⟨L, 4, none⟩ (.int .i64 1)) R X (false, st1.2.tail) from
                  ⟨(HKK.out.1.keep o6).other (at_only w6 L 4 _) (Ne.symm HLO.out) HKK.out.2.1.new, by have := L6.put 4 (.int .i64 1); rw [show effC { e0 with val := 1, n := 0 } = (effC e0).set 4 (.int .i64 1) from by unfold effC; rw [hz2.2]; rfl]; exact this, L6.tx 4 _ h6⟩)
                clear h6 o6 L6 hz2
                go_wp2_with fail
                go_roundw
                case rel => exact ⟨k + 1, { e0 with val := 1, n := 0 }, _, by omega, by go_num, HN, GN, Lib.hid (fun hm => absurd hm HNO.out)⟩
                case measure => simp [intOf]; omega
              | false =>
                rw [hl, show dWs w_less st1 = st1 from by unfold dWs; rw [if_neg (by rw [hl]; decide)]] at WL
                cases hp : dW w_keep st1 with
                | true =>
                  obtain ⟨v1, v2⟩ := pVal_keep nw hp
                  have GN := Lib.hid (HG.out.bind (fun _ => by rw [HD.out]; exact pParts_v _ _ _) v2)
                  rw [v1] at GN
                  have WK := Lib.hid (fun w' (h' : Tx w' R X st1) => show Calls Tryz.prog 26 #[.pointer (some ⟨R, 0, none⟩), .string (bs w_keep)] w' fun e w'' => e = .returned (.bool true) ∧ Tx w'' R X (false, st1.2.tail) ∧ Only (At R) w' w'' from by
                    have := Ps.word_any h' w_keep nd_keep (by decide)
                    rw [hp, show dWs w_keep st1 = (false, st1.2.tail) from by unfold dWs; rw [if_pos hp]] at this
                    exact this)
                  clear hl hp nw v1 v2
                  go_wp2_with fail
                  refine WL.out.mono ?_
                  rintro e w6 ⟨rfl, h6, o6⟩
                  have K6 := Lib.hid (And.intro (HKK.out.1.keep o6) (HKK.out.2.1.keep o6))
                  have W6 := Lib.hid (WK.out w6 h6)
                  clear h6 o6
                  go_wp2_with fail
                  refine W6.out.mono ?_
                  rintro e w7 ⟨rfl, h7, o7⟩
                  have HN := Lib.hid (show Own w R O (effC (eff0 0)) 50 w7 ∧ Own w R L (effC { e0 with val := 0, n := 0 }) 50 w7 ∧ Tx w7 R X (false, st1.2.tail) from
                    ⟨K6.out.1.keep o7, by have := K6.out.2.keep o7; rw [show effC { e0 with val := 0, n := 0 } = effC e0 from by unfold effC; rw [hz2.1, hz2.2]]; exact this, h7⟩)
                  clear h7 o7 hz2
                  go_wp2_with fail
                  go_roundw
                  case rel => exact ⟨k + 1, { e0 with val := 0, n := 0 }, _, by omega, by go_num, HN, GN, Lib.hid (fun hm => absurd hm HNO.out)⟩
                  case measure => simp [intOf]; omega
                | false =>
                  obtain ⟨v1, v2⟩ := pVal_else hl hp
                  have GN := Lib.hid (HG.out.bind (fun _ => by rw [HD.out]; exact pParts_v _ _ _) v2)
                  rw [v1] at GN
                  have WK := Lib.hid (fun w' (h' : Tx w' R X st1) => show Calls Tryz.prog 26 #[.pointer (some ⟨R, 0, none⟩), .string (bs w_keep)] w' fun e w'' => e = .returned (.bool false) ∧ Tx w'' R X st1 ∧ Only (At R) w' w'' from by
                    have := Ps.word_any h' w_keep nd_keep (by decide)
                    rw [hp, show dWs w_keep st1 = st1 from by unfold dWs; rw [if_neg (by rw [hp]; decide)]] at this
                    exact this)
                  clear hl hp nw v1 v2
                  go_wp2_with fail
                  refine WL.out.mono ?_
                  rintro e w6 ⟨rfl, h6, o6⟩
                  have K6 := Lib.hid (And.intro (HKK.out.1.keep o6) (HKK.out.2.1.keep o6))
                  have W6 := Lib.hid (WK.out w6 h6)
                  clear h6 o6
                  go_wp2_with fail
                  refine W6.out.mono ?_
                  rintro e w7 ⟨rfl, h7, o7⟩
                  have L7 := K6.out.2.keep o7
                  have c1 := L7.cell 4 (v := .int .i64 e0.val) rfl
                  have f1 := L7.free 4
                  have K8 := Lib.hid (show Own w R O (effC (eff0 0)) 50 (w7.setCell ⟨L, 4, none⟩ (.int .i64 2)) ∧ Own w R L ((effC e0).set 4 (.int .i64 2)) 50 (w7.setCell ⟨L, 4, none⟩ (.int .i64 2)) ∧ Tx (w7.setCell ⟨L, 4, none⟩ (.int .i64 2)) R X st1 from
                    ⟨(K6.out.1.keep o7).other (at_only w7 L 4 _) (Ne.symm HLO.out) HKK.out.2.1.new, L7.put 4 _, L7.tx 4 _ h7⟩)
                  have ON := Lib.hid (one_lit K8.out.2.2 2)
                  clear h7 o7 L7
                  go_wp2_with fail
                  refine ON.out.mono ?_
                  rintro e w9 ⟨⟨q, rfl⟩, h9, o9⟩
                  have L9 := K8.out.2.1.keep o9
                  have c5 := L9.cell 5 (v := .int .i64 e0.n) rfl
                  have f5 := L9.free 5
                  have HN := Lib.hid (show Own w R O (effC (eff0 0)) 50 (w9.setCell ⟨L, 5, none⟩ (.int .i64 ((dT 2 st1).n : Int))) ∧ Own w R L (effC { e0 with val := 2, n := ((dT 2 st1).n : Int) }) 50 (w9.setCell ⟨L, 5, none⟩ (.int .i64 ((dT 2 st1).n : Int))) ∧ Tx (w9.setCell ⟨L, 5, none⟩ (.int .i64 ((dT 2 st1).n : Int))) R X (lift (tk 2) st1) from
                    ⟨(K8.out.1.keep o9).other (at_only w9 L 5 _) (Ne.symm HLO.out) HKK.out.2.1.new, L9.put 5 _, L9.tx 5 _ h9⟩)
                  clear h9 o9 L9 hz2 c1 f1
                  go_wp2_with fail
                  go_roundw
                  case rel => exact ⟨k + 1, { e0 with val := 2, n := ((dT 2 st1).n : Int) }, _, by omega, by go_num, HN, GN, Lib.hid (fun hm => absurd hm HNO.out)⟩
                  case measure => simp [intOf]; omega
          · have hkp : k = p.length := by omega
            have hk0 : ¬ (k : Int) < (p.length : Int) := by omega
            obtain ⟨g1, g2⟩ := HG.out.ret (a := e0) (by rw [hkp, List.drop_length]; rfl)
            have HEnd := Lib.hid (show lift pEffB st = st1 ∧ Val pEffB st e0 from by
              obtain ⟨b, T⟩ := st
              have hb := HBd.out
              simp only at hb
              subst hb
              have hE := HE.out
              simp only at hE
              refine ⟨?_, fun _ a' r he => ?_⟩
              · rw [lift_go, hE, ← g1]; rfl
              · simp only at he
                rw [hE] at he
                exact g2 rfl a' r he)
            have l0 := HKK.out.2.1.cell 0 (v := .int .i64 e0.act) rfl
            have l1 := HKK.out.2.1.cell 1 (v := .string (bs e0.ref)) rfl
            have l2 := HKK.out.2.1.cell 2 (v := .string (bs e0.slot)) rfl
            have l3 := HKK.out.2.1.cell 3 (v := .string (bs e0.name)) rfl
            have l4 := HKK.out.2.1.cell 4 (v := .int .i64 e0.val) rfl
            have l5 := HKK.out.2.1.cell 5 (v := .int .i64 e0.n) rfl
            have l6 := HKK.out.2.1.cell 6 (v := .int .i64 e0.delay) rfl
            have y0 := HKK.out.1.cell 0 (v := .int .i64 0) rfl
            have d0 := HKK.out.1.free 0
            have y1 := HKK.out.1.cell 1 (v := .string ⟨#[]⟩) rfl
            have d1 := HKK.out.1.free 1
            have y2 := HKK.out.1.cell 2 (v := .string ⟨#[]⟩) rfl
            have d2 := HKK.out.1.free 2
            have y3 := HKK.out.1.cell 3 (v := .string ⟨#[]⟩) rfl
            have d3 := HKK.out.1.free 3
            have y4 := HKK.out.1.cell 4 (v := .int .i64 0) rfl
            have d4 := HKK.out.1.free 4
            have y5 := HKK.out.1.cell 5 (v := .int .i64 0) rfl
            have d5 := HKK.out.1.free 5
            have y6 := HKK.out.1.cell 6 (v := .int .i64 0) rfl
            have d6 := HKK.out.1.free 6
            have nLO : L ≠ O := Ne.symm HLO.out
            clear g1 g2 hkp hkl
            go_wp2_with fail
            have H5 := HKK.out.1.set (effC e0) rfl
            refine bodyPost_ret (results_agg rfl _ _ O (effC e0) Tryz.isAgg50 Tryz.sizeOf50 rfl H5.heap) rfl ?_
            exact ⟨e0, rfl, HEnd.out.2, by rw [HEnd.out.1]; exact HKK.out.1.txs 0 (effC e0) HKK.out.2.2, H5.only⟩
    · obtain rfl : i = 12 := by omega
      have EN := Lib.hid (eff_none HI.out)
      have c2 := HK.out.2.c2
      have f2 := HK.out.2.f 2
      have hRO : R ≠ O := by have := HK.out.1.new; have := HK.out.1.low; omega
      have K4 := Lib.hid (show Own w R O (effC (eff0 0)) 50 (wr.setCell ⟨R, 2, none⟩ (.bool true)) ∧ Tx (wr.setCell ⟨R, 2, none⟩ (.bool true)) R X (true, st.2) from ⟨HK.out.1.keep (at_only wr R 2 _), HK.out.2.set2 true⟩)
      have y0 := HK.out.1.cell 0 (v := .int .i64 0) rfl
      have d0 := HK.out.1.free 0
      have y1 := HK.out.1.cell 1 (v := .string ⟨#[]⟩) rfl
      have d1 := HK.out.1.free 1
      have y2 := HK.out.1.cell 2 (v := .string ⟨#[]⟩) rfl
      have d2 := HK.out.1.free 2
      have y3 := HK.out.1.cell 3 (v := .string ⟨#[]⟩) rfl
      have d3 := HK.out.1.free 3
      have y4 := HK.out.1.cell 4 (v := .int .i64 0) rfl
      have d4 := HK.out.1.free 4
      have y5 := HK.out.1.cell 5 (v := .int .i64 0) rfl
      have d5 := HK.out.1.free 5
      have y6 := HK.out.1.cell 6 (v := .int .i64 0) rfl
      have d6 := HK.out.1.free 6
      clear hin HI HR HH
      go_wp2_with fail
      have H5 := K4.out.1.set (effC (eff0 0)) rfl
      refine bodyPost_ret (results_agg rfl _ _ O (effC (eff0 0)) Tryz.isAgg50 Tryz.sizeOf50 rfl H5.heap) rfl ?_
      exact ⟨eff0 0, rfl, EN.out.2 _, by rw [EN.out.1]; exact K4.out.1.txs 0 (effC (eff0 0)) K4.out.2, H5.only⟩
end Go.Proofs.YtnkokonkbklelaaGreatDoor.Ps
