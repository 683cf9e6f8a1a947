/- parse in plain words: the tokens of words that stand with a blank between each two. -/
import Derived.Test.YtnkokonkbklelaaGreatDoorPsM6
import Derived.Test.YtnkokonkbklelaaGreatDoorPsMa
import Derived.Test.YtnkokonkbklelaaGreatDoorLxM4
import Derived.Test.YtnkokonkbklelaaGreatDoorPsM3
set_option linter.unusedVariables false
namespace Go.Proofs.YtnkokonkbklelaaGreatDoor.Ps
open Go.RowKit Go.Proofs.YtnkokonkbklelaaGreatDoor Lx

/-- The token that a word is. -/
def tokW : Wd → Tok
  | [] => default
  | c :: r => if isLe c then ⟨1, c :: r, 0⟩ else if isDi c then ⟨2, c :: r, vl 0 (c :: r)⟩ else ⟨3, c :: r, 0⟩
theorem tokW_c (c : UInt8) (r : Wd) : tokW (c :: r) = if isLe c then ⟨1, c :: r, 0⟩ else if isDi c then ⟨2, c :: r, vl 0 (c :: r)⟩ else ⟨3, c :: r, 0⟩ := rfl
/-- A word that can stand in a text. -/
def GW (v : Wd) : Prop := Lx.Good (tokW v) ∧ (tokW v).w = v
theorem GW.ne {v : Wd} (h : GW v) : v ≠ [] := fun e => by
  subst e
  obtain ⟨⟨c, r, ht, _⟩, _⟩ := h
  have hp := tok_pos (l := c :: r) (by rw [ht])
  rw [ht] at hp
  have : (tokW []).w.length = 0 := rfl
  dsimp only at hp; omega
theorem gw_of_good {t : Tok} (h : Lx.Good t) : GW t.w ∧ tokW t.w = t := by
  have e : tokW t.w = t := by
    obtain ⟨c, r, ht, h1, h2⟩ := h
    rw [tok_c] at ht
    by_cases hl : isLe c = true
    · rw [if_pos hl] at ht
      split at ht
      · simp at ht
      · have ht' := (Prod.mk.inj ht).2
        have e0 : (c :: r).takeWhile isWd = c :: r.takeWhile isWd := by simp [isWd_of_le hl]
        rw [e0] at ht'
        subst ht'
        show tokW (c :: r.takeWhile isWd) = _
        rw [tokW_c, if_pos hl]
    · rw [if_neg hl] at ht
      by_cases hd : isDi c = true
      · rw [if_pos hd] at ht
        split at ht
        · have ht' := (Prod.mk.inj ht).2
          have e0 : (c :: r).takeWhile isWd = c :: r.takeWhile isWd := by simp [isWd_of_di hd]
          rw [e0] at ht'
          subst ht'
          show tokW (c :: r.takeWhile isWd) = _
          rw [tokW_c, if_neg hl, if_pos hd]
        · simp at ht
      · rw [if_neg hd] at ht
        split at ht
        · have ht' := (Prod.mk.inj ht).2
          subst ht'
          show tokW [c] = _
          rw [tokW_c, if_neg hl, if_neg hd]
        · simp at ht
  exact ⟨⟨by rw [e]; exact h, by rw [e]⟩, e⟩
theorem gw_nm {v : Wd} (h : isNm v = true) : GW v ∧ (tokW v).k = 1 := by
  cases v with
  | nil => cases h
  | cons c r =>
    obtain ⟨hl, hz, ha⟩ := (nm_iff c r).1 h
    have e : tokW (c :: r) = ⟨1, c :: r, 0⟩ := by rw [tokW_c, if_pos hl]
    have hb : isBl c = false ∧ (c == 35) = false := by
      have := le_first hl []
      exact sk_head this
    refine ⟨⟨⟨c, r, ?_, hb.1, hb.2⟩, by rw [e]⟩, by rw [e]⟩
    rw [tok_c, if_pos hl, all_take ha, if_neg (by simp; omega), e]
theorem gw_num {n : Nat} {D : Wd} (h : Dec n D) (hn : n ≤ 65535) : GW D ∧ (tokW D).k = 2 ∧ (tokW D).n = n := by
  cases D with
  | nil => exact absurd rfl h.ne
  | cons c r =>
    have hd : isDi c = true := List.all_eq_true.1 h.all c (List.mem_cons_self ..)
    obtain ⟨h1, h2, h3⟩ := di_facts hd
    have e : tokW (c :: r) = ⟨2, c :: r, vl 0 (c :: r)⟩ := by rw [tokW_c, if_neg (by rw [h3]; simp), if_pos hd]
    have ht : (c :: r).takeWhile isWd = c :: r := take_self (wd_of_all h.all)
    refine ⟨⟨⟨c, r, ?_, h1, h2⟩, by rw [e]⟩, by rw [e], by rw [e]; exact h.val⟩
    rw [tok_c, if_neg (by rw [h3]; simp), if_pos hd, ht, if_pos (by rw [h.all, h.val]; simpa using hn), e]
theorem dec_dig (u : Nat) : Dec u (Lib.decDigits u) := by
  induction u using Nat.strongRecOn with
  | _ u ih =>
    have hd : ∀ d : Nat, d < 10 → (UInt8.ofNat (48 + d)).toNat = 48 + d := fun d h => by
      rw [UInt8.toNat_ofNat', Nat.mod_eq_of_lt (by omega)]
    by_cases h : u < 10
    · rw [Lib.decDigits, dif_pos h]
      have e := hd u h
      refine ⟨?_, by simp, ?_⟩
      · simp [isDi]; omega
      · rw [vl_c, e]; simp [vl]
    · rw [Lib.decDigits, dif_neg h]
      have e := hd (u % 10) (by omega)
      have i := ih (u / 10) (by omega)
      refine ⟨?_, by simp, ?_⟩
      · rw [List.all_append, i.all]
        simp [isDi]; omega
      · have : vl 0 (Lib.decDigits (u / 10) ++ [UInt8.ofNat (48 + u % 10)]) = vl 0 (Lib.decDigits (u / 10)) * 10 + (48 + u % 10 - 48) := by
          unfold vl; rw [List.foldl_append]
          show _ * 10 + ((UInt8.ofNat (48 + u % 10)).toNat - 48) = _
          rw [e]
        rw [this, i.val]; omega
theorem gw_itoa {n : Int} (h : okN n = true) : GW (Lib.itoa n) ∧ (tokW (Lib.itoa n)).k = 2 ∧ ((tokW (Lib.itoa n)).n : Int) = n := by
  obtain ⟨h1, h2⟩ := (okN_iff n).1 h
  obtain ⟨u, rfl⟩ : ∃ u : Nat, n = (u : Int) := ⟨n.toNat, by omega⟩
  rw [Lib.itoa_nonneg]
  obtain ⟨a, b, c⟩ := gw_num (dec_dig u) (by omega)
  exact ⟨a, b, by rw [c]⟩
theorem gw_sign {c : UInt8} (h : c = 123 ∨ c = 125 ∨ c = 59) : GW [c] ∧ (tokW [c]).k = 3 := by
  rcases h with rfl | rfl | rfl
  · exact ⟨⟨⟨123, [], by decide, by decide, by decide⟩, by decide⟩, by decide⟩
  · exact ⟨⟨⟨125, [], by decide, by decide, by decide⟩, by decide⟩, by decide⟩
  · exact ⟨⟨⟨59, [], by decide, by decide, by decide⟩, by decide⟩, by decide⟩

/-! ### Words with a blank ahead of each -/
def tl (vs : List Wd) : Wd := vs.flatMap fun v => 32 :: v
theorem foldl_tl (t : Wd) (vs : List Wd) (h : t ≠ []) : vs.foldl jn t = t ++ tl vs := by
  induction vs generalizing t with
  | nil => simp [tl]
  | cons v vs ih =>
    rw [List.foldl_cons, jn_cons h, ih _ (by simp)]
    simp [tl]
theorem joinW_cons {v : Wd} (h : v ≠ []) (vs : List Wd) : joinW (v :: vs) = v ++ tl vs := by
  unfold joinW
  rw [List.foldl_cons, jn_nil, foldl_tl _ _ h]
theorem tl_stop (vs : List Wd) : Stop (tl vs) := by
  cases vs with
  | nil => exact stop_nil
  | cons v vs => exact stop_cons _ (by decide)
theorem LX_tl (N : Nat) (vs : List Wd) (h : ∀ v ∈ vs, GW v) : (LX N (tl vs)).1.map (·.1) = vs.map tokW ∧ (LX N (tl vs)).2 = (0, 0) := by
  induction vs with
  | nil => exact ⟨rfl, rfl⟩
  | cons v vs ih =>
    obtain ⟨h1, h2⟩ := ih (fun y hy => h y (List.mem_cons_of_mem _ hy))
    obtain ⟨g1, g2⟩ := h v (List.mem_cons_self ..)
    have e : LX N (tl (v :: vs)) = LX N (v ++ tl vs) := LX_sk _ _ _ (by
      show sk false (32 :: (v ++ tl vs)) = _
      rw [sk_f, if_pos (by decide)])
    have e2 := LX_good g1 (tl vs) (tl_stop vs) N
    rw [g2] at e2
    rw [e, e2]
    exact ⟨by simp [h1], h2⟩
theorem LX_join (N : Nat) (vs : List Wd) (h : ∀ v ∈ vs, GW v) : (LX N (joinW vs)).1.map (·.1) = vs.map tokW ∧ (LX N (joinW vs)).2 = (0, 0) := by
  cases vs with
  | nil => exact ⟨rfl, rfl⟩
  | cons v vs =>
    obtain ⟨h1, h2⟩ := LX_tl N vs (fun y hy => h y (List.mem_cons_of_mem _ hy))
    obtain ⟨g1, g2⟩ := h v (List.mem_cons_self ..)
    have e2 := LX_good g1 (tl vs) (tl_stop vs) N
    rw [g2] at e2
    rw [joinW_cons (h v (List.mem_cons_self ..)).ne, e2]
    exact ⟨by simp [h1], h2⟩
/-- How long words with a blank each are. -/
def cost (ws : List Wd) : Nat := (ws.map fun v => v.length + 1).sum
theorem cost_c (v : Wd) (ws : List Wd) : cost (v :: ws) = v.length + 1 + cost ws := by simp [cost]
theorem cost_app (u v : List Wd) : cost (u ++ v) = cost u + cost v := by simp [cost]
theorem foldl_cost (t : Wd) (vs : List Wd) : (vs.foldl jn t).length ≤ t.length + cost vs := by
  induction vs generalizing t with
  | nil => exact Nat.le_refl _
  | cons v vs ih =>
    have := ih (jn t v)
    have e : (jn t v).length ≤ t.length + (v.length + 1) := by unfold jn; split <;> simp_all <;> omega
    rw [List.foldl_cons, cost_c]; omega
theorem joinW_cost (vs : List Wd) : (joinW vs).length ≤ cost vs := by
  have := foldl_cost [] vs
  simpa [joinW] using this
end Go.Proofs.YtnkokonkbklelaaGreatDoor.Ps

/- parse in plain words: what is written is read as it was. -/
set_option linter.unusedVariables false
namespace Go.Proofs.YtnkokonkbklelaaGreatDoor.Ps
open Go.RowKit Go.Proofs.YtnkokonkbklelaaGreatDoor Lx

/-- These tokens are these words. -/
def Tk (ws : List Wd) (X : Tks) : Prop := X.map (·.1) = ws.map tokW
theorem Tk.nil {X : Tks} (h : Tk [] X) : X = [] := by simpa [Tk] using h
theorem Tk.cons {w : Wd} {ws : List Wd} {X : Tks} (h : Tk (w :: ws) X) : ∃ q X', X = (tokW w, q) :: X' ∧ Tk ws X' := by
  cases X with
  | nil => simp [Tk] at h
  | cons x X =>
    obtain ⟨t, q⟩ := x
    have h' : t :: X.map (·.1) = tokW w :: ws.map tokW := h
    injection h' with a b
    exact ⟨q, X, by rw [a], b⟩
theorem Tk.app {u v : List Wd} {X : Tks} (h : Tk (u ++ v) X) : ∃ X1 X2, X = X1 ++ X2 ∧ Tk u X1 ∧ Tk v X2 := by
  unfold Tk at h
  rw [List.map_append] at h
  obtain ⟨X1, X2, rfl, h1, h2⟩ := List.map_eq_append_iff.1 h
  exact ⟨X1, X2, rfl, h1, h2⟩
theorem pass_tk {s : Wd} (h : GW s) (q : Nat) (R : Tks) : pass s ((tokW s, q) :: R) = .ok () R := by
  unfold pass; rw [if_pos (show hw ((tokW s, q) :: R) = s from h.2)]; rfl
theorem tk_tk {k : Nat} {s : Wd} (h : (tokW s).k = k) (q : Nat) (R : Tks) : tk k ((tokW s, q) :: R) = .ok (tokW s) R := by rw [tk_c, if_pos h]
theorem ch_tk {ws : List Wd} {s : Wd} (h : GW s) (hm : s ∈ ws) (q : Nat) (R : Tks) : ch ws ((tokW s, q) :: R) = .ok (ws.idxOf s) R := by
  unfold ch; rw [show hw ((tokW s, q) :: R) = s from h.2, if_pos hm]; rfl
theorem gw_word {v : Wd} (h : isNm v = true := by decide) : GW v := (gw_nm h).1
theorem gw_open : GW w_open := (gw_sign (Or.inl rfl)).1
theorem gw_close : GW w_close := (gw_sign (Or.inr (Or.inl rfl))).1
theorem gw_semi : GW w_semi := (gw_sign (Or.inr (Or.inr rfl))).1

theorem pick_eq {ws : List Wd} {i : Nat} (h : i < ws.length) : pickW ws (i : Int) = ws.getD i [] := by
  unfold pickW; rw [if_pos ⟨by omega, by omega⟩]; simp
theorem okV_cases {v n : Int} (h : okV v n = true) : (v = 2 ∧ okN n = true) ∨ (v = 0 ∧ n = 0) ∨ (v = 1 ∧ n = 0) := by
  unfold okV at h
  by_cases h2 : v = 2
  · rw [if_pos h2] at h; exact Or.inl ⟨h2, h⟩
  · rw [if_neg h2, Bool.and_eq_true, decide_eq_true_eq] at h
    obtain ⟨h0, h1⟩ := (okP_iff _ _).1 h.2
    have : (vals.length : Int) = 2 := rfl
    have : v = 0 ∨ v = 1 := by omega
    rcases this with e | e
    · exact Or.inr (Or.inl ⟨e, h.1⟩)
    · exact Or.inr (Or.inr ⟨e, h.1⟩)
theorem pVal_tk {v n : Int} (h : okV v n = true) (q : Nat) (R : Tks) : pVal ((tokW (valW v n), q) :: R) = .ok (v, n) R := by
  rcases okV_cases h with ⟨rfl, h⟩ | ⟨rfl, rfl⟩ | ⟨rfl, rfl⟩
  · obtain ⟨g, k, e⟩ := gw_itoa h
    have ev : valW 2 n = Lib.itoa n := if_pos rfl
    rw [ev]; unfold pVal
    rw [if_pos (show hk ((tokW (Lib.itoa n), q) :: R) = 2 from k), tk_tk k]
    simp only [PR.bind_ok]; rw [e]
  · have ev : valW 0 0 = w_keep := by decide
    rw [ev]; unfold pVal
    rw [if_neg (show ¬ hk ((tokW w_keep, q) :: R) = 2 from (by decide : ¬ (tokW w_keep).k = 2)), ch_tk (gw_word (v := w_keep)) (by decide)]; rfl
  · have ev : valW 1 0 = w_less := by decide
    rw [ev]; unfold pVal
    rw [if_neg (show ¬ hk ((tokW w_less, q) :: R) = 2 from (by decide : ¬ (tokW w_less).k = 2)), ch_tk (gw_word (v := w_less)) (by decide)]; rfl
theorem gw_val {v n : Int} (h : okV v n = true) : GW (valW v n) := by
  rcases okV_cases h with ⟨rfl, h⟩ | ⟨rfl, rfl⟩ | ⟨rfl, rfl⟩
  · exact (gw_itoa h).1
  · exact gw_word (v := w_keep)
  · exact gw_word (v := w_less)

def setP (x e : Eff) (c : UInt8) : Eff := if c = 114 then { e with ref := x.ref } else if c = 115 then { e with slot := x.slot } else if c = 110 then { e with name := x.name } else if c = 100 then { e with delay := x.delay } else { e with val := x.val, n := x.n }
theorem pPart_tk (x e : Eff) (c : UInt8) (h : okPart x c = true) (q : Nat) (R : Tks) : pPart c e ((tokW (partW x c), q) :: R) = .ok (setP x e c) R := by
  unfold okPart at h; unfold partW pPart setP
  by_cases c1 : c = 114
  · simp only [if_pos c1] at h ⊢
    obtain ⟨g, k⟩ := gw_nm h
    rw [tk_tk k]; simp only [PR.bind_ok]; rw [g.2]
  · simp only [if_neg c1] at h ⊢
    by_cases c2 : c = 115
    · simp only [if_pos c2] at h ⊢
      obtain ⟨g, k⟩ := gw_nm h
      rw [tk_tk k]; simp only [PR.bind_ok]; rw [g.2]
    · simp only [if_neg c2] at h ⊢
      by_cases c3 : c = 110
      · simp only [if_pos c3] at h ⊢
        obtain ⟨g, k⟩ := gw_nm h
        rw [tk_tk k]; simp only [PR.bind_ok]; rw [g.2]
      · simp only [if_neg c3] at h ⊢
        by_cases c4 : c = 100
        · simp only [if_pos c4] at h ⊢
          obtain ⟨g, k, en⟩ := gw_itoa h
          rw [tk_tk k]; simp only [PR.bind_ok]; rw [en]
        · simp only [if_neg c4] at h ⊢
          rw [pVal_tk h]; rfl
theorem gw_part (x : Eff) (c : UInt8) (h : okPart x c = true) : GW (partW x c) := by
  unfold okPart at h; unfold partW
  by_cases c1 : c = 114
  · simp only [if_pos c1] at h ⊢; exact (gw_nm h).1
  · simp only [if_neg c1] at h ⊢
    by_cases c2 : c = 115
    · simp only [if_pos c2] at h ⊢; exact (gw_nm h).1
    · simp only [if_neg c2] at h ⊢
      by_cases c3 : c = 110
      · simp only [if_pos c3] at h ⊢; exact (gw_nm h).1
      · simp only [if_neg c3] at h ⊢
        by_cases c4 : c = 100
        · simp only [if_pos c4] at h ⊢; exact (gw_itoa h).1
        · simp only [if_neg c4] at h ⊢; exact gw_val h
theorem pParts_tk (x : Eff) (l : List UInt8) (h : l.all (okPart x) = true) (e : Eff) (X R : Tks) (hX : Tk (l.map (partW x)) X) : pParts l e (X ++ R) = .ok (l.foldl (setP x) e) R := by
  induction l generalizing e X with
  | nil => have := hX.nil; subst this; rfl
  | cons c l ih =>
    rw [List.all_cons, Bool.and_eq_true] at h
    obtain ⟨q, X', rfl, hX'⟩ := hX.cons
    show (pPart c e ((tokW (partW x c), q) :: (X' ++ R))).bind (fun e' r => pParts l e' r) = _
    rw [pPart_tk x e c h.1, PR.bind_ok]
    exact ih h.2 _ X' hX'
theorem act_cases {z : Int} (h1 : 1 ≤ z) (h2 : z ≤ 12) : z = 1 ∨ z = 2 ∨ z = 3 ∨ z = 4 ∨ z = 5 ∨ z = 6 ∨ z = 7 ∨ z = 8 ∨ z = 9 ∨ z = 10 ∨ z = 11 ∨ z = 12 := by omega
theorem set_all (x : Eff) (h1 : 1 ≤ x.act) (h2 : x.act ≤ 12) (hz : (parts x.act).foldl zeroP { x with act := 0 } = eff0 0) : (parts x.act).foldl (setP x) (eff0 x.act) = x := by
  obtain ⟨z, ref, slot, name, val, n, delay⟩ := x
  dsimp only at h1 h2 hz ⊢
  rcases act_cases h1 h2 with rfl | rfl | rfl | rfl | rfl | rfl | rfl | rfl | rfl | rfl | rfl | rfl <;>
    (simp [parts, zeroP, setP, eff0] at hz ⊢; simp_all)
theorem effw_idx : ∀ i, i < 12 → effw.idxOf (effw.getD i []) = i ∧ effw.getD i [] ∈ effw ∧ isNm (effw.getD i []) = true := by decide
theorem dirs_idx : ∀ i, i < 4 → dirs.idxOf (dirs.getD i []) = i ∧ dirs.getD i [] ∈ dirs ∧ isNm (dirs.getD i []) = true := by decide
theorem okE_parts {x : Eff} (h : okE x = true) : (∃ i : Nat, i < 12 ∧ x.act = (i : Int) + 1 ∧ pickW effw (x.act - 1) = effw.getD i []) ∧ (parts x.act).all (okPart x) = true ∧ (parts x.act).foldl zeroP { x with act := 0 } = eff0 0 := by
  unfold okE at h
  simp only [Bool.and_eq_true, decide_eq_true_eq] at h
  obtain ⟨h1, h2, h3⟩ := h
  obtain ⟨a1, a2⟩ := (okP_iff _ _).1 h1
  have e : (effw.length : Int) = 12 := rfl
  refine ⟨⟨(x.act - 1).toNat, by omega, by omega, ?_⟩, h2, h3⟩
  have : x.act - 1 = ((x.act - 1).toNat : Int) := by omega
  rw [this, pick_eq (by have : effw.length = 12 := rfl; omega)]
  simp
theorem pEff_tk (x : Eff) (X R : Tks) (h : okE x = true) (hX : Tk (wordsE x) X) : pEff (X ++ R) = .ok x R := by
  obtain ⟨⟨i, hi, ha, hp⟩, h2, h3⟩ := okE_parts h
  obtain ⟨j1, j2, j3⟩ := effw_idx i hi
  unfold wordsE at hX
  rw [hp] at hX
  obtain ⟨q, X', hXe, hXn⟩ := Tk.cons hX; subst hXe; clear hX; have hX := hXn; clear hXn
  obtain ⟨X1, X2, rfl, hX1, hX2⟩ := hX.app
  obtain ⟨q2, X3, rfl, hX3⟩ := hX2.cons
  have := hX3.nil; subst this
  show (ch effw ((tokW (effw.getD i []), q) :: (X1 ++ [(tokW w_semi, q2)] ++ R))).bind _ = _
  rw [ch_tk (gw_nm j3).1 j2, PR.bind_ok, j1, ← ha, List.append_assoc, pParts_tk x _ h2 _ _ _ hX1, PR.bind_ok, set_all x (by omega) (by omega) h3]
  show (pass w_semi ((tokW w_semi, q2) :: R)).bind _ = _
  rw [pass_tk gw_semi, PR.bind_ok]
theorem gw_E {x : Eff} (h : okE x = true) : ∀ v ∈ wordsE x, GW v := by
  obtain ⟨⟨i, hi, ha, hp⟩, h2, h3⟩ := okE_parts h
  obtain ⟨j1, j2, j3⟩ := effw_idx i hi
  intro v hv
  unfold wordsE at hv
  rw [hp] at hv
  rcases List.mem_cons.1 hv with rfl | hv
  · exact (gw_nm j3).1
  · rcases List.mem_append.1 hv with hv | hv
    · obtain ⟨c, hc, rfl⟩ := List.mem_map.1 hv
      exact gw_part x c (List.all_eq_true.1 h2 c hc)
    · rw [List.mem_singleton.1 hv]; exact gw_semi
/-- The word of an effect is no brace. -/
theorem hd_E {x : Eff} {X R : Tks} (h : okE x = true) (hX : Tk (wordsE x) X) : isW w_close (X ++ R) = false := by
  obtain ⟨⟨i, hi, ha, hp⟩, h2, h3⟩ := okE_parts h
  obtain ⟨j1, j2, j3⟩ := effw_idx i hi
  unfold wordsE at hX
  rw [hp] at hX
  obtain ⟨q, X', hXe, hXn⟩ := Tk.cons hX; subst hXe; clear hX; have hX := hXn; clear hXn
  show ((tokW (effw.getD i [])).w == w_close) = false
  rw [(gw_nm j3).1.2]
  have : ∀ i, i < 12 → (effw.getD i [] == w_close) = false := by decide
  exact this i hi

theorem Many_tk {α : Type} {p : Tks → PR α} (hE : Eats p) {stop : Tks → Bool} {wr : α → List Wd} {ok : α → Bool} (hp : ∀ a X R, ok a = true → Tk (wr a) X → p (X ++ R) = .ok a R)
    (hs : ∀ a X R, ok a = true → Tk (wr a) X → stop (X ++ R) = false) (L : List α) (X R : Tks) (hL : L.all ok = true) (hX : Tk (L.flatMap wr) X) (hR : stop R = true) : Many p stop (X ++ R) = .ok L R := by
  induction L generalizing X with
  | nil =>
    have := Tk.nil hX; subst this
    rw [List.nil_append, Many_eq hE, if_pos hR]
  | cons a L ih =>
    rw [List.flatMap_cons] at hX
    obtain ⟨X1, X2, rfl, h1, h2⟩ := hX.app
    rw [List.all_cons, Bool.and_eq_true] at hL
    rw [List.append_assoc, Many_eq hE, if_neg (by rw [hs a X1 _ hL.1 h1]; simp), hp a X1 _ hL.1 h1, PR.bind_ok, ih X2 hL.2 h2, PR.bind_ok]
theorem block_tk {α : Type} {p : Tks → PR α} (hE : Eats p) {wr : α → List Wd} {ok : α → Bool} (hp : ∀ a X R, ok a = true → Tk (wr a) X → p (X ++ R) = .ok a R)
    (hs : ∀ a X R, ok a = true → Tk (wr a) X → isW w_close (X ++ R) = false) (L : List α) (X R : Tks) (hL : L.all ok = true) (hX : Tk (w_open :: (L.flatMap wr ++ [w_close])) X) : block p (X ++ R) = .ok L R := by
  obtain ⟨q, X', hXe, hXn⟩ := Tk.cons hX; subst hXe; clear hX; have hX := hXn; clear hXn
  obtain ⟨X1, X2, rfl, h1, h2⟩ := hX.app
  obtain ⟨q2, X3, rfl, hX3⟩ := h2.cons
  have := hX3.nil; subst this
  show (pass w_open ((tokW w_open, q) :: (X1 ++ [(tokW w_close, q2)] ++ R))).bind _ = _
  rw [pass_tk gw_open, PR.bind_ok, List.append_assoc, Many_tk hE hp hs L X1 _ hL h1 (by show ((tokW w_close).w == w_close) = true; decide), PR.bind_ok]
  show (pass w_close ((tokW w_close, q2) :: R)).bind _ = _
  rw [pass_tk gw_close, PR.bind_ok]
theorem gw_flat {α : Type} {wr : α → List Wd} {ok : α → Bool} (h : ∀ a, ok a = true → ∀ v ∈ wr a, GW v) {L : List α} (hL : L.all ok = true) : ∀ v ∈ L.flatMap wr, GW v := by
  intro v hv
  obtain ⟨a, ha, hv⟩ := List.mem_flatMap.1 hv
  exact h a (List.all_eq_true.1 hL a ha) v hv

theorem pRow_tk (x : Rw) (X R : Tks) (h : okR x = true) (hX : Tk (wordsR x) X) : pRow (X ++ R) = .ok x R := by
  unfold okR at h
  rw [Bool.and_eq_true] at h
  obtain ⟨hH, hE⟩ := h
  obtain ⟨tag, only, n, effs⟩ := x
  unfold wordsR headW at hX
  unfold okH at hH
  dsimp only at hX hH hE
  cases only with
  | true =>
    simp only [if_true] at hX hH
    rw [Bool.and_eq_true] at hH
    obtain ⟨g1, k1⟩ := gw_nm hH.1
    obtain ⟨g2, k2, e2⟩ := gw_itoa hH.2
    obtain ⟨q1, X, hXe, hXn⟩ := Tk.cons hX; subst hXe; clear hX; have hX := hXn; clear hXn
    obtain ⟨q2, X, hXe, hXn⟩ := Tk.cons hX; subst hXe; clear hX; have hX := hXn; clear hXn
    obtain ⟨q3, X, hXe, hXn⟩ := Tk.cons hX; subst hXe; clear hX; have hX := hXn; clear hXn
    show (ch [w_on, w_any] ((tokW w_on, q1) :: (tokW tag, q2) :: (tokW (Lib.itoa n), q3) :: (X ++ R))).bind _ = _
    rw [ch_tk gw_word (by decide), PR.bind_ok, if_pos (by decide), tk_tk k1, PR.bind_ok, if_pos (show hk ((tokW (Lib.itoa n), q3) :: (X ++ R)) = 2 from k2), tk_tk k2, PR.bind_ok, block_tk pEff_eats pEff_tk (fun a X R => hd_E) effs X R hE hX, PR.bind_ok, g1.2, e2]
  | false =>
    simp only [Bool.false_eq_true, if_false] at hX hH
    rw [Bool.and_eq_true, decide_eq_true_eq] at hH
    obtain ⟨hn, hH⟩ := hH
    subst hn
    by_cases ht : tag = []
    · subst ht
      simp only [if_true] at hX
      obtain ⟨q1, X, hXe, hXn⟩ := Tk.cons hX; subst hXe; clear hX; have hX := hXn; clear hXn
      show (ch [w_on, w_any] ((tokW w_any, q1) :: (X ++ R))).bind _ = _
      rw [ch_tk gw_word (by decide), PR.bind_ok, if_neg (by decide), block_tk pEff_eats pEff_tk (fun a X R => hd_E) effs X R hE hX, PR.bind_ok]
    · have hT : isNm tag = true := by simpa [ht] using hH
      rw [if_neg ht] at hX
      obtain ⟨g1, k1⟩ := gw_nm hT
      obtain ⟨q1, X, hXe, hXn⟩ := Tk.cons hX; subst hXe; clear hX; have hX := hXn; clear hXn
      obtain ⟨q2, X, hXe, hXn⟩ := Tk.cons hX; subst hXe; clear hX; have hX := hXn; clear hXn
      have hX' := hX
      obtain ⟨q3, X', rfl, _⟩ := hX'.cons
      show (ch [w_on, w_any] ((tokW w_on, q1) :: (tokW tag, q2) :: (((tokW w_open, q3) :: X') ++ R))).bind _ = _
      rw [ch_tk gw_word (by decide), PR.bind_ok, if_pos (by decide), tk_tk k1, PR.bind_ok, if_neg (show ¬ hk ((tokW w_open, q3) :: X' ++ R) = 2 from (by decide : ¬ (tokW w_open).k = 2)), block_tk pEff_eats pEff_tk (fun a X R => hd_E) effs _ R hE hX, PR.bind_ok, g1.2]
theorem gw_R {x : Rw} (h : okR x = true) : ∀ v ∈ wordsR x, GW v := by
  unfold okR at h
  rw [Bool.and_eq_true] at h
  obtain ⟨hH, hE⟩ := h
  intro v hv
  unfold wordsR at hv
  rcases List.mem_append.1 hv with hv | hv
  · unfold headW at hv
    unfold okH at hH
    split at hv
    · rename_i ho
      simp only [ho, if_true, Bool.and_eq_true] at hH
      simp only [List.mem_cons, List.not_mem_nil, or_false] at hv
      rcases hv with rfl | rfl | rfl
      · exact gw_word
      · exact (gw_nm hH.1).1
      · exact (gw_itoa hH.2).1
    · rename_i ho
      simp only [ho, if_false, Bool.and_eq_true, Bool.or_eq_true, decide_eq_true_eq, Bool.false_eq_true] at hH
      split at hv
      · rw [List.mem_singleton.1 hv]; exact gw_word
      · rename_i ht
        simp only [List.mem_cons, List.not_mem_nil, or_false] at hv
        rcases hv with rfl | rfl
        · exact gw_word
        · exact (gw_nm (hH.2.resolve_left ht)).1
  · rcases List.mem_cons.1 hv with rfl | hv
    · exact gw_open
    · rcases List.mem_append.1 hv with hv | hv
      · exact gw_flat (fun a ha => gw_E ha) hE v hv
      · rw [List.mem_singleton.1 hv]; exact gw_close
theorem hd_R {x : Rw} {X R : Tks} (hX : Tk (wordsR x) X) : isW w_close (X ++ R) = false := by
  unfold wordsR headW at hX
  split at hX
  · obtain ⟨q1, X, hXe, hXn⟩ := Tk.cons hX; subst hXe; clear hX; have hX := hXn; clear hXn
    show ((tokW w_on).w == w_close) = false; decide
  · split at hX
    · obtain ⟨q1, X, hXe, hXn⟩ := Tk.cons hX; subst hXe; clear hX; have hX := hXn; clear hXn
      show ((tokW w_any).w == w_close) = false; decide
    · obtain ⟨q1, X, hXe, hXn⟩ := Tk.cons hX; subst hXe; clear hX; have hX := hXn; clear hXn
      show ((tokW w_on).w == w_close) = false; decide
theorem pState_tk (x : Sta) (X R : Tks) (h : okS x = true) (hX : Tk (wordsS x) X) : pState (X ++ R) = .ok x R := by
  unfold okS at h
  rw [Bool.and_eq_true] at h
  obtain ⟨g1, k1⟩ := gw_nm h.1
  obtain ⟨q1, X, hXe, hXn⟩ := Tk.cons hX; subst hXe; clear hX; have hX := hXn; clear hXn
  obtain ⟨q2, X, hXe, hXn⟩ := Tk.cons hX; subst hXe; clear hX; have hX := hXn; clear hXn
  show (pass w_state ((tokW w_state, q1) :: (tokW x.name, q2) :: (X ++ R))).bind _ = _
  rw [pass_tk gw_word, PR.bind_ok, tk_tk k1, PR.bind_ok, block_tk pRow_eats pRow_tk (fun a X R _ => hd_R) x.rows X R h.2 hX, PR.bind_ok, g1.2]
theorem gw_S {x : Sta} (h : okS x = true) : ∀ v ∈ wordsS x, GW v := by
  unfold okS at h
  rw [Bool.and_eq_true] at h
  intro v hv
  unfold wordsS at hv
  rcases List.mem_append.1 hv with hv | hv
  · simp only [List.mem_cons, List.not_mem_nil, or_false] at hv
    rcases hv with rfl | rfl | rfl
    · exact gw_word
    · exact (gw_nm h.1).1
    · exact gw_open
  · rcases List.mem_append.1 hv with hv | hv
    · exact gw_flat (fun a ha => gw_R ha) h.2 v hv
    · rw [List.mem_singleton.1 hv]; exact gw_close
theorem hd_S {x : Sta} {X R : Tks} (hX : Tk (wordsS x) X) : hw (X ++ R) = w_state := by
  obtain ⟨q1, X, hXe, hXn⟩ := Tk.cons hX; subst hXe; clear hX; have hX := hXn; clear hXn
  show (tokW w_state).w = w_state; decide
theorem okC_parts {x : Cs} (h : okC x = true) : (x.reason = [] ∨ isNm x.reason = true) ∧ ∃ i : Nat, i < 4 ∧ x.act = (i : Int) + 1 ∧ pickW dirs (x.act - 1) = dirs.getD i [] := by
  unfold okC at h
  simp only [Bool.and_eq_true, Bool.or_eq_true, decide_eq_true_eq] at h
  obtain ⟨h1, h2⟩ := h
  obtain ⟨a1, a2⟩ := (okP_iff _ _).1 h2
  have e : (dirs.length : Int) = 4 := rfl
  refine ⟨h1, (x.act - 1).toNat, by omega, by omega, ?_⟩
  have : x.act - 1 = ((x.act - 1).toNat : Int) := by omega
  rw [this, pick_eq (by have : dirs.length = 4 := rfl; omega)]
  simp
theorem pCase_tk (x : Cs) (X R : Tks) (h : okC x = true) (hX : Tk (wordsC x) X) : pCase (X ++ R) = .ok x R := by
  obtain ⟨hr, i, hi, ha, hp⟩ := okC_parts h
  obtain ⟨j1, j2, j3⟩ := dirs_idx i hi
  unfold wordsC at hX
  rw [hp] at hX
  obtain ⟨reason, z⟩ := x
  dsimp only at hX hr ha
  by_cases h0 : reason = []
  · subst h0
    rw [if_pos rfl] at hX
    obtain ⟨q1, X, hXe, hXn⟩ := Tk.cons hX; subst hXe; clear hX; have hX := hXn; clear hXn
    obtain ⟨q2, X, hXe, hXn⟩ := Tk.cons hX; subst hXe; clear hX; have hX := hXn; clear hXn
    obtain ⟨q3, X, hXe, hXn⟩ := Tk.cons hX; subst hXe; clear hX; have hX := hXn; clear hXn
    have := hX.nil; subst this
    show (ch [w_case, w_else] ((tokW w_else, q1) :: (tokW (dirs.getD i []), q2) :: (tokW w_semi, q3) :: R)).bind _ = _
    rw [ch_tk gw_word (by decide), PR.bind_ok, if_neg (by decide), ch_tk (gw_nm j3).1 j2, PR.bind_ok, pass_tk gw_semi, PR.bind_ok, j1, ← ha]
  · rw [if_neg h0] at hX
    obtain ⟨g1, k1⟩ := gw_nm (hr.resolve_left h0)
    obtain ⟨q1, X, hXe, hXn⟩ := Tk.cons hX; subst hXe; clear hX; have hX := hXn; clear hXn
    obtain ⟨q0, X, hXe, hXn⟩ := Tk.cons hX; subst hXe; clear hX; have hX := hXn; clear hXn
    obtain ⟨q2, X, hXe, hXn⟩ := Tk.cons hX; subst hXe; clear hX; have hX := hXn; clear hXn
    obtain ⟨q3, X, hXe, hXn⟩ := Tk.cons hX; subst hXe; clear hX; have hX := hXn; clear hXn
    have := hX.nil; subst this
    show (ch [w_case, w_else] ((tokW w_case, q1) :: (tokW reason, q0) :: (tokW (dirs.getD i []), q2) :: (tokW w_semi, q3) :: R)).bind _ = _
    rw [ch_tk gw_word (by decide), PR.bind_ok, if_pos (by decide), tk_tk k1, PR.bind_ok, ch_tk (gw_nm j3).1 j2, PR.bind_ok, pass_tk gw_semi, PR.bind_ok, j1, ← ha, g1.2]
theorem gw_C {x : Cs} (h : okC x = true) : ∀ v ∈ wordsC x, GW v := by
  obtain ⟨hr, i, hi, ha, hp⟩ := okC_parts h
  obtain ⟨j1, j2, j3⟩ := dirs_idx i hi
  intro v hv
  unfold wordsC at hv
  rw [hp] at hv
  rcases List.mem_append.1 hv with hv | hv
  · split at hv
    · rw [List.mem_singleton.1 hv]; exact gw_word
    · rename_i h0
      simp only [List.mem_cons, List.not_mem_nil, or_false] at hv
      rcases hv with rfl | rfl
      · exact gw_word
      · exact (gw_nm (hr.resolve_left h0)).1
  · simp only [List.mem_cons, List.not_mem_nil, or_false] at hv
    rcases hv with rfl | rfl
    · exact (gw_nm j3).1
    · exact gw_semi
theorem hd_C {x : Cs} {X R : Tks} (hX : Tk (wordsC x) X) : noCase (X ++ R) = false := by
  unfold wordsC at hX
  split at hX
  · obtain ⟨q1, X, hXe, hXn⟩ := Tk.cons hX; subst hXe; clear hX; have hX := hXn; clear hXn
    show (!((tokW w_else).w == w_case || (tokW w_else).w == w_else)) = false; decide
  · obtain ⟨q1, X, hXe, hXn⟩ := Tk.cons hX; subst hXe; clear hX; have hX := hXn; clear hXn
    show (!((tokW w_case).w == w_case || (tokW w_case).w == w_else)) = false; decide
theorem pKind_tk (x : Kd) (X R : Tks) (h : okK x = true) (hX : Tk (wordsK x) X) : pKind (X ++ R) = .ok x R := by
  unfold okK at h
  simp only [Bool.and_eq_true] at h
  obtain ⟨⟨hn, hl, hw'⟩, hC, hS⟩ := h
  obtain ⟨g1, k1⟩ := gw_nm hn
  obtain ⟨g2, k2, e2⟩ := gw_itoa hl
  obtain ⟨g3, k3, e3⟩ := gw_itoa hw'
  obtain ⟨q1, X, hXe, hXn⟩ := Tk.cons hX; subst hXe; clear hX; have hX := hXn; clear hXn
  obtain ⟨q2, X, hXe, hXn⟩ := Tk.cons hX; subst hXe; clear hX; have hX := hXn; clear hXn
  obtain ⟨q3, X, hXe, hXn⟩ := Tk.cons hX; subst hXe; clear hX; have hX := hXn; clear hXn
  obtain ⟨q4, X, hXe, hXn⟩ := Tk.cons hX; subst hXe; clear hX; have hX := hXn; clear hXn
  obtain ⟨q5, X, hXe, hXn⟩ := Tk.cons hX; subst hXe; clear hX; have hX := hXn; clear hXn
  obtain ⟨q6, X, hXe, hXn⟩ := Tk.cons hX; subst hXe; clear hX; have hX := hXn; clear hXn
  obtain ⟨q7, X, hXe, hXn⟩ := Tk.cons hX; subst hXe; clear hX; have hX := hXn; clear hXn
  obtain ⟨q8, X, hXe, hXn⟩ := Tk.cons hX; subst hXe; clear hX; have hX := hXn; clear hXn
  replace hX : Tk (x.cases.flatMap wordsC ++ (x.states.flatMap wordsS ++ [w_close])) X := hX
  obtain ⟨X1, X2, rfl, hX1, hX2⟩ := Tk.app hX
  obtain ⟨X3, X4, rfl, hX3, hX4⟩ := Tk.app hX2
  obtain ⟨q9, X, hXe, hXn⟩ := hX4.cons; subst hXe; have hX := hXn; clear hXn
  have := hX.nil; subst this
  show (pass w_kind ((tokW w_kind, q1) :: (tokW x.name, q2) :: (tokW w_open, q3) :: (tokW w_limit, q4) :: (tokW (Lib.itoa x.limit), q5) :: (tokW w_in, q6) :: (tokW (Lib.itoa x.within), q7) :: (tokW w_semi, q8) :: (X1 ++ (X3 ++ [(tokW w_close, q9)]) ++ R))).bind _ = _
  have eL : ∀ T, pLimit ((tokW w_limit, q4) :: (tokW (Lib.itoa x.limit), q5) :: (tokW w_in, q6) :: (tokW (Lib.itoa x.within), q7) :: (tokW w_semi, q8) :: T) = .ok (x.limit, x.within) T := fun T => by
    unfold pLimit
    rw [if_pos (show hw ((tokW w_limit, q4) :: (tokW (Lib.itoa x.limit), q5) :: (tokW w_in, q6) :: (tokW (Lib.itoa x.within), q7) :: (tokW w_semi, q8) :: T) = w_limit from (by decide : (tokW w_limit).w = w_limit)), pass_tk gw_word, PR.bind_ok, tk_tk k2, PR.bind_ok, pass_tk gw_word, PR.bind_ok, tk_tk k3, PR.bind_ok, pass_tk gw_semi, PR.bind_ok, e2, e3]
  have eC : noCase (X3 ++ ((tokW w_close, q9) :: R)) = true := by
    cases hs : x.states with
    | nil =>
      rw [hs] at hX3
      have := Tk.nil hX3; subst this
      show (!((tokW w_close).w == w_case || (tokW w_close).w == w_else)) = true; decide
    | cons s S =>
      rw [hs, List.flatMap_cons] at hX3
      obtain ⟨Y1, Y2, rfl, hY, _⟩ := hX3.app
      rw [List.append_assoc]
      unfold noCase
      rw [hd_S hY]; decide
  rw [pass_tk gw_word, PR.bind_ok, tk_tk k1, PR.bind_ok, pass_tk gw_open, PR.bind_ok, eL, PR.bind_ok, List.append_assoc, List.append_assoc, List.singleton_append, Many_tk pCase_eats pCase_tk (fun a X R _ => hd_C) x.cases X1 _ hC hX1 eC, PR.bind_ok,
    Many_tk pState_eats pState_tk (fun a X R _ hh => by unfold isW; rw [hd_S hh]; decide) x.states X3 _ hS hX3 (by show ((tokW w_close).w == w_close) = true; decide), PR.bind_ok, pass_tk gw_close, PR.bind_ok, g1.2]
theorem gw_K {x : Kd} (h : okK x = true) : ∀ v ∈ wordsK x, GW v := by
  unfold okK at h
  simp only [Bool.and_eq_true] at h
  obtain ⟨⟨hn, hl, hw'⟩, hC, hS⟩ := h
  intro v hv
  unfold wordsK at hv
  rcases List.mem_append.1 hv with hv | hv
  · simp only [List.mem_cons, List.not_mem_nil, or_false] at hv
    rcases hv with rfl | rfl | rfl | rfl | rfl | rfl | rfl | rfl
    · exact gw_word
    · exact (gw_nm hn).1
    · exact gw_open
    · exact gw_word
    · exact (gw_itoa hl).1
    · exact gw_word
    · exact (gw_itoa hw').1
    · exact gw_semi
  · rcases List.mem_append.1 hv with hv | hv
    · exact gw_flat (fun a ha => gw_C ha) hC v hv
    · rcases List.mem_append.1 hv with hv | hv
      · exact gw_flat (fun a ha => gw_S ha) hS v hv
      · rw [List.mem_singleton.1 hv]; exact gw_close
theorem hd_K {x : Kd} {X R : Tks} (hX : Tk (wordsK x) X) : (X ++ R).isEmpty = false := by
  obtain ⟨q1, X, hXe, hXn⟩ := Tk.cons hX; subst hXe; clear hX; have hX := hXn; clear hXn
  rfl
/-- What is written is read as it was. -/
theorem prog_back (P : List Kd) (h : P.all okK = true) (hl : (joinW (P.flatMap wordsK)).length ≤ 16384) : prog (joinW (P.flatMap wordsK)) = .ok P := by
  obtain ⟨h1, h2⟩ := LX_join (joinW (P.flatMap wordsK)).length (P.flatMap wordsK) (gw_flat (fun a ha => gw_K ha) h)
  have hw' : whole (joinW (P.flatMap wordsK)) = LX (joinW (P.flatMap wordsK)).length (joinW (P.flatMap wordsK)) := if_neg (by omega)
  unfold prog
  rw [hw', h2, if_pos rfl]
  have e := Many_tk pKind_eats pKind_tk (stop := fun T => T.isEmpty) (fun a X R _ => hd_K) P _ [] h h1 rfl
  rw [List.append_nil] at e
  have e' : pProg (LX (joinW (P.flatMap wordsK)).length (joinW (P.flatMap wordsK))).1 = .ok P [] := e
  rw [e']
theorem out_back (P : List Kd) (h : outE P = 0) : prog (outT P) = .ok P := by
  have e : outT P = joinW (P.flatMap wordsK) := if_pos h
  unfold outE at h
  obtain ⟨h1, h2⟩ := er_zero h
  rw [e]
  exact prog_back P (by simpa using h1) h2
end Go.Proofs.YtnkokonkbklelaaGreatDoor.Ps

/- parse in plain words: what was read can be written, in no more than five bytes for each of its own. -/
set_option linter.unusedVariables false
namespace Go.Proofs.YtnkokonkbklelaaGreatDoor.Ps
open Go.RowKit Go.Proofs.YtnkokonkbklelaaGreatDoor Lx

theorem bind_inv {α β : Type} {p : PR α} {f : α → Tks → PR β} {b : β} {r : Tks} (h : p.bind f = .ok b r) : ∃ a r', p = .ok a r' ∧ f a r' = .ok b r := by
  cases p with
  | ok a r' => exact ⟨a, r', rfl, h⟩
  | bad r' => cases h
theorem ok_inv {α : Type} {a b : α} {r s : Tks} (h : PR.ok a r = PR.ok b s) : a = b ∧ r = s := by cases h; exact ⟨rfl, rfl⟩
def tlen (T : Tks) : Nat := (T.map fun x => x.1.w.length).sum
theorem tlen_c (x : Tok × Nat) (r : Tks) : tlen (x :: r) = x.1.w.length + tlen r := by simp [tlen]
structure Pre (T : Tks) : Prop where
  good : ∀ x ∈ T, Lx.Good x.1
  few : T.length ≤ 20000
theorem Pre.suf {T r : Tks} (h : Pre T) (hs : r <:+ T) : Pre r := ⟨fun x hx => h.good x (hs.subset hx), Nat.le_trans hs.length_le h.few⟩
theorem Pre.of {α : Type} {p : Tks → PR α} {T r : Tks} {a : α} (h : Pre T) (hs : Suf p) (e : p T = .ok a r) : Pre r := h.suf (by have := hs T; rw [e] at this; exact this)

theorem good_pos {t : Tok} (h : Lx.Good t) : 1 ≤ t.w.length := by
  have := (gw_of_good h).1.ne
  cases ht : t.w with
  | nil => exact absurd ht this
  | cons c r => simp
theorem good_nm {t : Tok} (h : Lx.Good t) (k : t.k = 1) : isNm t.w = true := by
  obtain ⟨c, r, ht, h1, h2⟩ := h
  rw [tok_c] at ht
  by_cases hl : isLe c = true
  · rw [if_pos hl] at ht
    split at ht
    · simp at ht
    · rename_i h16
      have ht' := (Prod.mk.inj ht).2
      have e0 : (c :: r).takeWhile isWd = c :: r.takeWhile isWd := by simp [isWd_of_le hl]
      have hw : ∀ x ∈ (c :: r).takeWhile isWd, isWd x = true := take_mem
      rw [e0] at ht' h16 hw
      subst ht'
      show isNm (c :: r.takeWhile isWd) = true
      exact (nm_iff _ _).2 ⟨hl, by simp at h16; omega, List.all_eq_true.2 hw⟩
  · rw [if_neg hl] at ht
    by_cases hd : isDi c = true
    · rw [if_pos hd] at ht
      split at ht
      · have ht' := (Prod.mk.inj ht).2
        subst ht'; cases k
      · simp at ht
    · rw [if_neg hd] at ht
      split at ht
      · have ht' := (Prod.mk.inj ht).2
        subst ht'; cases k
      · simp at ht
theorem good_num {t : Tok} (h : Lx.Good t) (k : t.k = 2) : t.n ≤ 65535 ∧ Dec t.n t.w := by
  obtain ⟨c, r, ht, h1, h2⟩ := h
  rw [tok_c] at ht
  by_cases hl : isLe c = true
  · rw [if_pos hl] at ht
    split at ht
    · simp at ht
    · have ht' := (Prod.mk.inj ht).2
      subst ht'; cases k
  · rw [if_neg hl] at ht
    by_cases hd : isDi c = true
    · rw [if_pos hd] at ht
      split at ht
      · rename_i h3
        have ht' := (Prod.mk.inj ht).2
        have e0 : (c :: r).takeWhile isWd = c :: r.takeWhile isWd := by simp [isWd_of_di hd]
        rw [e0] at ht' h3
        rw [Bool.and_eq_true, decide_eq_true_eq] at h3
        subst ht'
        exact ⟨h3.2, ⟨h3.1, by simp, rfl⟩⟩
      · simp at ht
    · rw [if_neg hd] at ht
      split at ht
      · have ht' := (Prod.mk.inj ht).2
        subst ht'; cases k
      · simp at ht
theorem vl_lt (l : Wd) (a : Nat) (h : l.all isDi = true) : vl a l < (a + 1) * 10 ^ l.length := by
  induction l generalizing a with
  | nil => show a < _; simp
  | cons c r ih =>
    rw [List.all_cons, Bool.and_eq_true] at h
    have hd : 48 ≤ c.toNat ∧ c.toNat ≤ 57 := by simpa [isDi] using h.1
    have := ih (a * 10 + (c.toNat - 48)) h.2
    rw [vl_c, List.length_cons, Nat.pow_succ]
    have h2 : (a * 10 + (c.toNat - 48) + 1) * 10 ^ r.length ≤ (a + 1) * 10 * 10 ^ r.length := Nat.mul_le_mul_right _ (by omega)
    have h3 : (a + 1) * 10 * 10 ^ r.length = (a + 1) * (10 ^ r.length * 10) := by rw [Nat.mul_assoc, Nat.mul_comm 10]
    omega
theorem nDigits_le (k u : Nat) (h : u < 10 ^ (k + 1)) : Lib.nDigits u ≤ k + 1 := by
  induction k generalizing u with
  | zero => rw [Lib.nDigits_small (by simpa using h)]; omega
  | succ k ih =>
    by_cases hs : u < 10
    · rw [Lib.nDigits_small hs]; omega
    · rw [Lib.nDigits_big hs]
      have := ih (u / 10) (by rw [Nat.pow_succ] at h; omega)
      omega
theorem itoa_le {n : Nat} {D : Wd} (h : Dec n D) : (Lib.itoa (n : Int)).length ≤ D.length := by
  have h1 := vl_lt D 0 h.all
  rw [h.val] at h1
  rw [Lib.itoa_nonneg, Lib.decDigits_length]
  cases D with
  | nil => exact absurd rfl h.ne
  | cons c r => exact nDigits_le _ _ (by simpa using h1)

/-! ### What a step reads -/
theorem g_tk1 {T r : Tks} {t : Tok} (h : Pre T) (e : tk 1 T = .ok t r) : isNm t.w = true ∧ Pre r ∧ t.w.length + 4 + 5 * tlen r ≤ 5 * tlen T := by
  have hp := h.of (tk_suf 1) e
  cases T with
  | nil => cases e
  | cons x T =>
    rw [tk_c] at e
    split at e
    · rename_i hk
      obtain ⟨rfl, rfl⟩ := ok_inv e
      have hg := h.good x (List.mem_cons_self ..)
      have := good_pos hg
      refine ⟨good_nm hg hk, hp, ?_⟩
      rw [tlen_c]; omega
    · cases e
theorem g_tk2 {T r : Tks} {t : Tok} (h : Pre T) (e : tk 2 T = .ok t r) : okN (t.n : Int) = true ∧ Pre r ∧ (Lib.itoa (t.n : Int)).length + 4 + 5 * tlen r ≤ 5 * tlen T := by
  have hp := h.of (tk_suf 2) e
  cases T with
  | nil => cases e
  | cons x T =>
    rw [tk_c] at e
    split at e
    · rename_i hk
      obtain ⟨rfl, rfl⟩ := ok_inv e
      have hg := h.good x (List.mem_cons_self ..)
      have := good_pos hg
      obtain ⟨g1, g2⟩ := good_num hg hk
      have := itoa_le g2
      refine ⟨(okN_iff _).2 ⟨by omega, by omega⟩, hp, ?_⟩
      rw [tlen_c]; omega
    · cases e
theorem hw_ne {T : Tks} {s : Wd} (hs : s ≠ []) (h : hw T = s) : 5 * s.length + 5 * tlen T.tail = 5 * tlen T := by
  cases T with
  | nil => exact absurd h.symm hs
  | cons x T =>
    have : x.1.w = s := h
    rw [tlen_c, this]
    show 5 * s.length + 5 * tlen T = _
    omega
theorem g_pass {T r : Tks} {s : Wd} {u : Unit} (h : Pre T) (hs : s ≠ []) (e : pass s T = .ok u r) : Pre r ∧ 5 * s.length + 5 * tlen r ≤ 5 * tlen T := by
  have hp := h.of (pass_suf s) e
  unfold pass at e
  split at e
  · rename_i hw'
    obtain ⟨_, rfl⟩ := ok_inv e
    have := hw_ne hs hw'
    exact ⟨hp, by omega⟩
  · cases e
theorem g_ch {T r : Tks} {ws : List Wd} {i : Nat} (h : Pre T) (hs : [] ∉ ws) (e : ch ws T = .ok i r) : i < ws.length ∧ Pre r ∧ 5 * (ws.getD i []).length + 5 * tlen r ≤ 5 * tlen T := by
  have hp := h.of (ch_suf ws) e
  unfold ch at e
  split at e
  · rename_i hm
    obtain ⟨rfl, rfl⟩ := ok_inv e
    have hi := List.idxOf_lt_length_of_mem hm
    have e1 : ws.getD (ws.idxOf (hw T)) [] = hw T := by
      simp [List.getD, List.getElem?_eq_getElem hi]
    have := hw_ne (T := T) (fun h0 => hs (h0 ▸ hm)) rfl
    exact ⟨hi, hp, by rw [e1]; omega⟩
  · cases e
theorem in_small {n : Int} (h : okN n = true) : inW n := by
  obtain ⟨h1, h2⟩ := (okN_iff n).1 h
  unfold inW; omega
theorem g_val {T r : Tks} {v : Int × Int} (h : Pre T) (e : pVal T = .ok v r) : (okV v.1 v.2 = true ∧ inW v.1 ∧ inW v.2) ∧ Pre r ∧ (valW v.1 v.2).length + 1 + 5 * tlen r ≤ 5 * tlen T := by
  unfold pVal at e
  split at e
  · obtain ⟨t, r1, e1, e2⟩ := bind_inv e
    obtain ⟨rfl, rfl⟩ := ok_inv e2
    obtain ⟨g1, g2, g3⟩ := g_tk2 h e1
    have ev : valW 2 (t.n : Int) = Lib.itoa (t.n : Int) := if_pos rfl
    refine ⟨⟨by unfold okV; rw [if_pos rfl]; exact g1, by unfold inW; dsimp only; omega, in_small g1⟩, g2, ?_⟩
    dsimp only; rw [ev]; omega
  · obtain ⟨i, r1, e1, e2⟩ := bind_inv e
    obtain ⟨rfl, rfl⟩ := ok_inv e2
    obtain ⟨g1, g2, g3⟩ := g_ch h (by decide) e1
    have : vals.length = 2 := rfl
    have hi : i = 0 ∨ i = 1 := by omega
    rcases hi with rfl | rfl
    · refine ⟨⟨by decide, by unfold inW; decide, by unfold inW; decide⟩, g2, ?_⟩
      have e1 : (valW ((0 : Nat) : Int) 0).length = 4 := by decide
      have e2 : (vals.getD 0 []).length = 4 := by decide
      dsimp only; rw [e1]; rw [e2] at g3; omega
    · refine ⟨⟨by decide, by unfold inW; decide, by unfold inW; decide⟩, g2, ?_⟩
      have e1 : (valW ((1 : Nat) : Int) 0).length = 4 := by decide
      have e2 : (vals.getD 1 []).length = 4 := by decide
      dsimp only; rw [e1]; rw [e2] at g3; omega
def QE (x : Eff) : Prop := okE x = true ∧ wfE x
theorem nm_mem {s : Wd} (h : isNm s = true) : s.length ≤ 140737488355328 := by have := nm_len h; omega
theorem in_zero : inW 0 := by unfold inW; decide
theorem fin_E {T : Tks} {z : Int} {ref slot name : Wd} {v n d : Int} {w0 : Wd} {r r' : Tks} {u : Unit}
    (hz : inW z) (h1 : ref = [] ∨ isNm ref = true) (h2 : slot = [] ∨ isNm slot = true) (h3 : name = [] ∨ isNm name = true) (hv : inW v) (hn : inW n) (hd : inW d)
    (hok : okE ⟨z, ref, slot, name, v, n, d⟩ = true) (hw : wordsE ⟨z, ref, slot, name, v, n, d⟩ = w0 :: ((parts z).map (partW ⟨z, ref, slot, name, v, n, d⟩) ++ [w_semi]))
    (hr : Pre r) (hc : w0.length + 1 + cost ((parts z).map (partW ⟨z, ref, slot, name, v, n, d⟩)) + 5 * tlen r ≤ 5 * tlen T) (e : pass w_semi r = .ok u r') :
    QE ⟨z, ref, slot, name, v, n, d⟩ ∧ cost (wordsE ⟨z, ref, slot, name, v, n, d⟩) + 5 * tlen r' ≤ 5 * tlen T := by
  have hm : ∀ s : Wd, (s = [] ∨ isNm s = true) → s.length ≤ 140737488355328 := fun s h => by
    rcases h with rfl | h
    · decide
    · exact nm_mem h
  obtain ⟨g1, g2⟩ := g_pass hr (by decide) e
  refine ⟨⟨hok, ⟨hz, hv, hn, hd, hm _ h1, hm _ h2, hm _ h3⟩⟩, ?_⟩
  rw [hw, cost_c, cost_app]
  have : cost [w_semi] = 2 := rfl
  have : w_semi.length = 1 := rfl
  omega
theorem pp_r {l : List UInt8} {e : Eff} {T r : Tks} {x : Eff} (h : pParts (114 :: l) e T = .ok x r) : ∃ t r1, tk 1 T = .ok t r1 ∧ pParts l { e with ref := t.w } r1 = .ok x r := bind_inv ((pParts_r l e T).symm.trans h)
theorem pp_s {l : List UInt8} {e : Eff} {T r : Tks} {x : Eff} (h : pParts (115 :: l) e T = .ok x r) : ∃ t r1, tk 1 T = .ok t r1 ∧ pParts l { e with slot := t.w } r1 = .ok x r := bind_inv ((pParts_s l e T).symm.trans h)
theorem pp_n {l : List UInt8} {e : Eff} {T r : Tks} {x : Eff} (h : pParts (110 :: l) e T = .ok x r) : ∃ t r1, tk 1 T = .ok t r1 ∧ pParts l { e with name := t.w } r1 = .ok x r := bind_inv ((pParts_n l e T).symm.trans h)
theorem pp_d {l : List UInt8} {e : Eff} {T r : Tks} {x : Eff} (h : pParts (100 :: l) e T = .ok x r) : ∃ t r1, tk 2 T = .ok t r1 ∧ pParts l { e with delay := (t.n : Int) } r1 = .ok x r := bind_inv ((pParts_d l e T).symm.trans h)
theorem pp_v {l : List UInt8} {e : Eff} {T r : Tks} {x : Eff} (h : pParts (118 :: l) e T = .ok x r) : ∃ v r1, pVal T = .ok v r1 ∧ pParts l { e with val := v.1, n := v.2 } r1 = .ok x r := bind_inv ((pParts_v l e T).symm.trans h)
theorem g_E {T r : Tks} {x : Eff} (h : Pre T) (e : pEff T = .ok x r) : QE x ∧ cost (wordsE x) + 5 * tlen r ≤ 5 * tlen T := by
  unfold pEff at e
  obtain ⟨i, r1, e1, e⟩ := bind_inv e
  obtain ⟨y, r2, e2, e⟩ := bind_inv e
  obtain ⟨u, r3, e3, e⟩ := bind_inv e
  obtain ⟨rfl, rfl⟩ := ok_inv e
  obtain ⟨hi, h1, c1⟩ := g_ch h (by decide) e1
  have hL : effw.length = 12 := rfl
  have ic : i = 0 ∨ i = 1 ∨ i = 2 ∨ i = 3 ∨ i = 4 ∨ i = 5 ∨ i = 6 ∨ i = 7 ∨ i = 8 ∨ i = 9 ∨ i = 10 ∨ i = 11 := by omega
  clear e1 hi hL
  rcases ic with rfl | rfl | rfl | rfl | rfl | rfl | rfl | rfl | rfl | rfl | rfl | rfl
  · obtain ⟨t, s1, f1, e2⟩ := pp_r (show pParts [114, 110, 118] (eff0 1) r1 = .ok y r2 from e2)
    obtain ⟨t2, s2, f2, e2⟩ := pp_n e2
    obtain ⟨v, s3, f3, e2⟩ := pp_v e2
    obtain ⟨rfl, rfl⟩ := ok_inv e2
    obtain ⟨a1, a2, a3⟩ := g_tk1 h1 f1
    obtain ⟨b1, b2, b3⟩ := g_tk1 a2 f2
    obtain ⟨⟨d1, d2, d3⟩, d4, d5⟩ := g_val b2 f3
    have c2 : 5 * 4 + 5 * tlen r1 ≤ 5 * tlen T := c1
    refine fin_E (w0 := w_send) (show inW 1 from in_small (by decide)) (Or.inr a1) (Or.inl rfl) (Or.inr b1) d2 d3 in_zero ?_ rfl d4 ?_ e3
    · simp [okE, okP, parts, okPart, zeroP, eff0, a1, b1, d1]; first | decide | rfl
    · show 4 + 1 + cost [t.w, t2.w, valW v.1 v.2] + _ ≤ _
      simp only [cost_c]; show 4 + 1 + (_ + 1 + (_ + 1 + (_ + 1 + 0))) + _ ≤ _; omega
  · obtain ⟨t, s1, f1, e2⟩ := pp_s (show pParts [115, 110] (eff0 2) r1 = .ok y r2 from e2)
    obtain ⟨t2, s2, f2, e2⟩ := pp_n e2
    obtain ⟨rfl, rfl⟩ := ok_inv e2
    obtain ⟨a1, a2, a3⟩ := g_tk1 h1 f1
    obtain ⟨b1, b2, b3⟩ := g_tk1 a2 f2
    have c2 : 5 * 5 + 5 * tlen r1 ≤ 5 * tlen T := c1
    refine fin_E (w0 := w_spawn) (show inW 2 from in_small (by decide)) (Or.inl rfl) (Or.inr a1) (Or.inr b1) in_zero in_zero in_zero ?_ rfl b2 ?_ e3
    · simp [okE, okP, parts, okPart, zeroP, eff0, a1, b1]; first | decide | rfl
    · show 5 + 1 + cost [t.w, t2.w] + _ ≤ _
      simp only [cost_c]; show 5 + 1 + (_ + 1 + (_ + 1 + 0)) + _ ≤ _; omega
  · obtain ⟨t, s1, f1, e2⟩ := pp_n (show pParts [110] (eff0 3) r1 = .ok y r2 from e2)
    obtain ⟨rfl, rfl⟩ := ok_inv e2
    obtain ⟨a1, a2, a3⟩ := g_tk1 h1 f1
    have c2 : 5 * 6 + 5 * tlen r1 ≤ 5 * tlen T := c1
    refine fin_E (w0 := w_become) (show inW 3 from in_small (by decide)) (Or.inl rfl) (Or.inl rfl) (Or.inr a1) in_zero in_zero in_zero ?_ rfl a2 ?_ e3
    · simp [okE, okP, parts, okPart, zeroP, eff0, a1]; first | decide | rfl
    · show 6 + 1 + cost [t.w] + _ ≤ _
      simp only [cost_c]; show 6 + 1 + (_ + 1 + 0) + _ ≤ _; omega
  · obtain ⟨rfl, rfl⟩ := ok_inv (show PR.ok (eff0 4) r1 = .ok y r2 from e2)
    have c2 : 5 * 5 + 5 * tlen r1 ≤ 5 * tlen T := c1
    refine fin_E (w0 := w_stash) (show inW 4 from in_small (by decide)) (Or.inl rfl) (Or.inl rfl) (Or.inl rfl) in_zero in_zero in_zero (by decide) rfl h1 ?_ e3
    show 5 + 1 + 0 + _ ≤ _; omega
  · obtain ⟨rfl, rfl⟩ := ok_inv (show PR.ok (eff0 5) r1 = .ok y r2 from e2)
    have c2 : 5 * 7 + 5 * tlen r1 ≤ 5 * tlen T := c1
    refine fin_E (w0 := w_unstash) (show inW 5 from in_small (by decide)) (Or.inl rfl) (Or.inl rfl) (Or.inl rfl) in_zero in_zero in_zero (by decide) rfl h1 ?_ e3
    show 7 + 1 + 0 + _ ≤ _; omega
  · obtain ⟨t, s1, f1, e2⟩ := pp_r (show pParts [114] (eff0 6) r1 = .ok y r2 from e2)
    obtain ⟨rfl, rfl⟩ := ok_inv e2
    obtain ⟨a1, a2, a3⟩ := g_tk1 h1 f1
    have c2 : 5 * 5 + 5 * tlen r1 ≤ 5 * tlen T := c1
    refine fin_E (w0 := w_watch) (show inW 6 from in_small (by decide)) (Or.inr a1) (Or.inl rfl) (Or.inl rfl) in_zero in_zero in_zero ?_ rfl a2 ?_ e3
    · simp [okE, okP, parts, okPart, zeroP, eff0, a1]; first | decide | rfl
    · show 5 + 1 + cost [t.w] + _ ≤ _
      simp only [cost_c]; show 5 + 1 + (_ + 1 + 0) + _ ≤ _; omega
  · obtain ⟨t, s1, f1, e2⟩ := pp_r (show pParts [114] (eff0 7) r1 = .ok y r2 from e2)
    obtain ⟨rfl, rfl⟩ := ok_inv e2
    obtain ⟨a1, a2, a3⟩ := g_tk1 h1 f1
    have c2 : 5 * 7 + 5 * tlen r1 ≤ 5 * tlen T := c1
    refine fin_E (w0 := w_unwatch) (show inW 7 from in_small (by decide)) (Or.inr a1) (Or.inl rfl) (Or.inl rfl) in_zero in_zero in_zero ?_ rfl a2 ?_ e3
    · simp [okE, okP, parts, okPart, zeroP, eff0, a1]; first | decide | rfl
    · show 7 + 1 + cost [t.w] + _ ≤ _
      simp only [cost_c]; show 7 + 1 + (_ + 1 + 0) + _ ≤ _; omega
  · obtain ⟨t, s1, f1, e2⟩ := pp_d (show pParts [100, 110, 118] (eff0 8) r1 = .ok y r2 from e2)
    obtain ⟨t2, s2, f2, e2⟩ := pp_n e2
    obtain ⟨v, s3, f3, e2⟩ := pp_v e2
    obtain ⟨rfl, rfl⟩ := ok_inv e2
    obtain ⟨a1, a2, a3⟩ := g_tk2 h1 f1
    obtain ⟨b1, b2, b3⟩ := g_tk1 a2 f2
    obtain ⟨⟨d1, d2, d3⟩, d4, d5⟩ := g_val b2 f3
    have c2 : 5 * 5 + 5 * tlen r1 ≤ 5 * tlen T := c1
    refine fin_E (w0 := w_timer) (show inW 8 from in_small (by decide)) (Or.inl rfl) (Or.inl rfl) (Or.inr b1) d2 d3 (in_small a1) ?_ rfl d4 ?_ e3
    · simp [okE, okP, parts, okPart, zeroP, eff0, a1, b1, d1]; first | decide | rfl
    · show 5 + 1 + cost [Lib.itoa (t.n : Int), t2.w, valW v.1 v.2] + _ ≤ _
      simp only [cost_c]; show 5 + 1 + (_ + 1 + (_ + 1 + (_ + 1 + 0))) + _ ≤ _; omega
  · obtain ⟨t, s1, f1, e2⟩ := pp_n (show pParts [110] (eff0 9) r1 = .ok y r2 from e2)
    obtain ⟨rfl, rfl⟩ := ok_inv e2
    obtain ⟨a1, a2, a3⟩ := g_tk1 h1 f1
    have c2 : 5 * 6 + 5 * tlen r1 ≤ 5 * tlen T := c1
    refine fin_E (w0 := w_cancel) (show inW 9 from in_small (by decide)) (Or.inl rfl) (Or.inl rfl) (Or.inr a1) in_zero in_zero in_zero ?_ rfl a2 ?_ e3
    · simp [okE, okP, parts, okPart, zeroP, eff0, a1]; first | decide | rfl
    · show 6 + 1 + cost [t.w] + _ ≤ _
      simp only [cost_c]; show 6 + 1 + (_ + 1 + 0) + _ ≤ _; omega
  · obtain ⟨t, s1, f1, e2⟩ := pp_s (show pParts [115] (eff0 10) r1 = .ok y r2 from e2)
    obtain ⟨rfl, rfl⟩ := ok_inv e2
    obtain ⟨a1, a2, a3⟩ := g_tk1 h1 f1
    have c2 : 5 * 4 + 5 * tlen r1 ≤ 5 * tlen T := c1
    refine fin_E (w0 := w_hold) (show inW 10 from in_small (by decide)) (Or.inl rfl) (Or.inr a1) (Or.inl rfl) in_zero in_zero in_zero ?_ rfl a2 ?_ e3
    · simp [okE, okP, parts, okPart, zeroP, eff0, a1]; first | decide | rfl
    · show 4 + 1 + cost [t.w] + _ ≤ _
      simp only [cost_c]; show 4 + 1 + (_ + 1 + 0) + _ ≤ _; omega
  · obtain ⟨rfl, rfl⟩ := ok_inv (show PR.ok (eff0 11) r1 = .ok y r2 from e2)
    have c2 : 5 * 4 + 5 * tlen r1 ≤ 5 * tlen T := c1
    refine fin_E (w0 := w_stop) (show inW 11 from in_small (by decide)) (Or.inl rfl) (Or.inl rfl) (Or.inl rfl) in_zero in_zero in_zero (by decide) rfl h1 ?_ e3
    show 4 + 1 + 0 + _ ≤ _; omega
  · obtain ⟨t, s1, f1, e2⟩ := pp_n (show pParts [110] (eff0 12) r1 = .ok y r2 from e2)
    obtain ⟨rfl, rfl⟩ := ok_inv e2
    obtain ⟨a1, a2, a3⟩ := g_tk1 h1 f1
    have c2 : 5 * 4 + 5 * tlen r1 ≤ 5 * tlen T := c1
    refine fin_E (w0 := w_fail) (show inW 12 from in_small (by decide)) (Or.inl rfl) (Or.inl rfl) (Or.inr a1) in_zero in_zero in_zero ?_ rfl a2 ?_ e3
    · simp [okE, okP, parts, okPart, zeroP, eff0, a1]; first | decide | rfl
    · show 4 + 1 + cost [t.w] + _ ≤ _
      simp only [cost_c]; show 4 + 1 + (_ + 1 + 0) + _ ≤ _; omega

/-! ### Rows of them -/
theorem g_many {α : Type} {p : Tks → PR α} {Q : α → Prop} {wr : α → List Wd} (hE : Eats p) (hS : Suf p) (h : ∀ {T r : Tks} {a : α}, Pre T → p T = .ok a r → Q a ∧ cost (wr a) + 5 * tlen r ≤ 5 * tlen T) (stop : Tks → Bool)
    (n : Nat) (T r : Tks) (L : List α) (hn : T.length ≤ n) (hT : Pre T) (e : Many p stop T = .ok L r) : (∀ a ∈ L, Q a) ∧ L.length + r.length ≤ T.length ∧ cost (L.flatMap wr) + 5 * tlen r ≤ 5 * tlen T := by
  induction n generalizing T L with
  | zero =>
    rw [Many_eq hE] at e
    split at e
    · obtain ⟨rfl, rfl⟩ := ok_inv e
      exact ⟨by simp, by simp, by simp [cost]⟩
    · obtain ⟨a, r1, e1, e⟩ := bind_inv e
      have := hE T a r1 e1
      omega
  | succ n ih =>
    rw [Many_eq hE] at e
    split at e
    · obtain ⟨rfl, rfl⟩ := ok_inv e
      exact ⟨by simp, by simp, by simp [cost]⟩
    · obtain ⟨a, r1, e1, e⟩ := bind_inv e
      obtain ⟨l, r2, e2, e⟩ := bind_inv e
      obtain ⟨rfl, rfl⟩ := ok_inv e
      have hl := hE T a r1 e1
      obtain ⟨q1, q2⟩ := h hT e1
      obtain ⟨i1, i2, i3⟩ := ih r1 l (by omega) (hT.of hS e1) e2
      refine ⟨fun b hb => ?_, by simp; omega, ?_⟩
      · rcases List.mem_cons.1 hb with rfl | hb
        · exact q1
        · exact i1 b hb
      · rw [List.flatMap_cons, cost_app]; omega
theorem g_block {α : Type} {p : Tks → PR α} {Q : α → Prop} {wr : α → List Wd} (hE : Eats p) (hS : Suf p) (h : ∀ {T r : Tks} {a : α}, Pre T → p T = .ok a r → Q a ∧ cost (wr a) + 5 * tlen r ≤ 5 * tlen T)
    {T r : Tks} {L : List α} (hT : Pre T) (e : block p T = .ok L r) : (∀ a ∈ L, Q a) ∧ L.length ≤ 20000 ∧ cost (w_open :: (L.flatMap wr ++ [w_close])) + 5 * tlen r ≤ 5 * tlen T := by
  obtain ⟨u, r1, e1, e⟩ := bind_inv e
  obtain ⟨l, r2, e2, e⟩ := bind_inv e
  obtain ⟨u', r3, e3, e⟩ := bind_inv e
  obtain ⟨rfl, rfl⟩ := ok_inv e
  obtain ⟨a1, a2⟩ := g_pass hT (by decide) e1
  obtain ⟨b1, b2, b3⟩ := g_many hE hS h _ _ r1 r2 l (Nat.le_refl _) a1 e2
  obtain ⟨c1, c2⟩ := g_pass (a1.of (Many_suf hS _) e2) (by decide) e3
  refine ⟨b1, by have := a1.few; omega, ?_⟩
  rw [cost_c, cost_app]
  have x1 : w_open.length = 1 := rfl
  have x2 : w_close.length = 1 := rfl
  have x3 : cost [w_close] = 2 := rfl
  omega
def QR (x : Rw) : Prop := okR x = true ∧ wfR x ∧ smR x
theorem all_of {α : Type} {f : α → Bool} {L : List α} (h : ∀ a ∈ L, f a = true) : L.all f = true := List.all_eq_true.2 h
theorem g_R {T r : Tks} {x : Rw} (h : Pre T) (e : pRow T = .ok x r) : QR x ∧ cost (wordsR x) + 5 * tlen r ≤ 5 * tlen T := by
  unfold pRow at e
  obtain ⟨i, r1, e1, e⟩ := bind_inv e
  obtain ⟨hi, h1, c1⟩ := g_ch h (by decide) e1
  by_cases hi0 : i = 0
  · subst hi0
    rw [if_pos rfl] at e
    have c2 : 5 * 2 + 5 * tlen r1 ≤ 5 * tlen T := c1
    obtain ⟨t, r2, e2, e⟩ := bind_inv e
    obtain ⟨a1, a2, a3⟩ := g_tk1 h1 e2
    by_cases hk2 : hk r2 = 2
    · rw [if_pos hk2] at e
      obtain ⟨u, r3, e3, e⟩ := bind_inv e
      obtain ⟨b1, b2, b3⟩ := g_tk2 a2 e3
      obtain ⟨E, r4, e4, e⟩ := bind_inv e
      obtain ⟨rfl, rfl⟩ := ok_inv e
      obtain ⟨d1, d2, d3⟩ := g_block pEff_eats pEff_suf g_E b2 e4
      refine ⟨⟨?_, ⟨in_small b1, nm_mem a1, fun e he => (d1 e he).2⟩, by unfold smR; dsimp only; omega⟩, ?_⟩
      · unfold okR okH; dsimp only
        rw [if_pos rfl, a1, b1, all_of (fun e he => (d1 e he).1)]; rfl
      · have hw : wordsR ⟨t.w, true, (u.n : Int), E⟩ = w_on :: t.w :: Lib.itoa (u.n : Int) :: (w_open :: (E.flatMap wordsE ++ [w_close])) := rfl
        have x1 : w_on.length = 2 := rfl
        rw [hw]; simp only [cost_c] at d3 ⊢; omega
    · rw [if_neg hk2] at e
      obtain ⟨E, r4, e4, e⟩ := bind_inv e
      obtain ⟨rfl, rfl⟩ := ok_inv e
      obtain ⟨d1, d2, d3⟩ := g_block pEff_eats pEff_suf g_E a2 e4
      have hne : ¬ t.w = [] := fun h0 => by rw [h0] at a1; cases a1
      refine ⟨⟨?_, ⟨in_zero, nm_mem a1, fun e he => (d1 e he).2⟩, by unfold smR; dsimp only; omega⟩, ?_⟩
      · unfold okR okH; dsimp only
        rw [if_neg (by simp), a1, all_of (fun e he => (d1 e he).1)]; simp
      · have hw : wordsR ⟨t.w, false, 0, E⟩ = w_on :: t.w :: (w_open :: (E.flatMap wordsE ++ [w_close])) := by
          unfold wordsR headW; dsimp only; rw [if_neg (by simp), if_neg hne]; rfl
        have x1 : w_on.length = 2 := rfl
        rw [hw]; simp only [cost_c] at d3 ⊢; omega
  · rw [if_neg hi0] at e
    have hi1 : i = 1 := by have : [w_on, w_any].length = 2 := rfl; omega
    subst hi1
    have c2 : 5 * 3 + 5 * tlen r1 ≤ 5 * tlen T := c1
    obtain ⟨E, r4, e4, e⟩ := bind_inv e
    obtain ⟨rfl, rfl⟩ := ok_inv e
    obtain ⟨d1, d2, d3⟩ := g_block pEff_eats pEff_suf g_E h1 e4
    refine ⟨⟨?_, ⟨in_zero, by dsimp only; decide, fun e he => (d1 e he).2⟩, by unfold smR; dsimp only; omega⟩, ?_⟩
    · unfold okR okH; dsimp only
      rw [if_neg (by simp), all_of (fun e he => (d1 e he).1)]; simp
    · have hw : wordsR ⟨[], false, 0, E⟩ = w_any :: (w_open :: (E.flatMap wordsE ++ [w_close])) := rfl
      have x1 : w_any.length = 3 := rfl
      rw [hw]; simp only [cost_c] at d3 ⊢; omega
def QS (x : Sta) : Prop := okS x = true ∧ wfS x ∧ smS x
theorem g_S {T r : Tks} {x : Sta} (h : Pre T) (e : pState T = .ok x r) : QS x ∧ cost (wordsS x) + 5 * tlen r ≤ 5 * tlen T := by
  unfold pState at e
  obtain ⟨u, r1, e1, e⟩ := bind_inv e
  obtain ⟨t, r2, e2, e⟩ := bind_inv e
  obtain ⟨R, r3, e3, e⟩ := bind_inv e
  obtain ⟨rfl, rfl⟩ := ok_inv e
  obtain ⟨a1, a2⟩ := g_pass h (by decide) e1
  obtain ⟨b1, b2, b3⟩ := g_tk1 a1 e2
  obtain ⟨d1, d2, d3⟩ := g_block pRow_eats pRow_suf g_R b2 e3
  refine ⟨⟨?_, ⟨nm_mem b1, fun e he => (d1 e he).2.1⟩, ⟨by dsimp only; omega, fun e he => (d1 e he).2.2⟩⟩, ?_⟩
  · unfold okS; dsimp only
    rw [b1, all_of (fun e he => (d1 e he).1)]; rfl
  · have hw : wordsS ⟨t.w, R⟩ = w_state :: t.w :: (w_open :: (R.flatMap wordsR ++ [w_close])) := rfl
    have x1 : w_state.length = 5 := rfl
    rw [hw]; simp only [cost_c] at d3 ⊢; omega
def QC (x : Cs) : Prop := okC x = true ∧ wfC x
theorem g_C {T r : Tks} {x : Cs} (h : Pre T) (e : pCase T = .ok x r) : QC x ∧ cost (wordsC x) + 5 * tlen r ≤ 5 * tlen T := by
  have dl : ∀ i : Nat, i < 4 → okP dirs ((i : Int) + 1 - 1) = true ∧ pickW dirs ((i : Int) + 1 - 1) = dirs.getD i [] ∧ inW ((i : Int) + 1) ∧ 1 ≤ (dirs.getD i []).length := by
    intro i hi
    have : i = 0 ∨ i = 1 ∨ i = 2 ∨ i = 3 := by omega
    rcases this with rfl | rfl | rfl | rfl <;> exact ⟨by decide, by decide, by unfold inW; decide, by decide⟩
  unfold pCase at e
  obtain ⟨i, r1, e1, e⟩ := bind_inv e
  obtain ⟨hi, h1, c1⟩ := g_ch h (by decide) e1
  by_cases hi0 : i = 0
  · subst hi0
    rw [if_pos rfl] at e
    have c2 : 5 * 4 + 5 * tlen r1 ≤ 5 * tlen T := c1
    obtain ⟨t, r2, e2, e⟩ := bind_inv e
    obtain ⟨d, r3, e3, e⟩ := bind_inv e
    obtain ⟨u, r4, e4, e⟩ := bind_inv e
    obtain ⟨rfl, rfl⟩ := ok_inv e
    obtain ⟨a1, a2, a3⟩ := g_tk1 h1 e2
    obtain ⟨b1, b2, b3⟩ := g_ch a2 (by decide) e3
    obtain ⟨f1, f2⟩ := g_pass b2 (by decide) e4
    obtain ⟨y1, y2, y3, y4⟩ := dl d b1
    have hne : ¬ t.w = [] := fun h0 => by rw [h0] at a1; cases a1
    refine ⟨⟨?_, ⟨y3, nm_mem a1⟩⟩, ?_⟩
    · unfold okC; dsimp only; rw [y1, a1]; simp
    · have hw : wordsC ⟨t.w, (d : Int) + 1⟩ = w_case :: t.w :: dirs.getD d [] :: [w_semi] := by
        unfold wordsC; dsimp only; rw [if_neg hne, y2]; rfl
      have x1 : w_case.length = 4 := rfl
      have x2 : cost [w_semi] = 2 := rfl
      have x3 : w_semi.length = 1 := rfl
      rw [hw, cost_c, cost_c, cost_c]; omega
  · rw [if_neg hi0] at e
    have hi1 : i = 1 := by have : [w_case, w_else].length = 2 := rfl; omega
    subst hi1
    have c2 : 5 * 4 + 5 * tlen r1 ≤ 5 * tlen T := c1
    obtain ⟨d, r3, e3, e⟩ := bind_inv e
    obtain ⟨u, r4, e4, e⟩ := bind_inv e
    obtain ⟨rfl, rfl⟩ := ok_inv e
    obtain ⟨b1, b2, b3⟩ := g_ch h1 (by decide) e3
    obtain ⟨f1, f2⟩ := g_pass b2 (by decide) e4
    obtain ⟨y1, y2, y3, y4⟩ := dl d b1
    refine ⟨⟨?_, ⟨y3, by dsimp only; decide⟩⟩, ?_⟩
    · unfold okC; dsimp only; rw [y1]; simp
    · have hw : wordsC ⟨[], (d : Int) + 1⟩ = w_else :: dirs.getD d [] :: [w_semi] := by
        unfold wordsC; dsimp only; rw [if_pos rfl, y2]; rfl
      have x1 : w_else.length = 4 := rfl
      have x2 : cost [w_semi] = 2 := rfl
      have x3 : w_semi.length = 1 := rfl
      rw [hw, cost_c, cost_c]; omega
theorem g_limit {T r : Tks} {lw : Int × Int} (h : Pre T) (e : pLimit T = .ok lw r) : (okN lw.1 = true ∧ okN lw.2 = true) ∧ Pre r ∧ cost [w_limit, Lib.itoa lw.1, w_in, Lib.itoa lw.2, w_semi] + 5 * tlen r ≤ 5 * tlen T + 15 := by
  unfold pLimit at e
  split at e
  · obtain ⟨u, r1, e1, e⟩ := bind_inv e
    obtain ⟨a, r2, e2, e⟩ := bind_inv e
    obtain ⟨u2, r3, e3, e⟩ := bind_inv e
    obtain ⟨b, r4, e4, e⟩ := bind_inv e
    obtain ⟨u3, r5, e5, e⟩ := bind_inv e
    obtain ⟨rfl, rfl⟩ := ok_inv e
    obtain ⟨a1, a2⟩ := g_pass h (by decide) e1
    obtain ⟨b1, b2, b3⟩ := g_tk2 a1 e2
    obtain ⟨c1, c2⟩ := g_pass b2 (by decide) e3
    obtain ⟨d1, d2, d3⟩ := g_tk2 c1 e4
    obtain ⟨f1, f2⟩ := g_pass d2 (by decide) e5
    have x1 : w_limit.length = 5 := rfl
    have x2 : w_in.length = 2 := rfl
    have x3 : w_semi.length = 1 := rfl
    have x4 : cost [] = 0 := rfl
    refine ⟨⟨b1, d1⟩, f1, ?_⟩
    dsimp only; simp only [cost_c]; omega
  · obtain ⟨rfl, rfl⟩ := ok_inv e
    refine ⟨⟨by decide, by decide⟩, h, ?_⟩
    have i0 : (Lib.itoa 0).length = 1 := by rw [show (0 : Int) = ((0 : Nat) : Int) from rfl, Lib.itoa_nonneg, Lib.decDigits_length, Lib.nDigits_small (by decide)]
    have i1 : (Lib.itoa 1).length = 1 := by rw [show (1 : Int) = ((1 : Nat) : Int) from rfl, Lib.itoa_nonneg, Lib.decDigits_length, Lib.nDigits_small (by decide)]
    have x1 : w_limit.length = 5 := rfl
    have x2 : w_in.length = 2 := rfl
    have x3 : w_semi.length = 1 := rfl
    have x4 : cost [] = 0 := rfl
    dsimp only; simp only [cost_c]; omega
def QK (x : Kd) : Prop := okK x = true ∧ wfK x ∧ smK x
theorem g_K {T r : Tks} {x : Kd} (h : Pre T) (e : pKind T = .ok x r) : QK x ∧ cost (wordsK x) + 5 * tlen r ≤ 5 * tlen T := by
  unfold pKind at e
  obtain ⟨u, r1, e1, e⟩ := bind_inv e
  obtain ⟨t, r2, e2, e⟩ := bind_inv e
  obtain ⟨u2, r3, e3, e⟩ := bind_inv e
  obtain ⟨lw, r4, e4, e⟩ := bind_inv e
  obtain ⟨C, r5, e5, e⟩ := bind_inv e
  obtain ⟨S, r6, e6, e⟩ := bind_inv e
  obtain ⟨u3, r7, e7, e⟩ := bind_inv e
  obtain ⟨rfl, rfl⟩ := ok_inv e
  obtain ⟨a1, a2⟩ := g_pass h (by decide) e1
  obtain ⟨b1, b2, b3⟩ := g_tk1 a1 e2
  obtain ⟨c1, c2⟩ := g_pass b2 (by decide) e3
  obtain ⟨⟨d1, d2⟩, d3, d4⟩ := g_limit c1 e4
  obtain ⟨f1, f2, f3⟩ := g_many pCase_eats pCase_suf g_C _ _ _ _ _ (Nat.le_refl _) d3 e5
  have p5 := d3.of (Many_suf pCase_suf _) e5
  obtain ⟨g1, g2, g3⟩ := g_many pState_eats pState_suf g_S _ _ _ _ _ (Nat.le_refl _) p5 e6
  obtain ⟨k1, k2⟩ := g_pass (p5.of (Many_suf pState_suf _) e6) (by decide) e7
  have n4 := d3.few
  have n5 := p5.few
  refine ⟨⟨?_, ⟨in_small d1, in_small d2, nm_mem b1, fun c hc => (f1 c hc).2, fun s hs => (g1 s hs).2.1⟩, ⟨by dsimp only; omega, by dsimp only; omega, fun s hs => (g1 s hs).2.2⟩⟩, ?_⟩
  · unfold okK; dsimp only
    rw [b1, d1, d2, all_of (fun c hc => (f1 c hc).1), all_of (fun s hs => (g1 s hs).1)]; rfl
  · have hw : wordsK ⟨t.w, lw.1, lw.2, C, S⟩ = w_kind :: t.w :: w_open :: ([w_limit, Lib.itoa lw.1, w_in, Lib.itoa lw.2, w_semi] ++ (C.flatMap wordsC ++ (S.flatMap wordsS ++ [w_close]))) := rfl
    have x1 : w_kind.length = 4 := rfl
    have x2 : w_open.length = 1 := rfl
    have x3 : w_close.length = 1 := rfl
    have x4 : cost [w_close] = 2 := rfl
    rw [hw]; simp only [cost_c, cost_app] at d4 ⊢; simp only [cost_c] at x4; omega
theorem LX_tlen (N k : Nat) (m : Wd) (hk : m.length ≤ k) : tlen (LX N m).1 ≤ m.length := by
  induction k generalizing m with
  | zero =>
    have : m = [] := List.eq_nil_of_length_eq_zero (by omega)
    subst this
    rw [LX_nil rfl]; exact Nat.zero_le _
  | succ k ih =>
    cases hs : sk false m with
    | nil => rw [LX_nil hs]; exact Nat.zero_le _
    | cons c r =>
      by_cases h0 : (tok (c :: r)).1 = 0
      · rw [LX_tok hs h0]
        have hl1 := sk_le false m
        rw [hs] at hl1
        obtain ⟨hp, hpre⟩ := tok_pos h0
        have hpl := hpre.length_le
        have := ih ((c :: r).drop (tok (c :: r)).2.w.length) (by simp at hl1 hpl ⊢; omega)
        rw [tlen_c]
        simp at this hl1 hpl ⊢
        omega
      · rw [LX_bad hs h0]; exact Nat.zero_le _
theorem prog_inv {l : Wd} {P : List Kd} (h : prog l = .ok P) : l.length ≤ 16384 ∧ whole l = LX l.length l ∧ (LX l.length l).2.1 = 0 ∧ pProg (LX l.length l).1 = .ok P [] := by
  have h16 : l.length ≤ 16384 := by
    rcases Nat.lt_or_ge 16384 l.length with hh | hh
    · unfold prog whole at h; rw [if_pos hh] at h; cases h
    · exact hh
  have hw : whole l = LX l.length l := if_neg (by omega)
  unfold prog at h
  rw [hw] at h
  split at h
  · rename_i h0
    refine ⟨h16, hw, h0, ?_⟩
    cases hq : pProg (LX l.length l).1 with
    | ok P' r =>
      rw [hq] at h; cases h
      rw [pProg_ok _ _ (Nat.le_refl _) _ r hq]
    | bad r => rw [hq] at h; cases h
  · cases h
/-- What was read can be written. -/
theorem prog_write {l : Wd} {P : List Kd} (h : prog l = .ok P) : P.all okK = true ∧ wfP P ∧ smP P ∧ (joinW (P.flatMap wordsK)).length ≤ 5 * l.length := by
  obtain ⟨h16, hw, h0, hp⟩ := prog_inv h
  have hT : Pre (LX l.length l).1 := ⟨good_LX _ _ l (Nat.le_refl _), by have := whole_len l; rw [hw] at this; omega⟩
  obtain ⟨g1, g2, g3⟩ := g_many pKind_eats pKind_suf g_K _ _ _ _ _ (Nat.le_refl _) hT hp
  have hl := LX_tlen l.length _ l (Nat.le_refl _)
  have hj := joinW_cost (P.flatMap wordsK)
  have h2 := hT.few
  refine ⟨all_of (fun k hk => (g1 k hk).1), fun k hk => (g1 k hk).2.1, ⟨by omega, fun k hk => (g1 k hk).2.2⟩, by omega⟩
theorem read_out {l : Wd} {P : List Kd} (h : prog l = .ok P) : outE P = 0 ∨ (outE P = 5 ∧ 16384 < 5 * l.length) := by
  obtain ⟨h1, _, _, h4⟩ := prog_write h
  unfold outE er
  rw [h1]
  by_cases hl : 16384 < (joinW (P.flatMap wordsK)).length
  · right; exact ⟨by rw [if_neg (by simp), if_pos hl], by omega⟩
  · left; rw [if_neg (by simp), if_neg hl]
end Go.Proofs.YtnkokonkbklelaaGreatDoor.Ps
