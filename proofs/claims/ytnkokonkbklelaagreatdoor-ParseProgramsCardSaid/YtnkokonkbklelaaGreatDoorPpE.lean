/- parse, the document's reader: blocks in plain words; what a row comes to. -/
import Derived.Test.YtnkokonkbklelaaGreatDoorPpD
set_option linter.unusedSimpArgs false
set_option linter.unusedVariables false
namespace Go.Proofs.YtnkokonkbklelaaGreatDoor.Ps
open Go.RowKit Go.Proofs.YtnkokonkbklelaaGreatDoor Lx

theorem Tx.keepRow {w0 w w5 : World} {R : Nat} {X : Tks} {st : DSt} {a : Option Addr} {n c : Nat} (h : Tx w R X st) (hR : R < w0.heap.size) (fr : New w0 (.slice a n c)) (o : Only (RowOf a) w w5) : Tx w5 R X st := by
  have hn : ∀ g, RowOf a g → w0.heap.size ≤ g := fun g hg => by
    obtain ⟨x, rfl, rfl⟩ := hg
    exact fr x.block rfl
  obtain ⟨a', n', c', h1, h2, h3, h4, h5, h6⟩ := h
  exact ⟨a', n', c', (o.block R (lt_of_block h1) (fun q => by have := hn R q; omega)).trans h1, h2, h3, h4, h5.keep o (fun b hb _ q => by have := hn b q; omega), h6⟩
theorem Tx.ofT {w : World} {R : Nat} {X : Tks} {st : DSt} (h : Tx w R X st) : OfT 63 (At R) w := by
  obtain ⟨a', n', c', h1, _⟩ := h
  exact ofT_at h1

/-! ### Blocks -/
def blkF {α : Type} (p : Tks → PR α) (T : Tks) : PR (List α) := (Many p (isW w_close) T).bind fun l r => (pass w_close r).bind fun _ r' => .ok l r'
theorem blkF_stop {α : Type} {p : Tks → PR α} (he : Eats p) {T : Tks} (h : hw T = w_close) : blkF p T = .ok [] T.tail := by
  unfold blkF
  rw [Many_eq he, if_pos (by unfold isW; rw [h]; rfl)]
  show (pass w_close T).bind _ = _
  unfold pass
  rw [if_pos h]
  rfl
theorem blkF_more {α : Type} {p : Tks → PR α} (he : Eats p) {T : Tks} (h : hw T ≠ w_close) : blkF p T = (p T).bind fun a r => (blkF p r).bind fun l r' => .ok (a :: l) r' := by
  unfold blkF
  rw [Many_eq he, if_neg (by unfold isW; simpa using h)]
  cases p T with
  | bad r => rfl
  | ok a r =>
    simp only [PR.bind_ok]
    cases Many p (isW w_close) r with
    | bad r1 => rfl
    | ok l r1 =>
      simp only [PR.bind_ok]
      cases pass w_close r1 <;> rfl
theorem eff_lift {st : DSt} {x : Eff} (hv : Val pEffB st x) : lift pEff st = lift (pass w_semi) (lift pEffB st) ∧ Val pEff st x := by
  have e : pEff = fun T => (pEffB T).bind fun e r => (pass w_semi r).bind fun _ r' => .ok e r' := funext pEff_eq
  constructor
  · rw [e, lift_bind hv, lift_bind (pass_val w_semi _), lift_ret]
  · rw [e]
    exact Val.bind hv (Val.bind (pass_val w_semi _) (Val.ret _ _))
/-- What is left to the reader: tokens, and one turn more as long as it isn't bad. -/
def meas (st : DSt) : Nat := st.2.length + (if st.1 = true then 0 else 1)
theorem meas_lift {α : Type} {p : Tks → PR α} (hs : Suf p) (he : Eats p) {st : DSt} (hb : st.1 = false) : meas (lift p st) + 1 ≤ meas st := by
  obtain ⟨b, T⟩ := st
  simp only at hb
  subst hb
  rw [lift_go]
  have h1 := hs T
  have h2 := he T
  cases hp : p T with
  | ok a r =>
    have := h2 a r hp
    simp [stOf, meas]
    omega
  | bad r =>
    rw [hp] at h1
    have : r.length ≤ T.length := h1.length_le
    simp [stOf, meas]
    omega
/-- The same, read off the reader's cells. -/
def leftD (R : Nat) (w : World) : Nat := match w.heap[R]? with
  | some (.cells cs _ _) => match cs.toList with
    | [.slice _ n _, .int _ q, .bool b] => (n - q.toNat) + (if b = true then 0 else 1)
    | _ => 0
  | _ => 0
theorem Tx.leftD {w : World} {R : Nat} {X : Tks} {st : DSt} (h : Tx w R X st) : leftD R w = meas st := by
  have hs := h.suf.length_le
  obtain ⟨a', n', c', h1, h2, _⟩ := h
  unfold Ps.leftD meas
  rw [h1]
  simp only
  subst h2
  rw [Int.toNat_natCast]
  congr 1
  omega
theorem Gw.congr {α : Type} {P0 P P' : Tks → PR α} {st0 st : DSt} (h : Gw P0 st0 P st) (e : st.1 = false → P st.2 = P' st.2) : Gw P0 st0 P' st :=
  ⟨h.1.trans (lift_congr e), fun a r h1 h2 => by obtain ⟨hb, he⟩ := h.2 a r h1 h2; exact ⟨hb, e hb ▸ he⟩⟩

/-! ### A row -/
def rowTl (tag : Wd) (only : Bool) (n : Int) (T : Tks) : PR Rw := (block pEff T).bind fun E r => .ok ⟨tag, only, n, E⟩ r
def rowTf (tag : Wd) (only : Bool) (n : Int) (T : Tks) : PR Rw := (blkF pEff T).bind fun E r => .ok ⟨tag, only, n, E⟩ r
def rowNm (t : Tok) (T : Tks) : PR Rw := if hk T = 2 then (tk 2 T).bind fun u r2 => rowTl t.w true (u.n : Int) r2 else rowTl t.w false 0 T
theorem row_tl (tag : Wd) (only : Bool) (n : Int) (T : Tks) : rowTl tag only n T = (pass w_open T).bind fun _ r => rowTf tag only n r := by
  unfold rowTl rowTf block
  cases pass w_open T with
  | bad r => rfl
  | ok u r => rfl
theorem row_way1 {st : DSt} (h : dW w_any st = true) : Gw pRow st (rowTl [] false 0) (false, st.2.tail) := by
  obtain ⟨h1, h2⟩ := dW_yes h
  have e := (Gw.start pRow st).bind (p := pass w_any) (q := fun _ => rowTl [] false 0) (a := ()) (fun _ => by
    unfold pRow ch pass
    rw [h2, if_pos (by decide), if_pos rfl]
    rfl) (pass_val _ _)
  rw [dW_pass h] at e
  exact e
theorem row_way2 {st : DSt} (h : dW w_any st = false) : Gw pRow st (fun T => (tk 1 T).bind rowNm) (lift (pass w_on) st) := by
  refine (Gw.start pRow st).bind (p := pass w_on) (q := fun _ T => (tk 1 T).bind rowNm) (a := ()) (fun hb => ?_) (pass_val _ _)
  have n1 := dW_no h hb
  unfold pRow ch pass
  by_cases h2 : hw st.2 = w_on
  · rw [h2, if_pos (by decide), if_pos rfl]
    rfl
  · rw [if_neg (by simp; exact ⟨h2, n1⟩), if_neg h2]
    rfl
theorem row_num {t : Tok} {st : DSt} (h : dO 2 st = true) : st.1 = false → rowNm t st.2 = (tk 2 st.2).bind fun u r2 => rowTl t.w true (u.n : Int) r2 := by
  intro _
  obtain ⟨_, x, r, h2, h3⟩ := dO_yes h
  unfold rowNm
  rw [if_pos (by rw [h2]; exact h3)]
theorem row_nonum {t : Tok} {st : DSt} (h : dO 2 st = false) : st.1 = false → rowNm t st.2 = rowTl t.w false 0 st.2 := by
  intro hb
  unfold rowNm
  rw [if_neg]
  intro h2
  unfold dO at h
  rw [hb, h2] at h
  cases hT : st.2 with
  | nil => rw [hT] at h2; cases h2
  | cons x r => rw [hT] at h; simp at h
theorem drow_end {st st4 st5 : DSt} {tag : Wd} {only : Bool} {n : Int} {E : List Eff} (g : Gw pRow st (rowTf tag only n) st4) (e : lift (blkF pEff) st4 = st5) (v : Val (blkF pEff) st4 E) : lift pRow st = st5 ∧ Val pRow st ⟨tag, only, n, E⟩ := by
  have g2 := g.bind (p := blkF pEff) (q := fun E r => .ok ⟨tag, only, n, E⟩ r) (fun _ => rfl) v
  rw [e] at g2
  exact g2.ret rfl
theorem drow_bad {st st4 st5 : DSt} {tag : Wd} {only : Bool} {n : Int} {E : List Eff} (g : Gw pRow st (rowTf tag only n) st4) (l : Lp (blkF pEff) st4 st5 E) (hb : st5.1 = true) : lift pRow st = st5 ∧ Val pRow st ⟨tag, only, n, E⟩ := by
  obtain ⟨e, v⟩ := l.endBad hb
  exact drow_end g e v
theorem drow_close {st st4 st5 : DSt} {tag : Wd} {only : Bool} {n : Int} {E : List Eff} (g : Gw pRow st (rowTf tag only n) st4) (l : Lp (blkF pEff) st4 st5 E) (h : dW w_close st5 = true) : lift pRow st = (false, st5.2.tail) ∧ Val pRow st ⟨tag, only, n, E⟩ := by
  obtain ⟨h1, h2⟩ := dW_yes h
  obtain ⟨e, v⟩ := l.endOk h1 (blkF_stop pEff_eats h2)
  exact drow_end g e v
theorem drow_more {st4 st5 : DSt} {E : List Eff} {x : Eff} (l : Lp (blkF pEff) st4 st5 E) (h : dW w_close st5 = false) (hv : Val pEffB st5 x) : Lp (blkF pEff) st4 (lift (pass w_semi) (lift pEffB st5)) (E ++ [x]) := by
  obtain ⟨e, v⟩ := eff_lift hv
  rw [← e]
  exact l.step (fun hb => blkF_more pEff_eats (dW_no h hb)) v
/-- What row comes to. -/
def DRowP (w : World) (R : Nat) (X : Tks) (st : DSt) (e : Ending) (w' : World) : Prop :=
  ∃ (x : Rw) (sl : Value), e = .returned (.agg #[.string (bs x.tag), .bool x.only, .int .i64 x.n, sl]) ∧ Val pRow st x ∧ MEff w' sl x.effs ∧ Tx w' R X (lift pRow st) ∧ Only (At R) w w'
end Go.Proofs.YtnkokonkbklelaaGreatDoor.Ps
