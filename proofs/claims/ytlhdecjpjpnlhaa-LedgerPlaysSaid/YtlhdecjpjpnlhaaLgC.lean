/- ledger: put. -/
import Derived.Test.YtlhdecjpjpnlhaaLgB
namespace Go.Proofs.Ytlhdecjpjpnlhaa.Lg
open Go.RowKit Go.Proofs.Ytlhdecjpjpnlhaa Go.Maps

set_option maxRecDepth 100000 in
set_option maxHeartbeats 2000000 in
theorem put_any {w : World} {S : Nat → Prop} {hb m1 m2 n : Nat} {D1 D2 : DataW Unit} {C : Nat → Int} (h : A0 w S hb m1 m2 n D1 C D2) (x : Int) (hx : (Lit.int .u64 x).wf = true) (a p : Nat) (ha : D1.atKey (.int .u64 x) (.lit (.int .i64 0)) = .lit (.int .i64 (a : Int)))
    (ha8 : a ≤ 8) (hp8 : p ≤ 8) (hC : ∀ i, i ≤ 8 → -65500 ≤ C i ∧ C i ≤ 65500) (hn : n ≤ 70000) :
    Calls Try.prog 31 #[.pointer (some ⟨hb, 0, none⟩), .int .u64 x, .int .i64 (p : Int)] w fun e w' =>
      e = .returned (.tuple #[]) ∧ A0 w' S hb m1 m2 (n + 1) (D1.put (.int .u64 x) (.lit (.int .i64 (p : Int)))) (moved C a p) D2 ∧ Only S w w' := by
  have hkey : keyOf Try.prog 29 (.int .u64 x) = some (.int .u64 x) := keyOf_int_mk Try.underlying29 hx
  have hd0 : A0 w.drew S hb m1 m2 n D1 C D2 := h.nil (Only.refl Nil w).drew
  have hlk := hd0.look hx ha
  have c0 := h.c0
  have ca := h.cc a ha8
  have fa := h.fz (1 + a)
  have hlt := h.lt_hb
  have hCa := hC a ha8
  have a9 : (a : Int) < 9 := by omega
  have p9 : (p : Int) < 9 := by omega
  have hh := Lib.hid h
  have hC' := Lib.hid hC
  have hkey' := Lib.hid hkey
  clear h hd0 ha hx hC hkey
  generalize hca : C a = ya at *
  have hca' := Lib.hid hca
  clear hca
  go_enter Try.func31, Try.ntmps31
  go_wp2_with fail
  go_still_tail 15, (by kernel_rfl)
  change wpList _ _ _ _ _ w.drew
  go_wp2_with fail
  obtain ⟨w1, hw1⟩ : ∃ w1, w1 = (w.setCell ⟨hb, 1 + a, none⟩ (.int .i64 (ya - 1))).drew := ⟨_, rfl⟩
  obtain ⟨h1a, h1b⟩ := hh.out.count a ha8 (ya - 1)
  have h1 := Lib.hid (show A0 w1 S hb m1 m2 n D1 (upd C a (ya - 1)) D2 from by rw [hw1]; exact h1a.nil (Only.refl Nil _).drew)
  have o1 := Lib.hid (show Only S w w1 from by rw [hw1]; exact h1b.drew)
  rw [← hw1]
  obtain ⟨yp, hyp⟩ : ∃ yp, yp = upd C a (ya - 1) p := ⟨_, rfl⟩
  have cp := h1.out.cc p hp8
  have fp := h1.out.fz (1 + p)
  have hlt1 := h1.out.lt_hb
  have hCp : -65502 ≤ yp ∧ yp ≤ 65502 := by
    rw [hyp]
    have := hC'.out p hp8
    unfold upd
    split <;> omega
  rw [← hyp] at cp
  have hyp' := Lib.hid hyp
  clear hyp h1a h1b hw1 c0 ca fa hlt hlk hCa a9
  obtain ⟨h2a, h2b⟩ := h1.out.count p hp8 (yp + 1)
  have h2 := Lib.hid (h2a.nil (Only.refl Nil _).drew)
  have o2 := Lib.hid (h2b.drew)
  have c2 := h2a.c0
  have p7 : -1000000 ≤ (p : Int) ∧ (p : Int) ≤ 1000000 := by omega
  have hn' := Lib.hid hn
  clear h2a h2b hn
  go_still_tail 10, (by kernel_rfl)
  change wpList _ _ _ _ _ w1.drew
  go_wp2_with (at_mapUpdate; refine wpList_mapUpdate_own _ rfl _ _ _ 48 rfl 29 3 Try.law Try.underlying48 _ m1 n D1 rfl h2.out.map1 (by have := hn'.out; unfold maxLen; omega) _ _ _ rfl rfl hkey'.out _ [] (plainElem_int Try.underlying3 (wf_small p7.1 p7.2)) ?_; intro w3 hown3 hg3)
  obtain ⟨h3, o3⟩ := h2.out.put1 hown3 hg3
  go_end0
  refine ⟨rfl, ?_, (o1.out.trans o2.out).trans o3⟩
  have e : moved C a p = upd (upd C a (ya - 1)) p (yp + 1) := by
    rw [hyp'.out, ← hca'.out]
    rfl
  rw [e]
  exact h3
end Go.Proofs.Ytlhdecjpjpnlhaa.Lg
