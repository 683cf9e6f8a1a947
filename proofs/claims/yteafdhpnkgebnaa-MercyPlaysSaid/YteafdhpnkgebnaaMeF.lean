/- mercy: Ask. -/
import Derived.Test.YteafdhpnkgebnaaMeE
set_option linter.unusedSimpArgs false
set_option linter.unusedVariables false
namespace Go.Proofs.Yteafdhpnkgebnaa.Me
open Go.RowKit Go.Proofs.Yteafdhpnkgebnaa Go.Maps

section
variable {w w' : World} {S T : Nat → Prop} {hb mb n N : Nat} {win : Int} {D : DataW Value} {V : Int → Value} {F A : Int → List Int}
theorem A0.mono (h : A0 w S hb mb n N win D V F) (hS : ∀ q, S q → T q) (hT : ∀ q, T q → q < w.heap.size) : A0 w T hb mb n N win D V F :=
  ⟨h.head, h.map, h.elem, h.row, fun c g hg => hS _ (h.own c g hg), h.apart, hS _ h.hS, hS _ h.mS, hT⟩
theorem At.mono (h : At w S hb n N win A) (hS : ∀ q, S q → T q) (hT : ∀ q, T q → q < w.heap.size) : At w T hb n N win A := by
  obtain ⟨mb, D, V, F, a, r⟩ := h
  exact ⟨mb, D, V, F, a.mono hS hT, r⟩
theorem At.plus (h : At w S hb n N win A) {w0 : World} (o : w0.heap.size ≤ w.heap.size) (hS : ∀ q, S q → q < w0.heap.size) : At w (Plus S w0 w) hb n N win A :=
  h.mono (fun q hq => .inl hq) (fun q hq => by
    rcases hq with hq | hq
    · have := hS q hq; omega
    · exact hq.2)
end

/-- What a child was given behind an Ask. -/
def asked (n : Nat) (win : Int) (A : Int → List Int) (c now : Int) : Int → List Int := if 0 < left n win (A c) now then setV A c (A c ++ [tick now]) else A

set_option maxRecDepth 100000 in
set_option maxHeartbeats 2000000 in
theorem ask_no {w : World} {S : Nat → Prop} {hb n N : Nat} {win : Int} {A : Int → List Int} (h : At w S hb n N win A) (c : Int) (hc : (Lit.int .i64 c).wf = true) (now : Int) (h0 : left n win (A c) now = 0) :
    Calls Try.prog 14 #[.pointer (some ⟨hb, 0, none⟩), .int .i64 c, .int .i64 now] w fun e w' => e = .returned (.bool false) ∧ Only Nil w w' := by
  have hl := left_any h c hc now
  rw [h0] at hl
  have HL := Lib.hid hl
  clear hl h0 h
  go_enter Try.func14, Try.ntmps14
  go_wp2_with (go_at_call 11; refine HL.out.mono ?_; rintro e w1 ⟨rfl, o1⟩)
  go_ret
  exact ⟨rfl, o1⟩

/-- A row v of L, that was u or is new since w0. -/
structure Grown (w0 w : World) (u v : Value) (L : List Int) : Prop where
  row : w.ownsRow 0 2 1 v L.length (iv L)
  only : Only (fun q => some q = u.ownBlock) w0 w
  new : ∀ g, some g = v.ownBlock → some g = u.ownBlock ∨ w0.heap.size ≤ g
theorem row_own {a : Option Addr} {n k q : Nat} (h : RowOf a q) : some q = (Value.slice a n k).ownBlock := by
  obtain ⟨x, rfl, rfl⟩ := h; rfl
theorem grow_any {w1 : World} {a : Option Addr} {k : Nat} {L : List Int} (h : w1.ownsRow 0 2 1 (.slice a L.length k) L.length (iv L)) (few : L.length ≤ 65536) (i : Nat) (hi : i ≤ L.length) (t : Int) :
    Calls Try.prog 22 #[.slice a L.length k, .int .i64 (i : Int), .slice (some ⟨w1.heap.size, 0, none⟩) 1 1] (w1.alloc (.cells #[.int .i64 t] 2)) fun e w' => Hid (∃ a' k', e = .returned (.slice a' (L.length + 1) k') ∧ Grown w1 w' (.slice a L.length k) (.slice a' (L.length + 1) k') (ins L i t)) := by
  have o : Only Nil w1 (w1.alloc (.cells #[.int .i64 t] 2)) := (Only.refl Nil w1).alloc _
  have h' := own_keep h o (fun _ _ h => h)
  refine (insert_any h' w1.heap.size t (heap_new w1 _) (fun x hx e => ?_) few i hi).mono ?_
  · subst hx
    have := (h.lt x.block rfl).2
    omega
  · rintro e w' ⟨a', k', rfl, h1, h2, h3⟩
    refine Lib.hid ⟨a', k', rfl, by rw [length_ins]; exact h1, (o.nilTo _).trans (h2.mono (fun q hq => row_own hq)), fun g hg => ?_⟩
    cases a' with
    | none => simp [Value.ownBlock] at hg
    | some x =>
      have e : g = x.block := by simpa [Value.ownBlock] using hg
      rcases h3 x rfl with ⟨y, hy, e2⟩ | e2
      · refine .inl ?_
        subst hy
        rw [e, e2]; rfl
      · refine .inr ?_
        have := o.size; omega
theorem Grown.drop {w0 w : World} {u : Value} {a : Option Addr} {m k : Nat} {L : List Int} (G : Grown w0 w u (.slice a m k) L) (few : L.length ≤ 65536) (hm : m = L.length) (h0 : 0 < m) :
    Calls Try.prog 23 #[.slice a m k, .int .i64 0, .int .i64 1] w fun e w' => Hid (∃ v', e = .returned v' ∧ Grown w0 w' u v' (L.eraseIdx 0)) := by
  have hd : Calls Try.prog 23 #[.slice a m k, .int .i64 0, .int .i64 1] w _ := delete_any (base := 0) G.row few 0 (by omega)
  refine hd.mono ?_
  rintro e w' ⟨v', rfl, h1, h2, h3⟩
  have hl : (L.eraseIdx 0).length = L.length - 1 := by rw [List.length_eraseIdx, if_pos (by omega)]
  refine Lib.hid ⟨v', rfl, by rw [hl]; exact h1.out, G.only.then h2 (fun q hq hlt => ?_), fun g hg => by rw [h3] at hg; exact G.new g hg⟩
  rcases G.new q hq with h | h
  · exact h
  · omega

theorem A0.mid {w1 w2 : World} {S : Nat → Prop} {hb mb n N : Nat} {win : Int} {D : DataW Value} {V : Int → Value} {F : Int → List Int} (h : A0 w1 S hb mb n N win D V F) (c : Int) {u : Value} (hu : V c = u) (o : Only (fun q => some q = u.ownBlock) w1 w2) :
    (w2.cell? ⟨hb, 0, none⟩ = some (.int .i64 (n : Int)) ∧ w2.cell? ⟨hb, 2, none⟩ = some (.map (some mb))) ∧ w2.ownsMap Try.prog 3 raw mb N D := by
  subst hu
  have hh := (o.block hb h.lt_hb (fun e => (h.rne c hb e).2 rfl)).trans h.head
  exact ⟨⟨by simp [World.cell?, hh], by simp [World.cell?, hh]⟩, ownsMap_keep h.map o (fun e => (h.rne c mb e).1 rfl)⟩

set_option maxRecDepth 100000 in
set_option maxHeartbeats 4000000 in
theorem ask_yes {w : World} {S : Nat → Prop} {hb n N : Nat} {win : Int} {A : Int → List Int} (h : At w S hb n N win A) (hN : N ≤ 65000) (c : Int) (hc : (Lit.int .i64 c).wf = true) (now : Int) (h0 : 0 < left n win (A c) now) :
    Calls Try.prog 14 #[.pointer (some ⟨hb, 0, none⟩), .int .i64 c, .int .i64 now] w fun e w' => e = .returned (.bool true) ∧ At w' (Plus S w w') hb n (N + 1) win (setV A c (A c ++ [tick now])) ∧ Only S w w' := by
  have hlf := h0
  have hleft := left_any h c hc now
  obtain ⟨l, hl⟩ : ∃ l, l = left n win (A c) now := ⟨_, rfl⟩
  rw [← hl] at hleft hlf
  have HL := Lib.hid hleft
  have hl100 : (l : Int) ≤ 100 := by have := h.few; unfold left at hl; omega
  have hl0 : ((l : Int) == 0) = false := by simp; omega
  have hl1 : ¬ (l = 0) := by omega
  clear hleft h0 hl hlf
  have hSlt := h.lt
  obtain ⟨mb, D, V, F, a, r, hn, hw1, hw2⟩ := h
  have hkey : keyOf Try.prog 3 (.int .i64 c) = some (.int .i64 c) := keyOf_int_mk Try.underlying3 hc
  have HTK := Lib.hid (fun w => tick_any now w)
  have ht := tick_in now
  obtain ⟨a0, k, hV⟩ := a.shape c
  have few := (r c).few
  have hu := (r c).up
  -- behind the store
  have fin := Lib.hid (fun (w1 w2 w3 : World) (v' : Value) (i : Nat) (o1 : Only Nil w w1) (hP : Parts (F c) i (fun x => x < tick now)) (G : Grown w1 w2 (.slice a0 (F c).length k) v' (askL n (F c) i (tick now))) (hown : w3.ownsMap Try.prog 3 raw mb (N + 1) (D.put (.int .i64 c) (.held v'))) (g : w2.grownBy w3 (some mb)) =>
    show At w3 (Plus S w w3) hb n (N + 1) win (setV A c (A c ++ [tick now])) ∧ Only S w w3 from by
      have o2 : Only (fun q => q = mb) w2 w3 := (Only.ofGrown g).mono (fun q hq => by injection hq)
      obtain ⟨h1, h2⟩ := (a.nil o1).set c v' _ (by rw [hV]; exact G.only) G.row (by rw [hV]; exact G.new) o2 hown (fun d => by
        by_cases e : d = c
        · subst e; rw [setV_same, Maps.atKey_put_same (k := .int .i64 d) a.map.isMap trivial]
        · rw [setV_other _ _ e, Maps.atKey_put_other (by intro h; injection h with _ h; exact e h), a.elem])
      refine ⟨⟨mb, _, _, _, h1.mono (fun q hq => ?_) (fun q hq => ?_), fun d => ?_, hn, hw1, hw2⟩, (o1.nilTo S).trans h2⟩
      · rcases hq with hq | hq
        · exact .inl hq
        · exact .inr ⟨by have := o1.size; omega, hq.2⟩
      · rcases hq with hq | hq
        · have := hSlt q hq; have := o1.size; have := h2.size; omega
        · exact hq.2
      · by_cases e : d = c
        · subst e; rw [setV_same, setV_same]; exact (r d).ask ht hP
        · rw [setV_other _ _ e, setV_other _ _ e]; exact r d)
  have BS := Lib.hid (fun (w1 : World) (o1 : Only Nil w w1) => bs_any (t := tick now) (iin_of (show w1.ownsRow 0 2 1 (.slice a0 (F c).length k) (F c).length (iv (F c)) from by have := (a.nil o1).row c; rw [hV] at this; exact this)) rfl hu (n := (F c).length) (c := k) (by omega))
  have INS := Lib.hid (fun (w1 : World) (o1 : Only Nil w w1) => grow_any (t := tick now) (show w1.ownsRow 0 2 1 (.slice a0 (F c).length k) (F c).length (iv (F c)) from by have := (a.nil o1).row c; rw [hV] at this; exact this) (by omega))
  have LK := Lib.hid (fun (w1 : World) (o1 : Only Nil w w1) => show (Instr.lookup 51 (.map (some mb)) (.int .i64 c) false).run Try.prog w1 = .ok (.slice a0 (F c).length k) w1 from by have := (a.nil o1).look hc; rw [hV] at this; exact this)
  have HA := Lib.hid a
  have MD := Lib.hid (fun (w1 w2 : World) (v' : Value) (L' : List Int) (o1 : Only Nil w w1) (G : Grown w1 w2 (.slice a0 (F c).length k) v' L') => (a.nil o1).mid c hV G.only)
  clear a r hc hV hu
  generalize tick now = t at *
  generalize F c = L at *
  obtain ⟨m, hm⟩ : ∃ m, m = L.length := ⟨_, rfl⟩
  rw [← hm] at few
  simp only [← hm] at BS INS LK fin MD
  have HM := Lib.hid hm
  have mle : (m : Int) ≤ 100 := by omega
  have nle : (n : Int) ≤ 100 := by omega
  have few' : (m : Int) ≤ (n : Int) := by omega
  have HN := Lib.hid hN
  have HK := Lib.hid hkey
  clear ht hm few hw1 hw2 hN hn hkey hSlt
  go_enter Try.func14, Try.ntmps14
  go_upto_region 6 with (first
    | (go_at_call 11; refine HL.out.mono ?_; rintro e w1 ⟨rfl, o1⟩; have O1 := Lib.hid o1; have A1 := Lib.hid (HA.out.nil o1); have c2 := A1.out.c2; have lk := LK.out w1 o1; have B1 := Lib.hid (BS.out w1 o1); have I1 := Lib.hid (INS.out w1 o1); clear o1 LK BS INS HL)
    | (go_at_call 20; (with_reducible refine (HTK.out _).mono ?_); rintro e w' ⟨rfl, rfl⟩)
    | (go_at_call 21; (with_reducible refine B1.out.mono ?_); rintro e w' ⟨hr, rfl⟩; obtain ⟨i, b, rfl, hP⟩ := hr.out; have HP := Lib.hid hP; clear hr hP; have I2 := Lib.hid (I1.out i (by have := HP.out.1; have := HM.out; omega)); clear I1)
    | (go_at_call 22; (with_reducible refine I2.out.mono ?_); rintro e w2 hr; obtain ⟨a', k', rfl, hG⟩ := hr.out; have HG := Lib.hid hG; clear hr hG I2))
  obtain ⟨⟨e0, e2⟩, hmap⟩ := MD.out w1 w2 _ _ O1.out HG.out
  have HMP := Lib.hid hmap
  clear hmap c2 lk A1 HA B1 HTK
  by_cases hcase : n < m + 1
  · have hc1 : (n : Int) < (m : Int) + 1 := by omega
    have DEL := Lib.hid (HG.out.drop (by rw [length_ins]; have := HM.out; omega) (by rw [length_ins]; have := HM.out; omega) (by omega))
    have HAS := Lib.hid (show askL n L i t = (ins L i t).eraseIdx 0 from by unfold askL; rw [if_pos (by have := HM.out; omega)])
    clear hcase
    go_upto_region 8 with (first | (go_at_call 23; (with_reducible refine DEL.out.mono ?_); rintro e w3 hr; obtain ⟨v', rfl, hG⟩ := hr.out; have HG3 := Lib.hid hG; clear hr DEL))
    obtain ⟨⟨e0', e2'⟩, hmap'⟩ := MD.out w1 w3 _ _ O1.out HG3.out
    have HMP' := Lib.hid hmap'
    clear hmap' e0 e2 HMP MD
    go_wp2_with (at_mapUpdate; refine wpList_mapUpdate_own _ rfl _ _ _ 51 rfl 3 54 Try.law Try.underlying51 raw mb N D rfl HMP'.out (by have := HN.out; unfold maxLen; omega) _ _ _ rfl rfl HK.out _ [] rfl ?_; intro w4 hown4 hgrow4)
    go_ret
    exact ⟨rfl, fin.out w1 w3 w4 _ i O1.out HP.out (by rw [HAS.out]; exact HG3.out) hown4 hgrow4⟩
  · have hc1 : ¬ ((n : Int) < (m : Int) + 1) := by omega
    have HAS := Lib.hid (show askL n L i t = ins L i t from by unfold askL; rw [if_neg (by have := HM.out; omega)])
    clear hcase
    go_wp2_with (at_mapUpdate; refine wpList_mapUpdate_own _ rfl _ _ _ 51 rfl 3 54 Try.law Try.underlying51 raw mb N D rfl HMP.out (by have := HN.out; unfold maxLen; omega) _ _ _ rfl rfl HK.out _ [] rfl ?_; intro w3 hown3 hgrow3)
    go_ret
    exact ⟨rfl, fin.out w1 w2 w3 _ i O1.out HP.out (by rw [HAS.out]; exact HG.out) hown3 hgrow3⟩
/-- Ask, whatever it comes to. -/
theorem ask_any {w : World} {S : Nat → Prop} {hb n N : Nat} {win : Int} {A : Int → List Int} (h : At w S hb n N win A) (hN : N ≤ 65000) (c : Int) (hc : (Lit.int .i64 c).wf = true) (now : Int) :
    Calls Try.prog 14 #[.pointer (some ⟨hb, 0, none⟩), .int .i64 c, .int .i64 now] w fun e w' => e = .returned (.bool (decide (0 < left n win (A c) now))) ∧ At w' (Plus S w w') hb n (N + 1) win (asked n win A c now) ∧ Only S w w' := by
  unfold asked
  by_cases h0 : 0 < left n win (A c) now
  · rw [decide_eq_true h0, if_pos h0]
    exact ask_yes h hN c hc now h0
  · rw [decide_eq_false h0, if_neg h0]
    refine (ask_no h c hc now (by omega)).mono ?_
    rintro e w' ⟨rfl, o⟩
    exact ⟨rfl, ((h.nil o).more (by omega)).plus o.size h.lt, o.nilTo S⟩
end Go.Proofs.Yteafdhpnkgebnaa.Me
