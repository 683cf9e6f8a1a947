/- tree: rows of numbers of one's own; Kids. -/
import Derived.Test.YtkeaenkkencmdaaTrG
import Derived.Lib.AppendZerosOnto
set_option linter.unusedSimpArgs false
set_option linter.unusedVariables false
namespace Go.Proofs.Ytkeaenkkencmdaa.Tr
open Go.RowKit Go.Proofs.Ytkeaenkkencmdaa Go.Maps

def iv (L : List Int) : List Value := L.map (Value.int .i64)
theorem iv_length (L : List Int) : (iv L).length = L.length := by simp [iv]
theorem iv_append (L M : List Int) : iv (L ++ M) = iv L ++ iv M := by simp [iv]
theorem Try.infoI : (Try.prog.info? 3).map (fun i => (i.zero, i.size, i.bytes)) = some (some (.int .i64 0), 1, 8) := by kernel_rfl
def lenV : Value → Nat
  | .slice _ n _ => n
  | _ => 0
theorem row_own' {a : Option Addr} {n c q : Nat} (h : RowOf a q) : some q = (Value.slice a n c).ownBlock := by
  obtain ⟨x, rfl, rfl⟩ := h
  rfl

/-- World w holds a row v of the numbers L, made since w0; nothing that there was in w0 has turned. -/
structure Fr (w0 w : World) (v : Value) (L : List Int) : Prop where
  row : w.ownsRow 0 3 1 v L.length (iv L)
  new : ∀ g, some g = v.ownBlock → w0.heap.size ≤ g
  only : Only Nil w0 w
section
variable {w0 w w' : World} {v : Value} {L : List Int}
theorem Fr.none (o : Only Nil w0 w) : Fr w0 w (.slice none 0 0) [] := ⟨World.ownsRow_nil _ _ _ _, fun g hg => by simp [Value.ownBlock] at hg, o⟩
theorem Fr.nil (h : Fr w0 w v L) (o : Only Nil w w') : Fr w0 w' v L := ⟨own_keep h.row o (fun _ _ h => h), h.new, h.only.trans o⟩
theorem Fr.less {w1 : World} (h : Fr w1 w v L) (o : Only Nil w0 w1) : Fr w0 w v L := ⟨h.row, fun g hg => Nat.le_trans o.size (h.new g hg), o.trans h.only⟩
theorem Fr.slice (h : Fr w0 w v L) : ∃ a c, v = .slice a L.length c := own_slice_n h.row
theorem Fr.lt (h : Fr w0 w v L) {g : Nat} (hg : some g = v.ownBlock) : g < w.heap.size := (h.row.lt g hg.symm).2
end

/-- What one append does to a row: it is grown by one, and its block is the elder one or new. -/
structure Gr (w w5 : World) (v v' : Value) (L : List Int) : Prop where
  row : w5.ownsRow 0 3 1 v' L.length (iv L)
  only : Only (fun q => some q = v.ownBlock) w w5
  new : ∀ g, some g = v'.ownBlock → some g = v.ownBlock ∨ w.heap.size ≤ g
theorem push {w : World} {a : Option Addr} {n c : Nat} {X : List Int} (h : w.ownsRow 0 3 1 (.slice a n c) X.length (iv X)) (hn : X.length = n) (x : Int) (few : n ≤ 65000) :
    ∃ a' c' w5, Hid ((Builtin.append_ #[40, 40] 40 #[.slice a n c, .slice (some ⟨w.heap.size, 0, none⟩) 1 1]).run Try.prog (w.alloc (.cells #[.int .i64 x] 3)) = .ok (.slice a' (n + 1) c') w5) ∧
      Gr w w5 (.slice a n c) (.slice a' (n + 1) c') (X ++ [x]) := by
  subst hn
  have oA : Only Nil w (w.alloc (.cells #[.int .i64 x] 3)) := (Only.refl Nil w).alloc _
  obtain ⟨a', c', w5, hr, ho, hon, hsn⟩ := run_append_end (P := Try.prog) (w := w.alloc (.cells #[.int .i64 x] 3)) (t := 40) (ty := 40) (e := 3) (size := 1) (bytes := 8) Try.underlying40 Try.infoI rfl (own_keep h oA (fun _ _ h => h)) ⟨w.heap.size, 0, none⟩ [.int .i64 x] rfl
    (by intro u hu; simp at hu; subst hu; rfl)
    (fun j u hj => by
      rw [add_lit0, cell_of_row _ w.heap.size _ _ _ _ (heap_new w (.cells #[.int .i64 x] 3)), Nat.zero_add]
      simpa using hj) (by omega) (by decide)
  refine ⟨a', c', w5, Lib.hid hr, ?_, (oA.nilTo _).trans (hon.mono (fun q hq => row_own' hq)), fun g hg => ?_⟩
  · rw [List.length_append, iv_append]; exact ho
  · cases a' with
    | none => simp [Value.ownBlock] at hg
    | some y =>
      have e : g = y.block := by simpa [Value.ownBlock] using hg
      rcases hsn y rfl with ⟨z, hz, e2⟩ | e2
      · refine .inl ?_
        subst hz
        rw [e, e2]; rfl
      · refine .inr ?_
        have := oA.size; omega
theorem Fr.grown {w0 w w5 : World} {v v' : Value} {L X : List Int} (h : Fr w0 w v L) (G : Gr w w5 v v' X) : Fr w0 w5 v' X :=
  ⟨G.row, fun g hg => (G.new g hg).elim (h.new g) (fun e => Nat.le_trans h.only.size e), h.only.then G.only (fun i hi hlt => by have := h.new i hi; omega)⟩

set_option maxRecDepth 100000 in
set_option maxHeartbeats 2000000 in
theorem kids_any {w : World} {S : Nat → Prop} {tb : Nat} {T : List Mb} (h : At w S tb T) (x : Int) (wx : (Lit.int .i64 x).wf = true) (few : T.length ≤ 1000) :
    Calls Try.prog 20 #[.pointer (some ⟨tb, 0, none⟩), .int .i64 x] w fun e w' => Hid (∃ v, e = .returned v ∧ Fr w w' v (kidsT T x)) := by
  obtain ⟨mb, D, b, a⟩ := h
  have t0 := a.t0
  have hl := a.look wx
  cases hx : has T x with
  | false =>
    have hE : kidsT T x = [] := by unfold kidsT; rw [hx]; rfl
    rw [hE]
    rw [hx] at hl
    simp only [Bool.false_eq_true, if_false] at hl
    clear a hE hx
    go_enter Try.func20, Try.ntmps20
    go_wp2_with (fail)
    go_ret
    exact Lib.hid ⟨_, rfl, Fr.none (Only.refl _ _)⟩
  | true =>
    rw [hx] at hl
    simp only [if_true] at hl
    have hE : kidsT T x = kids T x := by unfold kidsT; rw [hx]; rfl
    rw [hE]
    have c2 := a.c2 (.inr hx)
    have G := a.good
    have h0 : x ≠ 0 := by have := G.pos1 hx; omega
    have hcell := Lib.hid (fun (done : List Int) (k : Int) (rest : List Int) (he : kids T x = done ++ k :: rest) (w' : World) (o : Only Nil w w') => show w'.cell? ⟨b k, 0, none⟩ = some (.int .i64 k) ∧ w'.cell? ⟨b k, 5, none⟩ = some (opt b rest.head?) from by
      have hk : k ∈ kids T x := by rw [he]; simp
      obtain ⟨k1, k2⟩ := G.kid.1 hk
      have a' := a.nil o
      have c5 := a'.c5 (.inr k1)
      have hs : sib T k = done ++ k :: rest := by unfold sib; rw [if_neg (by have := G.pos1 k1; omega), k2, he]
      have hn := G.knodup (x := x)
      rw [he, List.nodup_append] at hn
      rw [hs, next_mid (fun e => hn.2.2 k e k List.mem_cons_self rfl)] at c5
      exact ⟨a'.c0 (.inr k1), c5⟩)
    have hlen : (kids T x).length ≤ 1000 := by
      have := nodup_le (kids T x) (T.map (fun m => m.1)) G.knodup (fun y hy => has_mem.1 (kids_in G hy))
      simp at this
      omega
    have hlen' := Lib.hid hlen
    clear a hE hlen G hx
    generalize kids T x = K at *
    go_enter Try.func20, Try.ntmps20
    go_wp2_with (fail)
    go_loopw [5, 7] (fun s5 s7 wr => ∃ (p c : Nat) (aa : Option Addr) (rest : List Int), p ≤ 1000 ∧ s5 = .slice aa p c ∧ s7 = opt b rest.head? ∧ Hid (∃ done, K = done ++ rest ∧ done.length = p ∧ Fr w wr (.slice aa p c) done))
      (fun s5 _ _ => 1000 - lenV s5)
    case atStart => exact ⟨0, 0, none, K, by omega, rfl, rfl, Lib.hid ⟨[], rfl, rfl, Fr.none (Only.refl _ _)⟩⟩
    case round =>
      obtain ⟨p, c, aa, rest, hp, rfl, rfl, H⟩ := hrel
      cases rest with
      | nil =>
        rw [show opt b ([] : List Int).head? = .pointer none from rfl]
        have HF := Lib.hid (show Fr w wr (.slice aa p c) K from by
          obtain ⟨done, e, hd, F⟩ := H.out
          rw [List.append_nil] at e
          rw [e]; exact F)
        go_wp2_with (fail)
        go_ret
        exact Lib.hid ⟨_, rfl, HF.out⟩
      | cons k rest =>
        rw [show opt b (k :: rest).head? = .pointer (some ⟨b k, 0, none⟩) from rfl]
        obtain ⟨c0, c5⟩ : wr.cell? ⟨b k, 0, none⟩ = some (.int .i64 k) ∧ wr.cell? ⟨b k, 5, none⟩ = some (opt b rest.head?) := by
          obtain ⟨done, e, hd, F⟩ := H.out
          exact hcell.out done k rest e wr F.only
        have hp1 : p < 1000 := by
          obtain ⟨done, e, hd, F⟩ := H.out
          have := hlen'.out
          rw [e] at this
          simp at this
          omega
        have HP : Hid (∃ a' c' w5, Hid ((Builtin.append_ #[40, 40] 40 #[.slice aa p c, .slice (some ⟨wr.heap.size, 0, none⟩) 1 1]).run Try.prog (wr.alloc (.cells #[.int .i64 k] 3)) = .ok (.slice a' (p + 1) c') w5) ∧
            Hid (∃ done, K = done ++ rest ∧ done.length = p + 1 ∧ Fr w w5 (.slice a' (p + 1) c') done)) := by
          obtain ⟨done, e, hd, F⟩ := H.out
          obtain ⟨a', c', w5, hr, hg⟩ := push F.row hd k (by omega)
          exact Lib.hid ⟨a', c', w5, hr, Lib.hid ⟨done ++ [k], by rw [e]; simp, by simp [hd], F.grown hg⟩⟩
        obtain ⟨a', c', w5, hr, HN⟩ := HP.out
        have k5 : w5.cell? ⟨b k, 5, none⟩ = some (opt b rest.head?) := by
          obtain ⟨done, e, hd, F⟩ := H.out
          obtain ⟨done', e', hd', F'⟩ := HN.out
          exact (hcell.out done k rest e w5 F'.only).2
        clear HP
        go_wp2_with (at_builtin; refine Lib.wpList_append_run _ rfl (.tmp 26) (.tmp 31) 40 40 rfl _ _ rfl rfl _ _ hr.out ?_)
        go_roundw
        case rel => exact ⟨p + 1, c', a', rest, by omega, rfl, rfl, HN⟩
        case measure => simp [lenV]; omega
end Go.Proofs.Ytkeaenkkencmdaa.Tr
