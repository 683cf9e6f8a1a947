/- What GateOnce and GateOrder read of a crowd that has come to its end. -/
import Derived.Test.YtfhbgabblegecaaGtCi
import Derived.Test.YtfhbgabblegecaaRowA
namespace Go.Proofs.Ytfhbgabblegecaa.Gt
open Go.RowKit

section
variable {ins : Nat → List Int} {T : Nat} {vo : Nat → Int} {it : List Nat} {tk : Nat → List Nat}
theorem Fin.inj (F : Fin ins T vo it tk) {t u : Nat} (ht : t < T) (hu : u < T) (h : vo t = vo u) : t = u := by
  obtain ⟨p, k, h1, _, h3, e⟩ := F.vn t ht
  rcases Nat.lt_trichotomy t u with g | g | g
  · have := F.vi t u p k k g hu h1 h3 h3 e (h ▸ e); omega
  · exact g
  · have := F.vi u t p k k g ht h1 h3 h3 (h ▸ e) e; omega
theorem Fin.perm (F : Fin ins T vo it tk) : it.Perm (tk 0 ++ tk 1) := by
  have nd : ∀ q, q < 2 → (tk q).Nodup := fun q hq => (F.tI q hq).imp (fun {a b} (z : a < b) => Nat.ne_of_lt z)
  refine (List.perm_ext_iff_of_nodup F.itN (List.nodup_append.2 ⟨nd 0 (by omega), nd 1 (by omega), fun a ha b hb e => F.tD a ha (e ▸ hb)⟩)).2 (fun t => ?_)
  rw [F.itM t, F.tM t, List.mem_append]
  constructor
  · rintro ⟨q, hq, h⟩
    have : q = 0 ∨ q = 1 := by omega
    rcases this with rfl | rfl
    · exact .inl h
    · exact .inr h
  · rintro (h | h)
    · exact ⟨0, by omega, h⟩
    · exact ⟨1, by omega, h⟩
theorem Fin.len (F : Fin ins T vo it tk) : (ins 0).length = (ins 1).length + (ins 2).length := by
  have h := F.perm.length_eq
  rw [F.in_, show ins 1 = _ from F.tv 0 (by omega), show ins 2 = _ from F.tv 1 (by omega)]
  simpa using h
theorem Fin.one (F : Fin ins T vo it tk) {x : Int} (hx : x ∈ ins 0) : (ins 1).count x + (ins 2).count x = 1 := by
  have nd : (ins 0).Nodup := by
    rw [F.in_]
    exact List.pairwise_map.2 (F.itN.imp_of_mem (fun {a b} ha hb hne e => hne (F.inj ((F.itM a).1 ha) ((F.itM b).1 hb) e)))
  have h1 := nd.count (a := x)
  rw [if_pos hx] at h1
  rw [← List.count_append, show ins 1 = _ from F.tv 0 (by omega), show ins 2 = _ from F.tv 1 (by omega), ← List.map_append]
  exact ((F.perm.map vo).symm.count_eq x).trans (by rw [← F.in_]; exact h1)
end
theorem take_next {X : List Int} {j : Nat} (h : j < X.length) : X.take (j + 1) = X.take j ++ [X.getD j 0] := by
  rw [List.take_add_one, List.getElem?_eq_getElem h]
  simp [h]
/-- A slice that holds the numbers X. -/
def UIn (w : World) (v : Value) (X : List Int) : Prop :=
  ∃ a cap, v = .slice a X.length cap ∧ ∀ i, i < X.length → ∃ g, a = some ⟨g, 0, none⟩ ∧ g < w.heap.size ∧ ∀ j, j < X.length → w.cell? ⟨g, j, none⟩ = some (.int .u64 (X.getD j 0))
theorem own_uin {w : World} {base : Nat} {v : Value} {X : List Int} (h : w.ownsRow base 40 1 v X.length (uv X)) : UIn w v X := by
  rcases h.2 with ⟨rfl, h0⟩ | ⟨g, c, cur, rfl, _, hg, _⟩
  · refine ⟨none, 0, by rw [h0], fun i hi => by omega⟩
  · refine ⟨_, c, rfl, fun i hi => ⟨g, rfl, lt_of_block hg, fun j hj => ?_⟩⟩
    rw [h.cellAt j (by omega)]
    simp [uv, hj]
theorem UIn.keep {w w' : World} {v : Value} {X : List Int} (h : UIn w v X) {S : Nat → Prop} (o : Only S w w') (hS : ∀ k, S k → w.heap.size ≤ k) : UIn w' v X := by
  obtain ⟨a, cap, e, f⟩ := h
  refine ⟨a, cap, e, fun i hi => ?_⟩
  obtain ⟨g, ha, hg, hc⟩ := f i hi
  refine ⟨g, ha, Nat.lt_of_lt_of_le hg o.size, fun j hj => ?_⟩
  rw [World.cell?_of_block (a := ⟨g, j, none⟩) (o.block g hg (fun s => by have := hS g s; omega))]
  exact hc j hj
/-- What a law reads. -/
structure Rd (w1 w : World) (cb ib : Nat) (iv : Nat → Value) (ins : Nat → List Int) : Prop where
  only : Only Nil w1 w
  c3 : w.cell? ⟨cb, 3, none⟩ = some (iv 0)
  c4 : w.cell? ⟨cb, 4, none⟩ = some (.slice (some ⟨ib, 0, none⟩) 2 2)
  lc : cb < w.heap.size
  li : ib < w.heap.size
  ic : ∀ q, q < 2 → w.cell? ⟨ib, q, none⟩ = some (iv (q + 1))
  iu : ∀ p, p < 3 → UIn w (iv p) (ins p)
  short : ∀ p, (ins p).length ≤ 100000
theorem CgE.rd {w1 w : World} {rg B base c cb pb nb ib K : Nat} {R : Rg} {P : Nat → Option (Dir × GS)} {ins : Nat → List Int} (h : CgE w1 w rg B base c cb pb nb ib K R P ins) : ∃ iv, Rd w1 w cb ib iv ins := by
  obtain ⟨L, t, vo, ob, nx, it, tk, iv, h⟩ := h
  exact ⟨iv, h.cw.core.lw.only, h.cw.cells.2.2.2.1, h.cw.cells.2.2.2.2.1, lt_of_block h.cw.cbh, lt_of_block h.cw.ibh, fun q hq => (h.cw.ic q hq).1, fun p hp => own_uin (h.cw.core.own p hp), fun p => Nat.le_trans (h.inb p) h.kb⟩
theorem Rd.keep {w1 w w' : World} {cb ib : Nat} {iv : Nat → Value} {ins : Nat → List Int} (h : Rd w1 w cb ib iv ins) {S : Nat → Prop} (o : Only S w w') (hS : ∀ k, S k → w.heap.size ≤ k) : Rd w1 w' cb ib iv ins := by
  have f3 : ∀ b i v, b < w.heap.size → w.cell? ⟨b, i, none⟩ = some v → w'.cell? ⟨b, i, none⟩ = some v := fun b i v hb e => by
    rw [World.cell?_of_block (a := ⟨b, i, none⟩) (o.block b hb (fun s => by have := hS b s; omega))]; exact e
  exact ⟨h.only.then o (fun i hi hlt => by have := hS i hi; have := h.only.size; omega), f3 _ _ _ h.lc h.c3, f3 _ _ _ h.lc h.c4, Nat.lt_of_lt_of_le h.lc o.size, Nat.lt_of_lt_of_le h.li o.size, fun q hq => f3 _ _ _ h.li (h.ic q hq), fun p hp => (h.iu p hp).keep o hS, h.short⟩
end Go.Proofs.Ytfhbgabblegecaa.Gt
