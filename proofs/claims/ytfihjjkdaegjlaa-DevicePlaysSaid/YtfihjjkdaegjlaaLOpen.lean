/-
  THE ARGUMENT Run: an event's cells.
-/
import Derived.Test.YtfihjjkdaegjlaaLPlay
import Derived.Test.YtfihjjkdaegjlaaLaw
namespace Go.Proofs.Ytfihjjkdaegjlaa.Dev
open Go.ChangeShapes Go.WideShapes Go.ChangeAt Go.RowKit Go.Proofs.Ytfihjjkdaegjlaa.Mem Go.Proofs.Ytfihjjkdaegjlaa.Args Go.Proofs.Ytfihjjkdaegjlaa.Own
theorem wf_u64 {n : Int} (h : (Lit.int .u64 n).wf = true) : 0 ≤ n ∧ n ≤ 18446744073709551615 := by
  simpa [Lit.wf, IntKind.min, IntKind.max, IntKind.bits, IntKind.signed] using h
theorem wf_i64 {n : Int} (h : (Lit.int .i64 n).wf = true) : -9223372036854775808 ≤ n ∧ n ≤ 9223372036854775807 := by
  simpa [Lit.wf, IntKind.min, IntKind.max, IntKind.bits, IntKind.signed] using h
theorem list6 {α : Type} (l : List α) (h : l.length = 6) : ∃ a b c d e f, l = [a, b, c, d, e, f] := by
  match l, h with
  | [a, b, c, d, e, f], _ => exact ⟨a, b, c, d, e, f, rfl⟩
set_option maxRecDepth 10000 in
theorem open_ev {H : Type} {enc : TypeId × Value → H} {w : World} {base : Nat} {spare : Nat → Bool} {held : Bool} {fuel : Nat} {cs : List Value} {x : DataW H × List MemPlace} (h : DataW.trod enc Try.prog w base spare held fuel 66 cs = some x) :
    ∃ K T o old xx N : Int, cs = [.int .i64 K, .int .i64 T, .int .u64 o, .int .u64 old, .int .u64 xx, .int .i64 N] ∧ (Lit.int .u64 o).wf = true ∧ (Lit.int .u64 old).wf = true ∧ (Lit.int .u64 xx).wf = true ∧ (Lit.int .i64 N).wf = true := by
  obtain ⟨xs, n, _, rfl, hl, hlen, hf⟩ := DataW.trod_struct Try.underlying66 h
  have hl6 : cs.length = 6 := hl.trans (by kernel_rfl)
  have hi : Try.prog.cellsOf 3 = 1 := by kernel_rfl
  have hu : Try.prog.cellsOf 40 = 1 := by kernel_rfl
  have hx6 : xs.length = 6 := hlen
  obtain ⟨c0, c1, c2, c3, c4, c5, rfl⟩ := list6 cs hl6
  obtain ⟨y0, y1, y2, y3, y4, y5, rfl⟩ := list6 xs hx6
  clear hl hlen hl6 hx6
  have h0 : DataW.trod enc Try.prog w base spare held n 3 (List.take (Try.prog.cellsOf 3) (List.drop 0 [c0, c1, c2, c3, c4, c5])) = some y0 := hf 0 _ rfl
  rw [hi] at h0
  have h1 : DataW.trod enc Try.prog w base spare held n 3 (List.take (Try.prog.cellsOf 3) (List.drop 1 [c0, c1, c2, c3, c4, c5])) = some y1 := hf 1 _ rfl
  rw [hi] at h1
  have h2 : DataW.trod enc Try.prog w base spare held n 40 (List.take (Try.prog.cellsOf 40) (List.drop 2 [c0, c1, c2, c3, c4, c5])) = some y2 := hf 2 _ rfl
  rw [hu] at h2
  have h3 : DataW.trod enc Try.prog w base spare held n 40 (List.take (Try.prog.cellsOf 40) (List.drop 3 [c0, c1, c2, c3, c4, c5])) = some y3 := hf 3 _ rfl
  rw [hu] at h3
  have h4 : DataW.trod enc Try.prog w base spare held n 40 (List.take (Try.prog.cellsOf 40) (List.drop 4 [c0, c1, c2, c3, c4, c5])) = some y4 := hf 4 _ rfl
  rw [hu] at h4
  have h5 : DataW.trod enc Try.prog w base spare held n 3 (List.take (Try.prog.cellsOf 3) (List.drop 5 [c0, c1, c2, c3, c4, c5])) = some y5 := hf 5 _ rfl
  rw [hi] at h5
  obtain ⟨K, e0, _, w0⟩ := DataW.trod_int Try.underlying3 h0
  obtain ⟨T, e1, _, w1⟩ := DataW.trod_int Try.underlying3 h1
  obtain ⟨o, e2, _, w2⟩ := DataW.trod_int Try.underlying40 h2
  obtain ⟨old, e3, _, w3⟩ := DataW.trod_int Try.underlying40 h3
  obtain ⟨xx, e4, _, w4⟩ := DataW.trod_int Try.underlying40 h4
  obtain ⟨N, e5, _, w5⟩ := DataW.trod_int Try.underlying3 h5
  simp at e0 e1 e2 e3 e4 e5
  subst e0 e1 e2 e3 e4 e5
  exact ⟨K, T, o, old, xx, N, rfl, w2, w3, w4, w5⟩
set_option maxRecDepth 10000 in
theorem open_run {H : Type} {enc : TypeId × Value → H} {w : World} {base base2 : Nat} {r : Reach} {spare : Nat → Bool} {held : Bool} {v : Value} {d : DataW H} {p : List MemPlace} (hv : Value.okWide Try.prog w r base2 57 v) (h : DataW.Trod enc Try.prog w base spare held 57 v d p) :
    ∃ (L : Int) (E : Option Addr) (n c : Nat), v = .agg #[.int .i64 L, .slice E n c] ∧ n ≤ maxLen ∧ EvsAt w w.heap.size E n := by
  obtain ⟨cs, rfl, hsz⟩ := okWide_struct Try.underlying57 hv
  obtain ⟨fuel, hf0⟩ := h
  obtain ⟨xs, n0, _, hx, hl, hlen, hf⟩ := DataW.trod_struct Try.underlying57 hf0
  have hi : Try.prog.cellsOf 3 = 1 := by kernel_rfl
  have hs : Try.prog.cellsOf 55 = 1 := by kernel_rfl
  have h6 : Try.prog.cellsOf 66 = 6 := by kernel_rfl
  have hsz2 : cs.size = 2 := hsz.trans (by kernel_rfl)
  obtain ⟨c0, c1, rfl⟩ : ∃ c0 c1, cs = #[c0, c1] := by
    obtain ⟨l⟩ := cs
    match l, hsz2 with
    | [c0, c1], _ => exact ⟨c0, c1, rfl⟩
  have hx2 : xs.length = 2 := hlen
  obtain ⟨y0, y1, rfl⟩ := list2 xs hx2
  have h0 : DataW.trod enc Try.prog w base spare held n0 3 (List.take (Try.prog.cellsOf 3) (List.drop 0 [c0, c1])) = some y0 := hf 0 _ rfl
  have h1 : DataW.trod enc Try.prog w base spare held n0 55 (List.take (Try.prog.cellsOf 55) (List.drop 1 [c0, c1])) = some y1 := hf 1 _ rfl
  rw [hi] at h0
  rw [hs] at h1
  obtain ⟨L, e0, _, w0⟩ := DataW.trod_int Try.underlying3 h0
  simp at e0
  subst e0
  rcases DataW.trod_slice Try.underlying55 h1 with ⟨e1, _⟩ | ⟨a, len, cap, elems, rest, n1, _, e1, _, hb, hlc, hm, hle, hel, _, _⟩
  · simp at e1
    subst e1
    exact ⟨L, none, 0, 0, rfl, by simp, fun j hj => absurd hj (by omega)⟩
  · simp at e1
    subst e1
    refine ⟨L, some a, len, cap, rfl, by omega, fun j hj => ?_⟩
    have h2 := hel j hj
    rw [h6] at h2
    have h3 : elems[j]? = some (elems[j]'(by omega)) := List.getElem?_eq_getElem _
    rw [h3, Option.bind_eq_some_iff] at h2
    obtain ⟨cs', hcs, hy⟩ := h2
    obtain ⟨K, T, o, old, xx, N, rfl, w2, w3, w4, w5⟩ := open_ev hy
    have hc := (World.cells?_some hcs).2.2
    have b2 := wf_u64 w2
    have b3 := wf_u64 w3
    have b4 := wf_u64 w4
    have b5 := wf_i64 w5
    obtain ⟨o, rfl⟩ := Int.eq_ofNat_of_zero_le b2.1
    obtain ⟨old, rfl⟩ := Int.eq_ofNat_of_zero_le b3.1
    obtain ⟨xx, rfl⟩ := Int.eq_ofNat_of_zero_le b4.1
    have hbl : (a.add (j * 6)).block < w.heap.size := by
      have k0 : w.cell? (a.add (j * 6)) = some (.int .i64 K) := hc 0 (by omega)
      exact cell_lt k0
    rw [add_block] at hbl
    exact ⟨a, rfl, hbl, K, T, N, o, old, xx, by have := b2.2; omega, by have := b4.2; omega, b5.1, b5.2, hc 0 (by omega), hc 1 (by omega), hc 2 (by omega), hc 3 (by omega), hc 4 (by omega), hc 5 (by omega)⟩
end Go.Proofs.Ytfihjjkdaegjlaa.Dev
