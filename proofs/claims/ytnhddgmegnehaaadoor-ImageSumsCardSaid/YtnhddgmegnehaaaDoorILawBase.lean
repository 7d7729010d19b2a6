/-
  WHAT THE LAWS' WALKS SHARE: the whole lines of a byte slice; a struct's row kept.
-/
import Derived.Test.YtnhddgmegnehaaaDoorILaid
import Derived.Test.YtnhddgmegnehaaaDoorISame
set_option linter.unusedVariables false
set_option linter.unusedSimpArgs false
namespace Go.Proofs.YtnhddgmegnehaaaDoor.Base
open Go.ChangeShapes Go.WideShapes Go.ChangeAt Go.RowKit Go.Sort Go.Lib Go.Proofs.YtnhddgmegnehaaaDoor.Args Go.Proofs.YtnhddgmegnehaaaDoor.Own
/-- a cell that holds an image, in a world behind W. -/
structure Box (W : World) (g : Nat) (l : List UInt8) (w : World) : Prop where
  c : w.cell? ⟨g, 0, none⟩ = some (str l)
  lo : W.heap.size ≤ g
  lt : g < w.heap.size
  bb : Below W.heap.size W w
theorem Box.new {W w : World} (h : Below W.heap.size W w) (l : List UInt8) : Box W w.heap.size l (w.alloc (.cells #[str l] 25)) :=
  ⟨by rw [World.cell?_alloc_new]; rfl, h.size, by simp, h.alloc h.size _⟩
theorem Box.on {W w w' : World} {g : Nat} {l : List UInt8} (h : Box W g l w) (hb : Below w.heap.size w w') : Box W g l w' :=
  ⟨(hb.cell (p := ⟨g, 0, none⟩) h.lt).trans h.c, h.lo, Nat.lt_of_lt_of_le h.lt hb.size, h.bb.trans (hb.mono h.bb.size)⟩
theorem Box.alloc {W w : World} {g : Nat} {l : List UInt8} (h : Box W g l w) (o : Obj) : Box W g l (w.alloc o) := h.on ((Below.refl _ _).alloc (Nat.le_refl _) _)
theorem Box.drewN {W w : World} {g : Nat} {l : List UInt8} (h : Box W g l w) (n : Nat) : Box W g l (w.drewN n) := h.on (Go.Proofs.YtnhddgmegnehaaaDoor.Law.below_draws (Below.refl _ _) n)
/-- the whole lines of an argument. -/
structure Whole (W : World) (A : Option Addr) (n c : Nat) (zs : List Int) (l : List UInt8) (m : Nat) : Prop where
  hm : 64 * min (n / 64) 40 = 64 * m
  m40 : m ≤ 40
  lz : zs.length = 64 * m
  at_ : IntsAt .u8 W W.heap.size A zs
  wf : ∀ z ∈ zs, (Lit.int .u8 z).wf = true
  el : u8s zs = l
  ll : l.length = 64 * m
theorem Whole.of {W : World} {A : Option Addr} {n c : Nat} {z : List Int} (hl : z.length = n) (hr : IntsAt .u8 W W.heap.size A z) (hw : ∀ y ∈ z, (Lit.int .u8 y).wf = true) : ∃ zs l m, Whole W A n c zs l m := by
  refine ⟨z.take (64 * min (n / 64) 40), _, min (n / 64) 40, rfl, by omega, by rw [List.length_take]; omega, hr.take _, fun y hy => hw y (List.mem_of_mem_take hy), rfl, by rw [u8s_length, List.length_take]; omega⟩
theorem whole_at {W : World} {A : Option Addr} {n c : Nat} {zs : List Int} {l : List UInt8} {m : Nat} (h : Whole W A n c zs l m) (w : World) (hn : n ≤ c) (hc : c ≤ 140737488351232) :
    Calls Tryd.prog 15 #[.slice A n c] w fun e w' => e = .returned (.slice A (64 * m) c) ∧ w' = w := by
  have := whole_any A n c w hn hc
  rw [h.hm] at this
  exact this
theorem new_at {W : World} {A : Option Addr} {n c : Nat} {zs : List Int} {l : List UInt8} {m : Nat} (h : Whole W A n c zs l m) (w : World) (hb : Below W.heap.size W w) :
    Calls Tryd.prog 11 #[.slice A (64 * m) c] w fun e w' => e = .returned (.tuple #[img l, .int .i64 0]) ∧ Below w.heap.size w w' := by
  have := new_ok A (64 * m) c W.heap.size zs w h.lz (Lib.hid (h.at_.below hb)) hb.size (by omega) (by have := h.m40; omega)
  rw [h.el] at this
  exact this
theorem same_at {W : World} {A : Option Addr} {n c : Nat} {zs : List Int} {l : List UInt8} {m : Nat} (h : Whole W A n c zs l m) (w : World) (hb : Below W.heap.size W w) :
    Calls Tryd.prog 13 #[img l, .slice A (64 * m) c] w fun e w' => e = .returned (.bool true) ∧ Below w.heap.size w w' :=
  same_any A (64 * m) c W.heap.size zs l w h.el.symm h.lz (Lib.hid (h.at_.below hb)) hb.size (by have := h.m40; omega)
theorem same_own {w0 w : World} {A : Option Addr} {n c B : Nat} {zs : List Int} {l : List UInt8} (h : OwnInts .u8 5 w0 B (.slice A n c) zs) (hl : zs.length = n) (hn : n ≤ 4294967295) (he : l = u8s zs) (hb : Below w0.heap.size w0 w) :
    Calls Tryd.prog 13 #[img l, .slice A n c] w fun e w' => e = .returned (.bool true) ∧ Below w.heap.size w w' := by
  obtain ⟨A', c', hv, _, _, _, hr⟩ := OwnInts.form h
  injection hv with e1 e2 e3
  subst e1
  exact same_any A n c w0.heap.size zs l w he hl (Lib.hid (hr.below hb)) hb.size hn
end Go.Proofs.YtnhddgmegnehaaaDoor.Base
