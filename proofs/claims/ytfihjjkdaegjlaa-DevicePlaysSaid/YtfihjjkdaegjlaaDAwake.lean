/-
  THE LAWS' 'awake': the chapter's example; it answers true.
-/
import Derived.Test.YtfihjjkdaegjlaaDOk
import Derived.Test.YtfihjjkdaegjlaaDImage
namespace Go.Proofs.Ytfihjjkdaegjlaa.Dev
open Go.ChangeShapes Go.WideShapes Go.ChangeAt Go.RowKit Go.Proofs.Ytfihjjkdaegjlaa.Mem Go.Proofs.Ytfihjjkdaegjlaa.Args Go.Proofs.Ytfihjjkdaegjlaa.Own
theorem Step.belowOf {w0 w w' : World} {A : Adr} {S S' : St} (h : Step w w' w0.heap.size A S S') (hd : IsDev w w0.heap.size A S) (hb : Below w0.heap.size w0 w) : Below w0.heap.size w0 w' := by
  obtain ⟨A', a1, a2, a3, a4, a5⟩ := h
  exact hb.trans (a4.below hb.size (fun b hbb => hd.baseLe b hbb))
def A1 : St := (St.new 2).storeS 0 0 1
def A2 : St := A1.storeS 0 8 2
def A3 : St := A2.storeS 0 64 3
theorem A1_ok : A1.Ok 2 := St.storeS_ok (St.new_ok 2 (by omega) (by omega)) 0 0 1 (by omega)
theorem A2_ok : A2.Ok 4 := St.storeS_ok A1_ok 0 8 2 (by omega)
theorem A3_ok : A3.Ok 6 := St.storeS_ok A2_ok 0 64 3 (by omega)
theorem A3_n : A3.n = 2 := by unfold A3 A2 A1; rw [St.storeS_n, St.storeS_n, St.storeS_n]; rfl
theorem A3_c0 : (content A3 (pickOf A3 [1]) A3.n).getD 0 0 = 1 := by decide +kernel
theorem A3_c8 : (content A3 (pickOf A3 [1]) A3.n).getD 8 0 = 0 := by decide +kernel
theorem A3_c64 : (content A3 (pickOf A3 [1]) A3.n).getD 64 0 = 3 := by decide +kernel
theorem A3_len : (content A3 (pickOf A3 [1]) A3.n).length = 128 := by rw [content_len, A3_n]
theorem A3_load : A3.load 8 = 2 := by decide +kernel
def DevAt (w0 w : World) (d : Nat) (S : St) : Prop := ∃ A : Adr, A.d = d ∧ IsDev w w0.heap.size A S ∧ Below w0.heap.size w0 w
theorem DevAt.alloc {w0 w : World} {d : Nat} {S : St} (h : DevAt w0 w d S) (o : Obj) : DevAt w0 (w.alloc o) d S := by
  obtain ⟨A, hd, hi, hb⟩ := h
  exact ⟨A, hd, hi.below ((Below.refl _ _).alloc (Nat.le_refl _) o) (Nat.le_refl _), hb.trans ((Below.refl _ _).alloc hb.size o)⟩
theorem thr0 (w : World) (d : Nat) : Calls Try.prog 17 #[.pointer (some ⟨d, 0, none⟩), .int .i64 0] w fun r w' => r = .returned (.pointer (some ⟨d, 1, none⟩)) ∧ w' = w := thread_any w d 0 (by omega)
theorem st_step {w0 w : World} {d M : Nat} {S : St} (o x : Nat) (h : DevAt w0 w d S) (hS : S.Ok M) (hM : M ≤ 1000) (ho : o < 18446744073709551616) :
    Calls Try.prog 22 #[.pointer (some ⟨d, 1, none⟩), .int .u64 (o : Int), .int .u64 (x : Int)] w fun r w' => r = .returned (.tuple #[]) ∧ Hid (DevAt w0 w' d (S.storeS 0 o x)) := by
  obtain ⟨A, hd, hi, hb⟩ := h
  subst hd
  refine (store_thread_any w w0.heap.size (M + 1) A S 0 o x hi (hS.more (by omega)) (St.cntS_ok hS _ _) (by omega) (by omega) ho hb.size).mono ?_
  rintro r w' ⟨e, hs⟩
  obtain ⟨A', a1, a2, a3, a4, a5⟩ := hs.out
  exact ⟨e, Lib.hid ⟨A', a1, a3, hb.trans (a4.below hb.size (fun b hbb => hi.baseLe b hbb))⟩⟩
theorem ld_step {w0 w : World} {d : Nat} (h : DevAt w0 w d A3) :
    Calls Try.prog 36 #[.pointer (some ⟨d, 1, none⟩), .int .u64 8] w fun r w' => r = .returned (.int .u64 2) ∧ Hid (Below w0.heap.size w0 w') := by
  obtain ⟨A, hd, hi, hb⟩ := h
  subst hd
  refine (load_any w w0.heap.size 6 A A3 0 8 hi A3_ok (by omega) (by omega)).mono ?_
  rintro r w' ⟨e, hs⟩
  rw [A3_load] at e
  obtain ⟨A', a1, a2, a3, a4, a5⟩ := hs.out
  exact ⟨e, Lib.hid (hb.trans (a4.below hb.size (fun b hbb => hi.baseLe b hbb)))⟩
theorem own_addr {k : IntKind} {e : TypeId} {w : World} {base : Nat} {v : Value} {zs : List Int} (h : OwnInts k e w base v zs) (hn : 0 < zs.length) : ∃ g cap, v = .slice (some ⟨g, 0, none⟩) zs.length cap ∧ base ≤ g ∧ g < w.heap.size := by
  rcases h.2 with ⟨_, h0⟩ | ⟨g, cap, cur, rfl, hb, hg, _⟩
  · omega
  · exact ⟨g, cap, rfl, hb, (Array.getElem?_eq_some_iff.1 hg).1⟩
theorem im_step {w0 w : World} {d : Nat} (h : DevAt w0 w d A3) (B : Nat) (C : Option Addr) (hB : B ≤ w.heap.size) (hr : IntsAt .u8 w B C [1]) :
    Calls Try.prog 33 #[.pointer (some ⟨d, 0, none⟩), .slice C 1 1] w fun e w' => ∃ g cc, e = .returned (.slice (some ⟨g, 0, none⟩) 128 cc) ∧ Hid ((w'.cell? ⟨g, 0, none⟩ = some (.int .u8 1) ∧ w'.cell? ⟨g, 8, none⟩ = some (.int .u8 0) ∧ w'.cell? ⟨g, 64, none⟩ = some (.int .u8 3)) ∧ DevAt w0 w' d A3) := by
  obtain ⟨A, hd, hi, hb⟩ := h
  subst hd
  refine (image_any w w0.heap.size 6 A A3 C 1 1 B [1] hi A3_ok (by omega) rfl (by omega) hr hB (by simp)).mono ?_
  rintro r w' ⟨v, e, hs⟩
  obtain ⟨g, c, e1, _, _⟩ := own_addr hs.out.1 (by rw [A3_len]; omega)
  have ho := hs.out.1
  rw [e1] at ho
  rw [A3_len] at e1
  have c0 := (ho.cell 0 (by rw [A3_len]; omega)).1
  have c8 := (ho.cell 8 (by rw [A3_len]; omega)).1
  have c64 := (ho.cell 64 (by rw [A3_len]; omega)).1
  rw [A3_c0] at c0
  rw [A3_c8] at c8
  rw [A3_c64] at c64
  subst e1
  exact ⟨g, c, e, Lib.hid ⟨⟨c0, c8, c64⟩, A, rfl, hi.below hs.out.2 (Nat.le_refl _), hb.trans (hs.out.2.mono hb.size)⟩⟩
set_option maxRecDepth 100000 in
theorem awake_any (W : World) : Calls Try.prog 12 #[] W fun e W' => e = .returned (.bool true) ∧ Hid (Below W.heap.size W W') := by
  have HN : Hid (Calls Try.prog 14 #[.int .i64 2] W fun e w' => ∃ d : Nat, e = .returned (.tuple #[.pointer (some ⟨d, 0, none⟩), .int .i64 0]) ∧ Hid (DevAt W w' d (St.new 2))) := Lib.hid (by
    refine (new_any W 2 (by omega) (by omega)).mono ?_
    rintro r w' ⟨A, e, hs⟩
    exact ⟨A.d, e, Lib.hid ⟨A, rfl, hs.out.1, hs.out.2⟩⟩)
  go_enter Try.func12, Try.ntmps12
  go_wp2_with (first
    | (go_at_call 14; refine HN.out.mono ?_; rintro e w1 ⟨d, rfl, H1⟩)
    | (go_at_call 17; refine (thr0 w1 d).mono ?_; rintro e w' ⟨rfl, hw⟩; have hw2 := hw.symm; clear hw; subst hw2)
    | (go_at_call 22; refine (st_step (w := w1) 0 1 H1.out (St.new_ok 2 (by omega) (by omega)) (by omega) (by omega)).mono ?_; rintro e w2 ⟨rfl, H2⟩; clear H1)
    | (go_at_call 22; refine (st_step (w := w2) 8 2 H2.out A1_ok (by omega) (by omega)).mono ?_; rintro e w3 ⟨rfl, H3⟩; clear H2)
    | (go_at_call 22; refine (st_step (w := w3) 64 3 H3.out A2_ok (by omega) (by omega)).mono ?_; rintro e w4 ⟨rfl, H4⟩; clear H3)
    | (go_at_call 33; refine (im_step (w0 := W) (w := w4.alloc (.cells #[.int .u8 1] 5)) (H4.out.alloc _) (w4.heap.size + 1) (some ⟨w4.heap.size, 0, none⟩) (by simp) (IntsAt.new .u8 w4 5 (0, 0) [1])).mono ?_; rintro e w5 ⟨g, cc, rfl, H5⟩; clear H4; obtain ⟨⟨c0, c8, c64⟩, H6⟩ := H5.out; clear H5; have H7 := Lib.hid (ld_step H6); clear H6)
    | (go_at_call 36; refine H7.out.mono ?_; rintro e w6 ⟨rfl, H8⟩))
  go_ret
  exact ⟨rfl, H8⟩
end Go.Proofs.Ytfihjjkdaegjlaa.Dev
