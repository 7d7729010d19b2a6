/-
  WHAT Diff IS: symmetric, and empty exactly for equal images; a source of bytes, wherever it lies.
-/
import Derived.Test.YtpfmongenmemdaaDoorILawBase
import Derived.Test.YtpfmongenmemdaaDoorIRdiff
set_option linter.unusedVariables false
set_option linter.unusedSimpArgs false
namespace Go.Proofs.YtpfmongenmemdaaDoor.Base
open Go.ChangeShapes Go.WideShapes Go.ChangeAt Go.RowKit Go.Sort Go.Lib Go.Proofs.YtpfmongenmemdaaDoor.Args Go.Proofs.YtpfmongenmemdaaDoor.Own
theorem beq_swap (a b : List UInt8) : (a == b) = (b == a) := by
  rw [Bool.eq_iff_iff, beq_iff_eq, beq_iff_eq]; exact eq_comm
theorem diffAll_symm (l m : List UInt8) : diffAll m l = diffAll l m := by
  unfold diffAll diffZ
  rw [Nat.max_comm]
  congr 2
  funext n
  rw [beq_swap]
theorem lineL_get {l : List UInt8} {a i : Nat} (ha : l.length = 64 * a) (hi : i < l.length) : (lineL l (i / 64))[i % 64]? = l[i]? := by
  rw [lineL_in (by omega), List.getElem?_take, if_pos (by omega), List.getElem?_drop]
  congr 1
  omega
theorem diffAll_nil {l m : List UInt8} {a b : Nat} (ha : l.length = 64 * a) (hb : m.length = 64 * b) : diffAll l m = [] ↔ l = m := by
  constructor
  · intro h
    have hall : ∀ k, k < max a b → lineL l k = lineL m k := by
      intro k hk
      unfold diffAll diffZ at h
      rw [List.map_eq_nil_iff, List.filter_eq_nil_iff] at h
      have := h k (by rw [List.mem_range, ha, hb]; omega)
      simpa using this
    have hab : a = b := by
      rcases Nat.lt_trichotomy a b with h1 | h1 | h1
      · have h2 := congrArg List.length (hall a (by omega))
        rw [lineL_out (by omega), lineL_in (by omega), List.length_take, List.length_drop, List.length_nil] at h2
        omega
      · exact h1
      · have h2 := congrArg List.length (hall b (by omega))
        rw [lineL_in (by omega), lineL_out (by omega), List.length_take, List.length_drop, List.length_nil] at h2
        omega
    subst hab
    apply List.ext_getElem?
    intro i
    by_cases hi : i < l.length
    · rw [← lineL_get ha hi, hall (i / 64) (by omega), lineL_get hb (by omega)]
    · rw [List.getElem?_eq_none (by omega), List.getElem?_eq_none (by omega)]
  · rintro rfl
    unfold diffAll diffZ
    simp
theorem diffAll_len {l m : List UInt8} {a b : Nat} (ha : l.length = 64 * a) (hb : m.length = 64 * b) : decide (((diffAll l m).length : Int) = 0) = (l == m) := by
  rw [Bool.eq_iff_iff, decide_eq_true_iff, beq_iff_eq, ← diffAll_nil ha hb]
  constructor
  · intro h; exact List.eq_nil_of_length_eq_zero (by omega)
  · intro h; rw [h]; rfl
structure Src (w : World) (A : Option Addr) (zs : List Int) (l : List UInt8) (m : Nat) : Prop where
  m40 : m ≤ 40
  lz : zs.length = 64 * m
  at_ : IntsAt .u8 w w.heap.size A zs
  wf : ∀ z ∈ zs, (Lit.int .u8 z).wf = true
  el : u8s zs = l
  ll : l.length = 64 * m
theorem Src.on {w w' : World} {A : Option Addr} {zs : List Int} {l : List UInt8} {m : Nat} (h : Src w A zs l m) (hb : Below w.heap.size w w') : Src w' A zs l m :=
  ⟨h.m40, h.lz, (h.at_.below hb).more hb.size, h.wf, h.el, h.ll⟩
theorem Whole.src {W : World} {A : Option Addr} {n c : Nat} {zs : List Int} {l : List UInt8} {m : Nat} (h : Whole W A n c zs l m) : Src W A zs l m := ⟨h.m40, h.lz, h.at_, h.wf, h.el, h.ll⟩
theorem rzL_wf {zs : List Int} (hw : ∀ z ∈ zs, (Lit.int .u8 z).wf = true) (k : Nat) : ∀ z ∈ rzL zs k, (Lit.int .u8 z).wf = true := by
  intro z hz
  unfold rzL at hz
  rw [List.mem_map] at hz
  obtain ⟨j, _, rfl⟩ := hz
  rcases Nat.lt_or_ge j zs.length with h | h
  · exact wf_at hw h
  · rw [List.getD, List.getElem?_eq_none h]; rfl
theorem Src.resized {w : World} {B c : Nat} {A : Option Addr} {zs : List Int} {k n : Nat} (hw : ∀ z ∈ zs, (Lit.int .u8 z).wf = true) (hk : k ≤ 40) (h : OwnInts .u8 5 w B (.slice A n c) (rzL zs (64 * k))) : Src w A (rzL zs (64 * k)) (u8s (rzL zs (64 * k))) k := by
  obtain ⟨A', c', hv, _, _, _, hr⟩ := OwnInts.form h
  injection hv with e1 e2 e3
  subst e1
  exact ⟨hk, rzL_length _ _, hr, rzL_wf hw _, rfl, by rw [u8s_length, rzL_length]⟩
theorem new_src {w : World} {A : Option Addr} {c : Nat} {zs : List Int} {l : List UInt8} {m : Nat} (h : Src w A zs l m) :
    Calls Tryd.prog 11 #[.slice A (64 * m) c] w fun e w' => e = .returned (.tuple #[img l, .int .i64 0]) ∧ Below w.heap.size w w' := by
  have := new_ok A (64 * m) c w.heap.size zs w h.lz (Lib.hid h.at_) (Nat.le_refl _) (by omega) (by have := h.m40; omega)
  rw [h.el] at this
  exact this
theorem rdiff_src {w : World} {A A' : Option Addr} {c c' : Nat} {zp zq : List Int} {l l' : List UInt8} {m m' : Nat} (h : Src w A zp l m) (h' : Src w A' zq l' m') :
    Calls Tryd.prog 24 #[.slice A (64 * m) c, .slice A' (64 * m') c'] w fun e w' => ∃ v, e = .returned v ∧ Hid (OwnInts .i64 3 w' w.heap.size v (diffAll l l') ∧ Below w.heap.size w w') := by
  have := rdiff_any A (64 * m) c w.heap.size zp A' (64 * m') c' w.heap.size zq m m' w h.lz h'.lz rfl rfl (by have := h.m40; omega) (by have := h'.m40; omega) (Lib.hid h.at_) (Lib.hid h'.at_) (Nat.le_refl _) (Nat.le_refl _) (Lib.hid h.wf) (Lib.hid h'.wf)
  rw [h.el, h'.el] at this
  exact this
end Go.Proofs.YtpfmongenmemdaaDoor.Base
