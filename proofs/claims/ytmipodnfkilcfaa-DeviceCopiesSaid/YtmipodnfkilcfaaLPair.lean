/-
  THE DEVICE AND THE REFERENCE BESIDE ONE ANOTHER: their blocks are of other types, so each is kept by the other's steps.
-/
import Derived.Test.YtmipodnfkilcfaaLSameW
import Derived.Test.YtmipodnfkilcfaaDOk2
set_option linter.unusedVariables false
set_option linter.unusedSimpArgs false
namespace Go.Proofs.Ytmipodnfkilcfaa.Dev
open Go.ChangeShapes Go.WideShapes Go.ChangeAt Go.RowKit Go.Proofs.Ytmipodnfkilcfaa.Mem Go.Proofs.Ytmipodnfkilcfaa.Args Go.Proofs.Ytmipodnfkilcfaa.Own
def tagAt (w : World) (b : Nat) : Option TypeId := match w.heap[b]? with
  | some (.cells _ T _) => some T
  | _ => none
theorem Blk_tag {w : World} {b n : Nat} {T : TypeId} {g : Nat → Value} (h : Blk w b T n g) : tagAt w b = some T := by
  obtain ⟨cs, hg, _⟩ := h
  simp [tagAt, hg]
theorem row_tag {w : World} {base size n g : Nat} {T : TypeId} {v : Value} {xs : List Value} (h : w.ownsRow base T size v n xs) (hg : v.ownBlock = some g) : tagAt w g = some T := by
  rcases h.2 with ⟨rfl, _⟩ | ⟨g', cap, cur, rfl, _, hh, _⟩
  · cases hg
  · have e : g' = g := Option.some.inj hg
    subst e
    simp [tagAt, hh]
def devTag (T : Option TypeId) : Prop := T = none ∨ T = some 54 ∨ T = some 60 ∨ T = some 63
theorem IsDev.tag {w : World} {base : Nat} {A : Adr} {S : St} (h : IsDev w base A S) {b : Nat} (hb : A.foot S.n b) : devTag (tagAt w b) := by
  rcases hb with rfl | rfl | ⟨i, hi, hb⟩ | ⟨t, ht, hb⟩
  · exact .inr (.inl (Blk_tag h.dev))
  · exact .inr (.inr (.inl (Blk_tag h.lines)))
  · exact .inr (.inr (.inr (row_tag (h.hist i hi) hb)))
  · rcases h.maps t ht with ⟨h1, _⟩ | ⟨c, h1, _, n, D, _, h2, _⟩
    · rw [h1] at hb; cases hb
    · rw [h1] at hb
      have e : c = b := Option.some.inj hb
      subst e
      obtain ⟨es, clock, h3, _⟩ := h2
      exact .inl (by simp [tagAt, h3])
theorem devTag_ref {w : World} {b : Nat} (h : devTag (tagAt w b)) : tagAt w b ≠ some 70 ∧ tagAt w b ≠ some 73 ∧ tagAt w b ≠ some 105 ∧ tagAt w b ≠ some 112 ∧ tagAt w b ≠ some 36 := by
  rcases h with h | h | h | h <;> rw [h] <;> refine ⟨?_, ?_, ?_, ?_, ?_⟩ <;> decide
/-- The reference is kept by writes to blocks of other types. -/
theorem IsRef.foreign {F : Nat → Prop} {w w' : World} {base : Nat} {R : RAdr} {S : St} (h : IsRef w base R S) (ho : Only F w w') (hF : ∀ b, F b → devTag (tagAt w b)) : IsRef w' base R S where
  dev := ho.blk h.dev (fun f => (devTag_ref (hF _ f)).1 (Blk_tag h.dev))
  lines := ho.blk h.lines (fun f => (devTag_ref (hF _ f)).2.1 (Blk_tag h.lines))
  hist i hi := ⟨(h.hist i hi).1.only ho (fun g hg f => (devTag_ref (hF _ f)).2.2.1 (row_tag (h.hist i hi).1 hg)), (h.hist i hi).2⟩
  notes t ht := ⟨(h.notes t ht).1.only ho (fun g hg f => (devTag_ref (hF _ f)).2.2.2.1 (row_tag (h.notes t ht).1 hg)), (h.notes t ht).2⟩
  dl := h.dl
  bd := h.bd
  bl := h.bl
/-- Both, and an event's block. -/
def Pair (w0 w : World) (d r e : Nat) (G : Nat → Value) (SA SR : St) : Prop :=
  ∃ A : Adr, ∃ R : RAdr, A.d = d ∧ R.d = r ∧ IsDev w w0.heap.size A SA ∧ IsRef w w0.heap.size R SR ∧ Blk w e 36 6 G ∧ Below w0.heap.size w0 w
theorem Pair.step {w0 w w' : World} {d r e : Nat} {G : Nat → Value} {SA SR SA' : St} {A : Adr} {R : RAdr} (h1 : A.d = d) (h2 : R.d = r) (hd : IsDev w w0.heap.size A SA) (hr : IsRef w w0.heap.size R SR) (he : Blk w e 36 6 G) (hb : Below w0.heap.size w0 w)
    (hs : Step w w' w0.heap.size A SA SA') : Pair w0 w' d r e G SA' SR := by
  obtain ⟨A', a1, a2, a3, a4, a5⟩ := hs
  exact ⟨A', R, a1.trans h1, h2, a3, hr.foreign a4 (fun b hb => hd.tag hb), a4.blk he (fun f => (devTag_ref (hd.tag f)).2.2.2.2 (Blk_tag he)), hb.trans (a4.below hb.size (fun b hbb => hd.baseLe b hbb))⟩
theorem Pair.rstep {w0 w w' : World} {d r e : Nat} {G : Nat → Value} {SA SR SR' : St} {A : Adr} {R : RAdr} (h1 : A.d = d) (h2 : R.d = r) (hd : IsDev w w0.heap.size A SA) (hr : IsRef w w0.heap.size R SR) (he : Blk w e 36 6 G) (hb : Below w0.heap.size w0 w)
    (hs : RStep w w' w0.heap.size R SR') : Pair w0 w' d r e G SA SR' := by
  obtain ⟨R', a1, a2, a3, a4⟩ := hs
  refine ⟨A, R', h1, a1.trans h2, hd.only a4 (fun b hbb f => ?_), a3, a4.blk he (fun f => ?_), hb.trans (a4.below hb.size (fun b f => ?_))⟩
  · have := devTag_ref (hd.tag hbb)
    rcases f with rfl | rfl
    · exact this.1 (Blk_tag hr.dev)
    · exact this.2.1 (Blk_tag hr.lines)
  · have h3 := Blk_tag he
    rcases f with rfl | rfl
    · rw [Blk_tag hr.dev] at h3; exact absurd h3 (by decide)
    · rw [Blk_tag hr.lines] at h3; exact absurd h3 (by decide)
  · rcases f with rfl | rfl
    · exact hr.bd
    · exact hr.bl
end Go.Proofs.Ytmipodnfkilcfaa.Dev
