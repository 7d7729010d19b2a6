/-
  SLICES OF INTEGERS THAT A CALL MAKES ITSELF (owned rows), append onto them from any slice, nil or not; []byte to string. Over any program. No condition but those written.
-/
import Derived.Test.YtopnkhalmembhaaDoorArgs
import Derived.Test.YtopnkhalmembhaaDoorLaw
import Derived.Maps.AppendAt
import Derived.Laws.OwnMore
import Derived.Laws.BytesString
set_option linter.unusedVariables false
set_option linter.unusedSimpArgs false
namespace Go.Proofs.YtopnkhalmembhaaDoor.Own
open Go.ChangeShapes Go.WideShapes Go.ChangeAt Go.RowKit Go.Proofs.YtopnkhalmembhaaDoor.Args
/-- v IS A SLICE OF THE CALL's OWN, ITS ROW FROM BLOCK 'base' ON, THAT READS zs. -/
def OwnInts (k : IntKind) (e : TypeId) (w : World) (base : Nat) (v : Value) (zs : List Int) : Prop := w.ownsRow base e 1 v zs.length (zs.map (Value.int k))
section
variable {k : IntKind} {e : TypeId} {w w' : World} {base : Nat} {v : Value} {zs : List Int}
theorem OwnInts.nil_ (k : IntKind) (e : TypeId) (w : World) (base : Nat) : OwnInts k e w base (.slice none 0 0) [] := World.ownsRow_nil w base e 1
theorem OwnInts.empty (k : IntKind) (e : TypeId) (w : World) {base : Nat} (hb : base ≤ w.heap.size) : OwnInts k e (w.alloc (.cells #[] e)) base (.slice (some ⟨w.heap.size, 0, none⟩) 0 0) [] :=
  World.ownsRow_made w #[] 0 hb (by simp [maxLen]) (by simp)
theorem OwnInts.drewN (h : OwnInts k e w base v zs) (n : Nat) : OwnInts k e (w.drewN n) base v zs := h
theorem OwnInts.alloc (h : OwnInts k e w base v zs) (o : Obj) : OwnInts k e (w.alloc o) base v zs := World.ownsRow.alloc h o
theorem OwnInts.kept {row : Option Nat} (h : OwnInts k e w base v zs) (hg : w.grownBy w' row) (hne : v.ownBlock = none ∨ v.ownBlock ≠ row) : OwnInts k e w' base v zs := World.ownsRow.kept h hg hne
/-- Behind a call that touches nothing that was there. -/
theorem OwnInts.below (h : OwnInts k e w base v zs) (hb : Below w.heap.size w w') : OwnInts k e w' base v zs := by
  refine ⟨h.1, ?_⟩
  rcases h.2 with hn | ⟨g, cap, cur, rfl, hbg, hgg, rest⟩
  · exact .inl hn
  · refine .inr ⟨g, cap, cur, rfl, hbg, ?_, rest⟩
    rw [hb.block g (Array.getElem?_eq_some_iff.1 hgg).1]; exact hgg
theorem OwnInts.form (h : OwnInts k e w base v zs) : ∃ A c, v = .slice A zs.length c ∧ zs.length ≤ c ∧ c ≤ maxLen ∧ (A = none → c = 0) ∧ IntsAt k w w.heap.size A zs := by
  rcases h.2 with ⟨rfl, hn⟩ | ⟨g, cap, cur, rfl, hb, hg, hnc, hcm, hcs, ht⟩
  · rw [hn]
    exact ⟨none, 0, rfl, Nat.le_refl _, by simp [maxLen], fun _ => rfl, fun i hi => absurd hi (by omega)⟩
  · refine ⟨_, cap, rfl, hnc, hcm, fun h => (by cases h), fun i hi => ⟨_, rfl, (Array.getElem?_eq_some_iff.1 hg).1, ?_⟩⟩
    rw [addr_add, cell_of_row w g i cur e (0, 0) hg]
    have h2 : (cur.toList.take (zs.length * 1))[i]? = (zs.map (Value.int k))[i]? := by rw [ht]
    rw [List.getElem?_take, if_pos (by omega)] at h2
    rw [← Array.getElem?_toList, h2]
    simp [List.getD, hi]
theorem OwnInts.lt (h : OwnInts k e w base v zs) : ∀ g, v.ownBlock = some g → base ≤ g ∧ g < w.heap.size := World.ownsRow.lt h
theorem OwnInts.grownBelow (h : OwnInts k e w base v zs) (hg : w.grownBy w' v.ownBlock) (hB : base ≤ w.heap.size) : Below base w w' :=
  (Below.refl _ _).grown hg hB (fun g hg' => (h.lt g hg').1)
theorem OwnInts.stored {g n cap : Nat} (h : OwnInts k e w base (.slice (some ⟨g, 0, none⟩) n cap) zs) (hl : zs.length = n) (j : Nat) (x : Int) :
    OwnInts k e (w.setCell ⟨g, j, none⟩ (.int k x)) base (.slice (some ⟨g, 0, none⟩) n cap) (zs.set j x) := by
  unfold OwnInts at h ⊢
  rw [hl] at h
  have h2 := (World.ownsRow.stored h j (.int k x)).1
  rw [List.length_set, hl, List.map_set]
  exact h2
theorem OwnInts.cell {g n cap : Nat} (h : OwnInts k e w base (.slice (some ⟨g, 0, none⟩) n cap) zs) (j : Nat) (hj : j < zs.length) : w.cell? ⟨g, j, none⟩ = some (.int k (zs.getD j 0)) ∧ w.frozen? ⟨g, j, none⟩ = false := by
  rcases h.2 with ⟨h', _⟩ | ⟨g', cap', cur, h', hb, hg, _, _, _, ht⟩
  · cases h'
  · simp only [Value.slice.injEq, Option.some.injEq, Addr.mk.injEq, and_true, true_and] at h'
    obtain ⟨rfl, _, rfl⟩ := h'
    refine ⟨?_, frozen_of_row w g j cur e hg⟩
    rw [cell_of_row w g j cur e (0, 0) hg]
    have h2 : (cur.toList.take (zs.length * 1))[j]? = (zs.map (Value.int k))[j]? := by rw [ht]
    rw [List.getElem?_take, if_pos (by omega)] at h2
    rw [← Array.getElem?_toList, h2]
    simp [List.getD, hj]
theorem OwnInts.made {w' : World} {g n : Nat} (h : w'.ownsRow base e 1 (.slice (some ⟨g, 0, none⟩) n n) n (madeCells (Value.int k 0).cells (n * 1)).toList) : OwnInts k e w' base (.slice (some ⟨g, 0, none⟩) n n) (List.replicate n 0) := by
  unfold OwnInts
  rw [List.length_replicate, List.map_replicate]
  have e1 : (madeCells (Value.int k 0).cells (n * 1)).toList = List.replicate n (Value.int k 0) := by
    rw [Nat.mul_one]
    apply List.ext_getElem
    · simp [madeCells]
    · intro i h1 h2
      simp [madeCells, Value.cells, Nat.mod_one]
  rw [← e1]; exact h
end
section
variable {P : Program}
theorem run_app {w : World} {base bytes m c B : Nat} {t ty e : TypeId} {i : TypeInfo} {z : Value} {k : IntKind} {v : Value} {xs zs : List Int} {A : Option Addr} (ht : P.underlying t = some (.slice e)) (hi : P.info? e = some i) (hz : i.zero = some z)
    (hsize : i.size = 1) (hby : i.bytes = bytes) (hzs : z.cells.size = 1) (hown : OwnInts k e w base v xs) (hr : IntsAt k w B A zs) (hm : zs.length = m)
    (h63 : xs.length + m ≤ maxLen) (hbytes : (xs.length + m) * bytes ≤ 140737488355328) (hbase : base ≤ w.heap.size) :
    ∃ v' w', (Builtin.append_ #[t, t] ty #[v, .slice A m c]).run P w = .ok v' w' ∧ OwnInts k e w' base v' (xs ++ zs) ∧ w.grownBy w' v.ownBlock ∧ (v'.ownBlock = v.ownBlock ∨ v'.ownBlock = some w.heap.size) := by
  rcases A with _ | ad
  · have h0 : zs = [] := by
      rcases zs with _ | ⟨y, ys⟩
      · rfl
      · obtain ⟨ad, h, _⟩ := hr 0 (by simp)
        cases h
    subst h0
    simp only [List.length_nil] at hm
    subst hm
    refine ⟨v, w, ?_, by simpa using hown, World.grownBy.refl w _, .inl rfl⟩
    rcases hown.2 with ⟨rfl, _⟩ | ⟨g, cap, cur, rfl, _, _, hnc, _⟩
    · simp [Builtin.append_, run_underlying ht, sizeOf, typeInfo, hi, Builtin.lenOf, Builtin.firstCells]
    · simp [Builtin.append_, run_underlying ht, sizeOf, typeInfo, hi, Builtin.lenOf, Builtin.firstCells, hnc, storeCells]
  · have hcells : ∀ j u, (zs.map (Value.int k))[j]? = some u → w.cell? (ad.add j) = some u := by
      intro j u hu
      have hj : j < zs.length := by
        rcases Nat.lt_or_ge j zs.length with h | h
        · exact h
        · rw [List.getElem?_eq_none (by simpa using h)] at hu; cases hu
      obtain ⟨ad', h, _, hc⟩ := hr j hj
      injection h with h
      subst h
      rw [hc, getD_at hj]
      simpa [hj] using hu
    obtain ⟨v', w', hrun, h2, h3, _, h5⟩ := run_append_own_at (P := P) w base t ty e i z 1 bytes ht hi hz hsize hby hzs (by omega) v xs.length (xs.map (Value.int k)) hown ad m c (zs.map (Value.int k)) (by simp [hm]) hcells
      (by intro u hu; obtain ⟨y, _, rfl⟩ := List.mem_map.1 hu; rfl) h63 hbytes hbase
    refine ⟨v', w', hrun, ?_, h3, h5⟩
    unfold OwnInts
    rw [List.length_append, hm, List.map_append]
    exact h2
/-- The walk's law: append of any slice onto a slice of the call's own. 'hgd': the operation is wanted (its guard has been met). -/
theorem wpList_app {ops : Array Oper} {rest : List Oper} {o : Oper} {a : Act} {Q : Exit → Act → World → Prop} {w : World} (hgd : Region.wanted o (yielded ops a.tmps) = true) (s x : Operand) (t : TypeId)
    (ho : o.op = .call { callee := .builtin .append, args := #[s, x], argTypes := #[t, t] })
    {base bytes m c B : Nat} {e : TypeId} {i : TypeInfo} {z : Value} {k : IntKind} {v : Value} {xs zs : List Int} {A : Option Addr} (ht : P.underlying t = some (.slice e)) (hi : P.info? e = some i) (hz : i.zero = some z)
    (hsize : i.size = 1) (hby : i.bytes = bytes) (hzs : z.cells.size = 1) (hs : a.eval s = v) (hown : OwnInts k e w base v xs) (hx : a.eval x = .slice A m c) (hr : IntsAt k w B A zs) (hm : zs.length = m)
    (h63 : xs.length + m ≤ maxLen) (hbytes : (xs.length + m) * bytes ≤ 140737488355328) (hbase : base ≤ w.heap.size)
    (h : ∀ v' w', OwnInts k e w' base v' (xs ++ zs) → w.grownBy w' v.ownBlock → (v'.ownBlock = v.ownBlock ∨ v'.ownBlock = some w.heap.size) → wpList P ops Q rest (a.put o.dst v') w') : wpList P ops Q (o :: rest) a w := by
  refine wpList_step fun K hK => ?_
  rw [if_pos hgd]
  obtain ⟨v', w', hrun, h2, h3, h4⟩ := run_app (P := P) (w := w) (base := base) (ty := o.type) (c := c) ht hi hz hsize hby hzs hown hr hm h63 hbytes hbase
  unfold Oper.wp execOp
  simp only [ho, resolve, invoke, builtin, Sem.run_bind, Sem.run_pure, Result.andThen_ok, List.map_toArray, List.map_cons, List.map_nil, hs, hx, hrun]
  exact hK _ _ (h v' w' h2 h3 h4)

/-! ### []byte to string -/
def bstr (zs : List Int) : ByteArray := zs.foldl (fun r n => r.push (UInt8.ofNat n.toNat)) ByteArray.empty
theorem bstr_data (zs : List Int) : (bstr zs).data.toList = zs.map fun z => UInt8.ofNat z.toNat := by
  unfold bstr
  have : ∀ (l : List Int) (r : ByteArray), (l.foldl (fun r n => r.push (UInt8.ofNat n.toNat)) r).data.toList = r.data.toList ++ l.map fun z => UInt8.ofNat z.toNat := by
    intro l
    induction l with
    | nil => intro r; simp
    | cons y l ih => intro r; simp only [List.foldl_cons, ih]; simp
  rw [this]; rfl
theorem map_inj8 : ∀ {xs ys : List Int}, (∀ z ∈ xs, 0 ≤ z ∧ z ≤ 255) → (∀ z ∈ ys, 0 ≤ z ∧ z ≤ 255) → (xs.map fun z => UInt8.ofNat z.toNat) = (ys.map fun z => UInt8.ofNat z.toNat) → xs = ys
  | [], [], _, _, _ => rfl
  | [], _ :: _, _, _, h => by simp at h
  | _ :: _, [], _, _, h => by simp at h
  | x :: xs, y :: ys, hx, hy, h => by
    simp only [List.map_cons, List.cons.injEq] at h
    have a := hx x (by simp)
    have b := hy y (by simp)
    have e := congrArg UInt8.toNat h.1
    simp only [UInt8.toNat_ofNat'] at e
    rw [map_inj8 (fun z hz => hx z (by simp [hz])) (fun z hz => hy z (by simp [hz])) h.2, show x = y by omega]
theorem bstr_inj {xs ys : List Int} (hx : ∀ z ∈ xs, 0 ≤ z ∧ z ≤ 255) (hy : ∀ z ∈ ys, 0 ≤ z ∧ z ≤ 255) : (bstr xs).data.toList = (bstr ys).data.toList ↔ xs = ys := by
  rw [bstr_data, bstr_data]
  exact ⟨map_inj8 hx hy, fun h => by rw [h]⟩
theorem conv_bytes {w : World} {src dst e : TypeId} {A : Option Addr} {n c B : Nat} {zs : List Int} (hs : P.underlying src = some (.slice e)) (he : P.underlying e = some (.int .u8)) (hd : P.underlying dst = some .string)
    (hr : IntsAt .u8 w B A zs) (hl : zs.length = n) : (convert src dst (.slice A n c)).run P w = .ok (.string (bstr zs)) w := by
  rw [run_convert_bytes_string w src dst e A n c hs he hd]
  rcases A with _ | ad
  · have h0 : zs = [] := by
      rcases zs with _ | ⟨y, ys⟩
      · rfl
      · obtain ⟨ad, h, _⟩ := hr 0 (by simp)
        cases h
    subst h0
    simp only [List.length_nil] at hl
    subst hl
    rfl
  · refine run_bytesToString w ad n c zs ?_
    have h := run_loadCells_list (P := P) (w := w) ad (zs.map (Value.int .u8)) (by
      intro j u hu
      have hj : j < zs.length := by
        rcases Nat.lt_or_ge j zs.length with h | h
        · exact h
        · rw [List.getElem?_eq_none (by simpa using h)] at hu; cases hu
      obtain ⟨ad', h, _, hc⟩ := hr j hj
      injection h with h
      subst h
      rw [hc, getD_at hj]
      simpa [hj] using hu)
    rw [List.length_map, hl] at h
    exact h
end
end Go.Proofs.YtopnkhalmembhaaDoor.Own
