/-
  PROVED: the law RecordSeals answers true for every input, and each argument reads behind the call as before (Rows.RecordSealsCardSaid). No condition.
-/
import Derived.Test.YtopnkhalmembhaaDoorCards
import Derived.Test.YtopnkhalmembhaaDoorTie
import Derived.Test.YtopnkhalmembhaaDoorLaid
import Derived.Test.YtopnkhalmembhaaDoorLaw
import Derived.Test.YtopnkhalmembhaaDoorArgs
import Derived.Test.YtopnkhalmembhaaDoorRecSeal
namespace Go.Proofs.YtopnkhalmembhaaDoor.recordSeals
open Go.ChangeShapes Go.WideShapes Go.ChangeAt Go.RowKit Go.Proofs.YtopnkhalmembhaaDoor.Law Go.Proofs.YtopnkhalmembhaaDoor.Args Go.Proofs.YtopnkhalmembhaaDoor.Base
set_option linter.unusedVariables false
set_option linter.unusedSimpArgs false
open Go.Proofs.YtopnkhalmembhaaDoor.Seal Go.Proofs.YtopnkhalmembhaaDoor.Mem Go.Proofs.YtopnkhalmembhaaDoor.Own Go.Proofs.YtopnkhalmembhaaDoor.CrcMath Go.Proofs.YtopnkhalmembhaaDoor.PackMath
theorem below_step {a b c : World} (h1 : Below a.heap.size a b) (h2 : Below b.heap.size b c) : Below a.heap.size a c := h1.trans (h2.mono h1.size)
theorem equ_same (A : Option Addr) (n c B : Nat) (zs : List Int) (A' : Option Addr) (c' B' : Nat) (w : World) (hn : n ≤ 9223372036854775807) (hl : zs.length = n) (hr : Hid (IntsAt .u64 w B A zs)) (hr' : Hid (IntsAt .u64 w B' A' zs)) :
    Calls Tryd.prog 6 #[.slice A n c, .slice A' n c'] w fun e w' => e = .returned (.bool true) ∧ Below w.heap.size w w' :=
  (Rec.equ_below A n c B zs A' n c' B' zs w hn hl hl hr hr').mono (fun e w' h => ⟨by rw [h.1, decide_eq_true rfl], h.2⟩)
theorem own_addr {k : IntKind} {e : TypeId} {w : World} {base : Nat} {v : Value} {zs : List Int} (h : OwnInts k e w base v zs) (hn : 0 < zs.length) : ∃ g cap, v = .slice (some ⟨g, 0, none⟩) zs.length cap ∧ base ≤ g ∧ g < w.heap.size ∧ zs.length ≤ cap ∧ cap ≤ maxLen ∧ IntsAt k w w.heap.size (some ⟨g, 0, none⟩) zs := by
  obtain ⟨A', c', hv, hcl, hcm, _, hi⟩ := OwnInts.form h
  rcases h.2 with ⟨_, h0⟩ | ⟨g, cap, cur, rfl, hb, hg, _⟩
  · omega
  · injection hv with hv1 hv2 hv3
    subst hv1 hv3
    exact ⟨g, cap, rfl, hb, (Array.getElem?_eq_some_iff.1 hg).1, hcl, hcm, hi⟩
theorem seal_wf {zs : List Int} (h : ∀ z ∈ zs, (Lit.int .u64 z).wf = true) : ∀ z ∈ sealW zs, (Lit.int .u64 z).wf = true := fun z hz => by
  rcases List.mem_append.1 hz with h1 | h1
  · exact h z h1
  · have e := List.mem_singleton.1 h1
    have := crcN_lt 0 (wbytes zs)
    unfold sumW at e
    rw [e]
    simp [Lit.wf, IntKind.min, IntKind.max, IntKind.bits, IntKind.signed]
    omega
theorem byte_val (b t : Nat) : (b : Int) / 2 ^ (8 * t) % 256 = ((b / 256 ^ t % 256 : Nat) : Int) := by
  have h : (2 : Int) ^ (8 * t) = ((256 ^ t : Nat) : Int) := by
    rw [Int.natCast_pow, Int.pow_mul]
    rfl
  rw [h]
  rfl
theorem pks_wf {bs : List Int} (n : Nat) (h : ∀ b ∈ bs, 0 ≤ b ∧ b ≤ 255) : ∀ z ∈ pks bs n, (Lit.int .u64 z).wf = true := fun z hz => by
  obtain ⟨j, _, rfl⟩ := List.mem_map.1 hz
  have := pkw_range bs j h
  simp [Lit.wf, IntKind.min, IntKind.max, IntKind.bits, IntKind.signed]
  omega
theorem wf_rng {zs : List Int} (h : ∀ z ∈ zs, (Lit.int .u64 z).wf = true) : ∀ z ∈ zs, 0 ≤ z ∧ z ≤ 18446744073709551615 := fun z hz => wf_u64 (h z hz)
theorem byte_at' {zs : List Int} (hw : ∀ z ∈ zs, 0 ≤ z ∧ z ≤ 255) {k : Nat} (h : k < zs.length) : ∃ b : Nat, b < 256 ∧ zs.getD k 0 = (b : Int) := by
  have := hw (zs.getD k 0) (by simp [List.getD, h])
  exact ⟨(zs.getD k 0).toNat, by omega, by omega⟩
theorem wrap_s (s : Nat) (h : s < 4294967296) : IntKind.u64.wrap (s : Int) = (s : Int) := IntWalk.u64_in _ ⟨by omega, by omega⟩
theorem wrap_n1 (n N : Nat) (h : n + 1 = N) (h40 : n ≤ 40) : wrap64 ((n : Int) + 1) = (N : Int) ∧ IntKind.i64.wrap ((n : Int) + 1) = (N : Int) :=
  ⟨by unfold wrap64; omega, by rw [IntWalk.i64_in _ ⟨by omega, by omega⟩]; omega⟩
theorem sum_lit (zs : List Int) (s : Nat) (h : crcN 0 (wbytes zs) = s) : sumW zs = (s : Int) := by unfold sumW; rw [h]
set_option maxRecDepth 100000 in
set_option maxHeartbeats 8000000 in
theorem walk (W : World) (tb : Tab W) (A0 : Option Addr) (n0 c0 : Nat) (z0 : List Int) (l0 : z0.length = n0) (b0 : n0 ≤ c0) (m0 : c0 ≤ maxLen) (s0 : c0 * 8 ≤ 140737488351232) (r0 : IntsAt .u64 W W.heap.size A0 z0) (w0 : ∀ z ∈ z0, (Lit.int .u64 z).wf = true)
    (a1 : Int) (w1 : (Lit.int .i64 a1).wf = true) (a2 : Int) (w2 : (Lit.int .u32 a2).wf = true) :
    Calls Tryd.prog 3 #[.slice A0 n0 c0, .int .i64 a1, .int .u32 a2] W fun e W' => e = .returned (.bool true) ∧ Below W.heap.size W W' := by
  obtain ⟨n, hn⟩ : ∃ k, (if 40 < (n0 : Int) then 40 else (n0 : Int)) = (k : Nat) := by
    by_cases h : 40 < (n0 : Int)
    · exact ⟨40, by rw [if_pos h]; rfl⟩
    · exact ⟨n0, by rw [if_neg h]⟩
  have hn2 : n ≤ 40 ∧ n ≤ n0 := by
    split at hn <;> omega
  have hnc : n ≤ c0 := by omega
  have HN40 := Lib.hid hn2.1
  obtain ⟨zs, hzs⟩ : ∃ zs, z0.take n = zs := ⟨_, rfl⟩
  have HL : Hid (zs.length = n) := Lib.hid (by rw [← hzs, List.length_take]; omega)
  have HR : Hid (IntsAt .u64 W W.heap.size A0 zs) := Lib.hid (by rw [← hzs]; exact r0.take n)
  have HZ : Hid (∀ z ∈ zs, (Lit.int .u64 z).wf = true) := Lib.hid (fun z hz => by rw [← hzs] at hz; exact w0 z (List.mem_of_mem_take hz))
  have HT := Lib.hid (fun w (hb : Below W.heap.size W w) => Lib.hid (tb.below hb))
  have b1 := wf_i64 w1
  have b2 := wf_u32 w2
  obtain ⟨p, rfl⟩ := Int.eq_ofNat_of_zero_le b2.1
  have HB1 := Lib.hid b1
  have HP : Hid (p < 4294967296) := Lib.hid (by omega)
  obtain ⟨s, hs⟩ : ∃ s, crcN 0 (wbytes zs) = s := ⟨_, rfl⟩
  have hsl : s < 4294967296 := by rw [← hs]; exact crcN_lt 0 _
  have HS := Lib.hid (sum_lit zs s hs)
  obtain ⟨N, hN⟩ : ∃ N, n + 1 = N := ⟨_, rfl⟩
  have HN := Lib.hid hN
  have HSN : Hid ((sealW zs).length = N) := Lib.hid (by rw [seal_len, HL.out, hN])
  have hnN : n < N := by omega
  have hq6 : n ≤ 1000000 := Nat.le_trans HN40.out (by decide)
  have hq19 : n ≤ 9223372036854775807 := Nat.le_trans HN40.out (by decide)
  have HSL := Lib.hid (fun w (hb : Below W.heap.size W w) => seal_any A0 n c0 W.heap.size zs w HL.out hq6 (HT.out w hb) (Lib.hid (HR.out.below hb)) hb.size HZ)
  have HWD : Hid (∀ w, Below W.heap.size W w → Calls Tryd.prog 7 #[.slice A0 n c0] w fun e w' => e = .returned (.int .u32 (s : Int)) ∧ ∃ n, w' = w.drewN n) := Lib.hid (fun w hb => by
    have := words_any A0 n c0 W.heap.size zs w HL.out hq19 (HT.out w hb) (Lib.hid (HR.out.below hb)) HZ
    rw [hs] at this
    exact this)
  have hws := wrap_s s hsl
  obtain ⟨hw64, hw64b⟩ := wrap_n1 n N HN.out HN40.out
  clear tb l0 b0 m0 s0 r0 w0 w1 w2 b1 b2 hs hN hzs hn2
  go_enter Tryd.func3, Tryd.ntmps3
  go_upto_region 5 with (first
    | (go_at_call 4; go_must (refine (Rec.awake_any _).mono ?_); rintro e wA ⟨rfl, hA⟩; have HA := Lib.hid hA; clear hA)
    | (go_at_call 5; go_must (refine (HSL.out _ HA.out).mono ?_); rintro e wS ⟨v, rfl, HO⟩; obtain ⟨g, cap, rfl, hglo, hghi, hcl, hcm, hi⟩ := own_addr HO.out.1 (by rw [HSN.out]; exact Nat.lt_of_le_of_lt (Nat.zero_le n) hnN); rw [HSN.out] at hcl ⊢; have HRS := Lib.hid hi; have HBS := Lib.hid (below_step HA.out HO.out.2); clear hi hcm hglo))
  have hnc2 : n ≤ cap := Nat.le_trans (Nat.le_of_lt hnN) hcl
  clear hn
  have HHD : Hid (IntsAt .u64 wS wS.heap.size (some ⟨g, 0, none⟩) zs) := Lib.hid (by
    have := HRS.out.take zs.length
    rw [seal_take] at this
    exact this)
  have HLC : Hid (∀ w2, Below wS.heap.size wS w2 → w2.cell? ⟨g, n, none⟩ = some (.int .u64 (s : Int))) := Lib.hid (fun w2 hb => by
    obtain ⟨ad, e, hlt, hc⟩ := HRS.out n (by rw [HSN.out]; exact hnN)
    injection e with e
    subst e
    have e2 : (sealW zs).getD n 0 = (s : Int) := by rw [← HL.out, seal_last, HS.out]
    rw [e2, addr_add] at hc
    exact (hb.cell (p := ⟨g, n, none⟩) hghi).trans hc)
  have hbS : Below wS.heap.size wS wS := Below.refl _ _
  have lc0 := HLC.out wS hbS
  have lc1 := HLC.out wS.drew hbS.drew
  have HWS := Lib.hid (fun w (hb : Below wS.heap.size wS w) => HBS.out.trans (hb.mono HBS.out.size))
  have HWD2 := Lib.hid (fun w (hb : Below wS.heap.size wS w) => HWD.out w (HWS.out w hb))
  have HEQ : Hid (∀ w, Below wS.heap.size wS w → Calls Tryd.prog 6 #[.slice (some ⟨g, 0, none⟩) n cap, .slice A0 n c0] w fun e w' => e = .returned (.bool true) ∧ Below w.heap.size w w') := Lib.hid (fun w hb => equ_same _ n cap _ zs A0 c0 _ w hq19 HL.out (Lib.hid (HHD.out.below hb)) (Lib.hid (HR.out.below (HWS.out w hb))))
  go_cut [54] from 29 (fun c wx => c = .bool false ∧ Hid (Below wS.heap.size wS wx))
  case first =>
    refine wp_region_held_drew (S := fun w' => w'.cell? ⟨g, n, none⟩ = some (.int .u64 (s : Int)) ∧ Below wS.heap.size wS w') (by kernel_rfl) (by (try dsimp only); (first | (refine ⟨?_, ?_⟩ <;> assumption) | exact ⟨HLC.out _ hbS.drew, hbS.drew⟩)) (fun hHeld => ?_)
    refine wpAnyH_take (i := 0) (oi := ({ dst := some 29, op := Op.move (Operand.tmp 7), type := 22, pos := "law.go:376", after := #[], guard := none } : Oper)) (v := ?_) rfl (by kernel_rfl) (by kernel_rfl) (by kernel_rfl) (fun _ _ _ h => h) (Or.inl ⟨by rfl, ?_⟩) (by assumption) ?_
    rotate_left
    · (intro w hSw; (try dsimp only at hSw); go_simp <;> with_reducible rfl)
    (try simp only [Act.put, List.setIfInBounds_toArray, List.set_cons_zero, List.set_cons_succ])
    refine wpAnyH_take (i := 2) (oi := ({ dst := some 31, op := Op.move (Operand.tmp 0), type := 22, pos := "law.go:376", after := #[], guard := none } : Oper)) (v := ?_) rfl (by kernel_rfl) (by kernel_rfl) (by kernel_rfl) (fun _ _ _ h => h) (Or.inl ⟨by rfl, ?_⟩) (by assumption) ?_
    rotate_left
    · (intro w hSw; (try dsimp only at hSw); go_simp <;> with_reducible rfl)
    (try simp only [Act.put, List.setIfInBounds_toArray, List.set_cons_zero, List.set_cons_succ])
    refine wpAnyH_take (i := 1) (oi := ({ dst := some 30, op := Op.call { callee := Callee.builtin Builtin.len, args := #[Operand.tmp 29], argTypes := #[22] }, type := 3, pos := "law.go:376", after := #[{ on := 0, ground := Ground.data }], guard := none } : Oper)) (v := ?_) rfl (by kernel_rfl) (by kernel_rfl) (by kernel_rfl) (fun _ _ _ h => h) (Or.inl ⟨by rfl, ?_⟩) (by assumption) ?_
    rotate_left
    · (intro w hSw; (try dsimp only at hSw); go_simp <;> with_reducible rfl)
    (try simp only [Act.put, List.setIfInBounds_toArray, List.set_cons_zero, List.set_cons_succ])
    refine wpAnyH_take (i := 3) (oi := ({ dst := some 32, op := Op.call { callee := Callee.builtin Builtin.len, args := #[Operand.tmp 31], argTypes := #[22] }, type := 3, pos := "law.go:376", after := #[{ on := 2, ground := Ground.data }], guard := none } : Oper)) (v := ?_) rfl (by kernel_rfl) (by kernel_rfl) (by kernel_rfl) (fun _ _ _ h => h) (Or.inl ⟨by rfl, ?_⟩) (by assumption) ?_
    rotate_left
    · (intro w hSw; (try dsimp only at hSw); go_simp <;> with_reducible rfl)
    (try simp only [Act.put, List.setIfInBounds_toArray, List.set_cons_zero, List.set_cons_succ])
    refine wpAnyH_take (i := 4) (oi := ({ dst := some 33, op := Op.binOp BinOp.add 3 (Operand.tmp 32) (Operand.const (Value.int IntKind.i64 1)) 3, type := 3, pos := "law.go:376", after := #[{ on := 3, ground := Ground.data }], guard := none } : Oper)) (v := ?_) rfl (by kernel_rfl) (by kernel_rfl) (by kernel_rfl) (fun _ _ _ h => h) (Or.inl ⟨by rfl, ?_⟩) (by assumption) ?_
    rotate_left
    · (intro w hSw; (try dsimp only at hSw); go_simp <;> with_reducible rfl)
    (try simp only [Act.put, List.setIfInBounds_toArray, List.set_cons_zero, List.set_cons_succ])
    refine wpAnyH_take (i := 5) (oi := ({ dst := some 34, op := Op.binOp BinOp.neq 3 (Operand.tmp 30) (Operand.tmp 33) 3, type := 4, pos := "law.go:376", after := #[{ on := 1, ground := Ground.data }, { on := 4, ground := Ground.data }], guard := none } : Oper)) (v := ?_) rfl (by kernel_rfl) (by kernel_rfl) (by kernel_rfl) (fun _ _ _ h => h) (Or.inl ⟨by rfl, ?_⟩) (by assumption) ?_
    rotate_left
    · (intro w hSw; (try dsimp only at hSw); go_simp <;> with_reducible rfl)
    (try simp only [Act.put, List.setIfInBounds_toArray, List.set_cons_zero, List.set_cons_succ])
    refine wpAnyH_take (i := 6) (oi := ({ dst := some 35, op := Op.move (Operand.tmp 34), type := 4, pos := "law.go:376", after := #[{ on := 5, ground := Ground.data }], guard := none } : Oper)) (v := ?_) rfl (by kernel_rfl) (by kernel_rfl) (by kernel_rfl) (fun _ _ _ h => h) (Or.inl ⟨by rfl, ?_⟩) (by assumption) ?_
    rotate_left
    · (intro w hSw; (try dsimp only at hSw); go_simp <;> with_reducible rfl)
    (try simp only [Act.put, List.setIfInBounds_toArray, List.set_cons_zero, List.set_cons_succ])
    refine wpAnyH_take (i := 7) (oi := ({ dst := some 36, op := Op.move (Operand.tmp 7), type := 22, pos := "law.go:376", after := #[{ on := 6, ground := Ground.guard }], guard := some (6, false) } : Oper)) (v := ?_) rfl (by kernel_rfl) (by kernel_rfl) (by kernel_rfl) (fun _ _ _ h => h) (Or.inl ⟨by rfl, ?_⟩) (by assumption) ?_
    rotate_left
    · (intro w hSw; (try dsimp only at hSw); go_simp <;> with_reducible rfl)
    (try simp only [Act.put, List.setIfInBounds_toArray, List.set_cons_zero, List.set_cons_succ])
    refine wpAnyH_take (i := 8) (oi := ({ dst := some 37, op := Op.move (Operand.tmp 0), type := 22, pos := "law.go:376", after := #[{ on := 6, ground := Ground.guard }], guard := some (6, false) } : Oper)) (v := ?_) rfl (by kernel_rfl) (by kernel_rfl) (by kernel_rfl) (fun _ _ _ h => h) (Or.inl ⟨by rfl, ?_⟩) (by assumption) ?_
    rotate_left
    · (intro w hSw; (try dsimp only at hSw); go_simp <;> with_reducible rfl)
    (try simp only [Act.put, List.setIfInBounds_toArray, List.set_cons_zero, List.set_cons_succ])
    refine wpAnyH_take (i := 11) (oi := ({ dst := some 40, op := Op.move (Operand.tmp 0), type := 22, pos := "law.go:376", after := #[{ on := 6, ground := Ground.guard }], guard := some (6, false) } : Oper)) (v := ?_) rfl (by kernel_rfl) (by kernel_rfl) (by kernel_rfl) (fun _ _ _ h => h) (Or.inl ⟨by rfl, ?_⟩) (by assumption) ?_
    rotate_left
    · (intro w hSw; (try dsimp only at hSw); go_simp <;> with_reducible rfl)
    (try simp only [Act.put, List.setIfInBounds_toArray, List.set_cons_zero, List.set_cons_succ])
    refine wpAnyH_take (i := 9) (oi := ({ dst := some 38, op := Op.call { callee := Callee.builtin Builtin.len, args := #[Operand.tmp 37], argTypes := #[22] }, type := 3, pos := "law.go:376", after := #[{ on := 8, ground := Ground.data }, { on := 6, ground := Ground.guard }], guard := some (6, false) } : Oper)) (v := ?_) rfl (by kernel_rfl) (by kernel_rfl) (by kernel_rfl) (fun _ _ _ h => h) (Or.inl ⟨by rfl, ?_⟩) (by assumption) ?_
    rotate_left
    · (intro w hSw; (try dsimp only at hSw); go_simp <;> with_reducible rfl)
    (try simp only [Act.put, List.setIfInBounds_toArray, List.set_cons_zero, List.set_cons_succ])
    refine wpAnyH_take (i := 10) (oi := ({ dst := some 39, op := Op.slice 22 (Operand.tmp 36) none (some (Operand.tmp 38)) none, type := 22, pos := "law.go:376", after := #[{ on := 7, ground := Ground.data }, { on := 9, ground := Ground.data }, { on := 6, ground := Ground.guard }], guard := some (6, false) } : Oper)) (v := ?_) rfl (by kernel_rfl) (by kernel_rfl) (by kernel_rfl) (fun _ _ _ h => h) (Or.inl ⟨by rfl, ?_⟩) (by assumption) ?_
    rotate_left
    · (intro w hSw; (try dsimp only at hSw); go_simp <;> with_reducible rfl)
    (try simp only [Act.put, List.setIfInBounds_toArray, List.set_cons_zero, List.set_cons_succ])
    refine wpAnyH_ready (rs := [12]) (by kernel_rfl) (by simp) ?_
    refine AllReadyH.cons (o := ({ dst := some 41, op := Op.call { callee := Callee.value (Operand.func 6), args := #[Operand.tmp 39, Operand.tmp 40], argTypes := #[22, 22] }, type := 4, pos := "law.go:376", after := #[{ on := 10, ground := Ground.data }, { on := 11, ground := Ground.data }, { on := 6, ground := Ground.chain }, { on := 6, ground := Ground.guard }], guard := some (6, false) } : Oper)) rfl (fun K hK => ?_) AllReadyH.nil
    go_simp
    go_at_call 6; go_must (refine (HEQ.out _ hHeld.2).mono ?_); rintro e w2 ⟨rfl, h2⟩; have h2S : Below wS.heap.size wS w2 := below_step hHeld.2 h2; have lc2 := HLC.out w2 h2S; clear h2
    refine hK.out _ _ (by (try dsimp only); (first | assumption | (refine ⟨?_, ?_⟩ <;> assumption))) (fun hHeld => ?_)
    clear hK K
    (try simp only [Act.put, List.setIfInBounds_toArray, List.set_cons_zero, List.set_cons_succ])
    refine wpAnyH_take (i := 13) (oi := ({ dst := some 42, op := Op.unOp UnOp.not 4 (Operand.tmp 41), type := 4, pos := "law.go:376", after := #[{ on := 12, ground := Ground.data }, { on := 6, ground := Ground.guard }], guard := some (6, false) } : Oper)) (v := ?_) rfl (by kernel_rfl) (by kernel_rfl) (by kernel_rfl) (fun _ _ _ h => h) (Or.inl ⟨by rfl, ?_⟩) (by assumption) ?_
    rotate_left
    · (intro w hSw; (try dsimp only at hSw); go_simp <;> with_reducible rfl)
    (try simp only [Act.put, List.setIfInBounds_toArray, List.set_cons_zero, List.set_cons_succ])
    refine wpAnyH_take (i := 14) (oi := ({ dst := some 43, op := Op.pick (Operand.tmp 35) (Operand.const (Value.bool true)) (Operand.tmp 42), type := 4, pos := "law.go:376", after := #[{ on := 6, ground := Ground.data }, { on := 13, ground := Ground.data }], guard := none } : Oper)) (v := ?_) rfl (by kernel_rfl) (by kernel_rfl) (by kernel_rfl) (fun _ _ _ h => h) (Or.inl ⟨by rfl, ?_⟩) (by assumption) ?_
    rotate_left
    · (intro w hSw; (try dsimp only at hSw); go_simp <;> with_reducible rfl)
    (try simp only [Act.put, List.setIfInBounds_toArray, List.set_cons_zero, List.set_cons_succ])
    refine wpAnyH_take (i := 15) (oi := ({ dst := some 44, op := Op.move (Operand.tmp 43), type := 4, pos := "law.go:376", after := #[{ on := 14, ground := Ground.data }, { on := 12, ground := Ground.chain }], guard := none } : Oper)) (v := ?_) rfl (by kernel_rfl) (by kernel_rfl) (by kernel_rfl) (fun _ _ _ h => h) (Or.inl ⟨by rfl, ?_⟩) (by assumption) ?_
    rotate_left
    · (intro w hSw; (try dsimp only at hSw); go_simp <;> with_reducible rfl)
    (try simp only [Act.put, List.setIfInBounds_toArray, List.set_cons_zero, List.set_cons_succ])
    refine wpAnyH_take (i := 16) (oi := ({ dst := some 45, op := Op.move (Operand.tmp 7), type := 22, pos := "law.go:376", after := #[{ on := 15, ground := Ground.guard }], guard := some (15, false) } : Oper)) (v := ?_) rfl (by kernel_rfl) (by kernel_rfl) (by kernel_rfl) (fun _ _ _ h => h) (Or.inl ⟨by rfl, ?_⟩) (by assumption) ?_
    rotate_left
    · (intro w hSw; (try dsimp only at hSw); go_simp <;> with_reducible rfl)
    (try simp only [Act.put, List.setIfInBounds_toArray, List.set_cons_zero, List.set_cons_succ])
    refine wpAnyH_take (i := 17) (oi := ({ dst := some 46, op := Op.move (Operand.tmp 0), type := 22, pos := "law.go:376", after := #[{ on := 15, ground := Ground.guard }], guard := some (15, false) } : Oper)) (v := ?_) rfl (by kernel_rfl) (by kernel_rfl) (by kernel_rfl) (fun _ _ _ h => h) (Or.inl ⟨by rfl, ?_⟩) (by assumption) ?_
    rotate_left
    · (intro w hSw; (try dsimp only at hSw); go_simp <;> with_reducible rfl)
    (try simp only [Act.put, List.setIfInBounds_toArray, List.set_cons_zero, List.set_cons_succ])
    refine wpAnyH_take (i := 21) (oi := ({ dst := some 50, op := Op.move (Operand.tmp 0), type := 22, pos := "law.go:376", after := #[{ on := 15, ground := Ground.guard }], guard := some (15, false) } : Oper)) (v := ?_) rfl (by kernel_rfl) (by kernel_rfl) (by kernel_rfl) (fun _ _ _ h => h) (Or.inl ⟨by rfl, ?_⟩) (by assumption) ?_
    rotate_left
    · (intro w hSw; (try dsimp only at hSw); go_simp <;> with_reducible rfl)
    (try simp only [Act.put, List.setIfInBounds_toArray, List.set_cons_zero, List.set_cons_succ])
    refine wpAnyH_take (i := 18) (oi := ({ dst := some 47, op := Op.call { callee := Callee.builtin Builtin.len, args := #[Operand.tmp 46], argTypes := #[22] }, type := 3, pos := "law.go:376", after := #[{ on := 17, ground := Ground.data }, { on := 15, ground := Ground.guard }], guard := some (15, false) } : Oper)) (v := ?_) rfl (by kernel_rfl) (by kernel_rfl) (by kernel_rfl) (fun _ _ _ h => h) (Or.inl ⟨by rfl, ?_⟩) (by assumption) ?_
    rotate_left
    · (intro w hSw; (try dsimp only at hSw); go_simp <;> with_reducible rfl)
    (try simp only [Act.put, List.setIfInBounds_toArray, List.set_cons_zero, List.set_cons_succ])
    refine wpAnyH_take (i := 19) (oi := ({ dst := some 48, op := Op.indexAddr 22 (Operand.tmp 45) (Operand.tmp 47), type := 0, pos := "law.go:376", after := #[{ on := 16, ground := Ground.data }, { on := 18, ground := Ground.data }, { on := 15, ground := Ground.guard }], guard := some (15, false) } : Oper)) (v := ?_) rfl (by kernel_rfl) (by kernel_rfl) (by kernel_rfl) (fun _ _ _ h => h) (Or.inl ⟨by rfl, ?_⟩) (by assumption) ?_
    rotate_left
    · (intro w hSw; (try dsimp only at hSw); go_simp <;> with_reducible rfl)
    (try simp only [Act.put, List.setIfInBounds_toArray, List.set_cons_zero, List.set_cons_succ])
    refine wpAnyH_take (i := 20) (oi := ({ dst := some 49, op := Op.load 27 (Operand.tmp 48), type := 27, pos := "law.go:376", after := #[{ on := 19, ground := Ground.data }, { on := 15, ground := Ground.guard }], guard := some (15, false) } : Oper)) (v := ?_) rfl (by kernel_rfl) (by kernel_rfl) (by kernel_rfl) (fun _ _ _ h => h) (Or.inl ⟨by rfl, ?_⟩) (by assumption) ?_
    rotate_left
    · (intro w hSw; (try dsimp only at hSw); go_simp <;> with_reducible rfl)
    (try simp only [Act.put, List.setIfInBounds_toArray, List.set_cons_zero, List.set_cons_succ])
    refine wpAnyH_ready (rs := [22]) (by kernel_rfl) (by simp) ?_
    refine AllReadyH.cons (o := ({ dst := some 51, op := Op.call { callee := Callee.value (Operand.func 7), args := #[Operand.tmp 50], argTypes := #[22] }, type := 23, pos := "law.go:376", after := #[{ on := 21, ground := Ground.data }, { on := 15, ground := Ground.chain }, { on := 15, ground := Ground.guard }], guard := some (15, false) } : Oper)) rfl (fun K hK => ?_) AllReadyH.nil
    go_simp
    go_at_call 7; go_must (refine (HWD2.out _ hHeld.2).mono ?_); rintro e w3 ⟨rfl, k, hw3⟩; have h3S : Below wS.heap.size wS w3 := (by rw [hw3]; exact below_draws hHeld.2 _); have lc4 := HLC.out w3 h3S; clear hw3
    refine hK.out _ _ (by (try dsimp only); (first | assumption | (refine ⟨?_, ?_⟩ <;> assumption))) (fun hHeld => ?_)
    clear hK K
    (try simp only [Act.put, List.setIfInBounds_toArray, List.set_cons_zero, List.set_cons_succ])
    refine wpAnyH_take (i := 23) (oi := ({ dst := some 52, op := Op.convert 23 27 (Operand.tmp 51), type := 27, pos := "law.go:376", after := #[{ on := 22, ground := Ground.data }, { on := 15, ground := Ground.guard }], guard := some (15, false) } : Oper)) (v := ?_) rfl (by kernel_rfl) (by kernel_rfl) (by kernel_rfl) (fun _ _ _ h => h) (Or.inl ⟨by rfl, ?_⟩) (by assumption) ?_
    rotate_left
    · (intro w hSw; (try dsimp only at hSw); go_simp <;> with_reducible rfl)
    (try simp only [Act.put, List.setIfInBounds_toArray, List.set_cons_zero, List.set_cons_succ])
    refine wpAnyH_take (i := 24) (oi := ({ dst := some 53, op := Op.binOp BinOp.neq 27 (Operand.tmp 49) (Operand.tmp 52) 27, type := 4, pos := "law.go:376", after := #[{ on := 20, ground := Ground.data }, { on := 23, ground := Ground.data }, { on := 15, ground := Ground.guard }], guard := some (15, false) } : Oper)) (v := ?_) rfl (by kernel_rfl) (by kernel_rfl) (by kernel_rfl) (fun _ _ _ h => h) (Or.inl ⟨by rfl, ?_⟩) (by assumption) ?_
    rotate_left
    · (intro w hSw; (try dsimp only at hSw); go_simp <;> with_reducible rfl)
    (try simp only [Act.put, List.setIfInBounds_toArray, List.set_cons_zero, List.set_cons_succ])
    refine wpAnyH_take (i := 25) (oi := ({ dst := some 54, op := Op.pick (Operand.tmp 44) (Operand.const (Value.bool true)) (Operand.tmp 53), type := 4, pos := "law.go:376", after := #[{ on := 15, ground := Ground.data }, { on := 24, ground := Ground.data }], guard := none } : Oper)) (v := ?_) rfl (by kernel_rfl) (by kernel_rfl) (by kernel_rfl) (fun _ _ _ h => h) (Or.inl ⟨by rfl, ?_⟩) (by assumption) ?_
    rotate_left
    · (intro w hSw; (try dsimp only at hSw); go_simp <;> with_reducible rfl)
    (try simp only [Act.put, List.setIfInBounds_toArray, List.set_cons_zero, List.set_cons_succ])
    refine wpAnyH_done (by kernel_rfl) ?_ _
    (go_wp2; go_meet; exact ⟨rfl, Lib.hid h3S⟩)
  case rest =>
    obtain ⟨rfl, HC⟩ := hcut
    have HWF := Lib.hid (seal_wf HZ.out)
    have HOS : Hid (∀ w, Below wS.heap.size wS w → Calls Tryd.prog 8 #[.slice (some ⟨g, 0, none⟩) N cap] w fun e w' => ∃ A' c', e = .returned (.tuple #[.slice A' n c', .int .i64 0]) ∧ Hid (IntsAt .u64 w' w'.heap.size A' zs ∧ Below w.heap.size w w')) := Lib.hid (fun w hb => by
      have := open_gen (some ⟨g, 0, none⟩) n cap wS.heap.size (sealW zs) w (by rw [seal_len, HL.out]) hq6 (by rw [HN.out]; exact hcl) (HT.out w (HWS.out w hb)) (Lib.hid (HRS.out.below hb)) hb.size HWF
      rw [HN.out] at this
      refine this.mono ?_
      rintro e w' (⟨A', c', rfl, h⟩ | ⟨rfl, h⟩)
      · refine ⟨A', c', rfl, Lib.hid ⟨?_, h.out.2.2⟩⟩
        have := h.out.2.1
        rw [← HL.out, seal_take] at this
        exact this
      · exact absurd (seal_opens zs) h.out.1)
    clear lc0 lc1 hws hw64 hw64b
    go_wp2_with (first
      | (go_at_call 8; go_must (refine (HOS.out _ HC.out).mono ?_); rintro e wO ⟨AB, cB, rfl, HB⟩; have HOB : Hid (Below wS.heap.size wS wO) := Lib.hid (below_step HC.out HB.out.2))
      | (go_at_call 6; go_must (refine (equ_same AB n cB wO.heap.size zs A0 c0 W.heap.size wO hq19 HL.out (Lib.hid HB.out.1) (Lib.hid (HR.out.below (HWS.out _ HOB.out)))).mono ?_); rintro e w5 ⟨rfl, h5⟩; have H5 : Hid (Below wS.heap.size wS w5) := Lib.hid (below_step HOB.out h5); clear h5))
    have HRS5 := Lib.hid (HRS.out.below H5.out)
    have HGL : Hid (g < w5.heap.size) := Lib.hid (Nat.lt_of_lt_of_le hghi H5.out.size)
    obtain ⟨i8, hi, hz0, hz1, hz2⟩ := info_parts info8
    have HI := Lib.hid hi
    have HZ0 := Lib.hid hz0
    have HZ1 := Lib.hid hz1
    have HZ2 := Lib.hid hz2
    have HN41 : Hid (N ≤ 41) := Lib.hid (by have := HN.out; have := HN40.out; omega)
    have hN41 := HN41.out
    clear hi hz0 hz1 hz2 HOS HSL HWD HWD2 HEQ HLC HHD
    go_loopw [10, 70] (fun v i wr => ∃ k : Nat, k ≤ N ∧ i = .int .i64 k ∧ Hid (OwnInts .u8 5 wr w5.heap.size v (wbytes ((sealW zs).take k)) ∧ Below w5.heap.size w5 wr)) (fun _ i _ => N - (intOf i).toNat)
    case atStart => exact ⟨0, Nat.zero_le _, rfl, Lib.hid ⟨OwnInts.nil_ _ _ _ _, Below.refl _ _⟩⟩
    case round =>
      obtain ⟨k, hk, rfl, HO⟩ := hrel
      by_cases hlt : k < N
      · have hkl : k < (sealW zs).length := by rw [HSN.out]; exact hlt
        have HLT := Lib.hid hlt
        obtain ⟨ad, hade, hadb, hcell0⟩ := HRS5.out k hkl
        injection hade with hade
        subst hade
        obtain ⟨b, hb, eb⟩ := word_at HWF.out hkl
        have HSx : Hid (wbytes ((sealW zs).take (k + 1)) = wbytes ((sealW zs).take k) ++ wb b) := Lib.hid (by rw [wbytes_snoc (sealW zs) k hkl, eb, Int.toNat_natCast])
        rw [eb, addr_add] at hcell0
        have hcell := (HO.out.2.cell (p := ⟨g, k, none⟩) HGL.out).trans hcell0
        have HLen : Hid ((wbytes ((sealW zs).take k)).length = 8 * k) := Lib.hid (by rw [wbytes_len, List.length_take, HSN.out]; omega)
        have HO1 : Hid (OwnInts .u8 5 wr w5.heap.size u10 (wbytes ((sealW zs).take k) ++ (wb b).take 0) ∧ Below w5.heap.size w5 wr) := Lib.hid (by simpa using HO.out)
        clear eb hkl hcell0
        go_wp2
        obtain ⟨wo, hwo⟩ : ∃ wo, wo = wr := ⟨_, rfl⟩
        obtain ⟨out, hout⟩ : ∃ out, out = u10 := ⟨_, rfl⟩
        subst hwo hout
        go_loopw [10, 74] (fun v i wq => ∃ t : Nat, t ≤ 8 ∧ i = .int .i64 t ∧ Hid (OwnInts .u8 5 wq w5.heap.size v (wbytes ((sealW zs).take k) ++ (wb b).take t) ∧ Below w5.heap.size w5 wq)) (fun _ i _ => 8 - (intOf i).toNat)
        case atStart => exact ⟨0, by omega, rfl, HO1⟩
        case round =>
          obtain ⟨t, htt, rfl, HQ⟩ := hrel
          by_cases ht8 : t < 8
          · have HV : Hid ((wb b).take (t + 1) = (wb b).take t ++ [(b : Int) / 2 ^ (8 * t) % 256]) := Lib.hid (by rw [byte_val]; exact take_snoc8 b t ht8)
            have HTL : Hid (((wb b).take t).length = t) := Lib.hid (by rw [List.length_take, wb_len]; omega)
            have HPL : Hid ((wbytes ((sealW zs).take k) ++ (wb b).take t).length + 1 ≤ 400) := Lib.hid (by rw [List.length_append, HLen.out, HTL.out]; have := HN41.out; omega)
            go_wp2_with (at_builtin; (refine wpList_app (by simp [Region.wanted, yielded]) (.tmp 77) (.tmp 83) 32 rfl (v := u10) (B := wr.heap.size + 1) (c := 1) (A := some ⟨wr.heap.size, 0, none⟩) (zs := [(b : Int) / 2 ^ (8 * t) % 256]) Tryd.underlying32 HI.out HZ0.out HZ1.out HZ2.out rfl rfl (HQ.out.1.alloc _) rfl (IntsAt.new .u8 wr 5 (0, 0) [(b : Int) / 2 ^ (8 * t) % 256]) rfl (by have := HPL.out; simp only [maxLen]; omega) (by have := HPL.out; omega) (Nat.le_trans HQ.out.2.size (by simp)) ?_); intro v3 w3 ho3 hg3 ha3)
            have HB3 : Hid (Below w5.heap.size w5 w3) := Lib.hid ((HQ.out.2.alloc HQ.out.2.size _).trans ((HQ.out.1.alloc _).grownBelow hg3 (Nat.le_trans HQ.out.2.size (by simp))))
            have HO3 : Hid (OwnInts .u8 5 w3 w5.heap.size v3 (wbytes ((sealW zs).take k) ++ (wb b).take (t + 1))) := Lib.hid (by rw [HV.out, ← List.append_assoc]; exact ho3)
            clear ho3 hg3 ha3
            go_roundw
            case rel => exact ⟨t + 1, by omega, by go_num, Lib.hid ⟨HO3.out, HB3.out⟩⟩
            case measure => simp [intOf]; omega
          · have h8 : t = 8 := by omega
            subst h8
            have HT8 : Hid ((wb b).take 8 = wb b) := Lib.hid (List.take_of_length_le (by rw [wb_len]; exact Nat.le_refl _))
            go_wp2
            go_roundw
            case rel => exact ⟨k + 1, HLT.out, by go_num, Lib.hid (by have := HQ.out; rw [HT8.out, ← HSx.out] at this; exact this)⟩
            case measure => have := HLT.out; simp [intOf]; omega
      · have hk' : (sealW zs).length ≤ k := by rw [HSN.out]; omega
        have HTK : Hid ((sealW zs).take k = sealW zs) := Lib.hid (List.take_of_length_le hk')
        have HOP : Hid (OwnInts .u8 5 wr w5.heap.size u10 (wbytes (sealW zs)) ∧ Below w5.heap.size w5 wr) := Lib.hid (by have := HO.out; rw [HTK.out] at this; exact this)
        clear hk' HTK HO
        obtain ⟨P, hP⟩ : ∃ P, wbytes (sealW zs) = P := ⟨_, rfl⟩
        have HPL : Hid (P.length = 8 * N) := Lib.hid (by rw [← hP, wbytes_len, HSN.out])
        have HPR : Hid (∀ z ∈ P, 0 ≤ z ∧ z ≤ 255) := Lib.hid (by rw [← hP]; exact wbytes_wf _)
        have HPW : Hid (∀ z ∈ P, (Lit.int .u8 z).wf = true) := Lib.hid (fun z hz => lit8 (HPR.out z hz))
        have HPP := Lib.hid hP
        rw [hP] at HOP
        clear hP
        obtain ⟨AP, cP, rfl, _, _, _, hpi⟩ := OwnInts.form HOP.out.1
        rw [HPL.out]
        have HPI := Lib.hid hpi
        clear hpi
        have HBU := Lib.hid (burst_any AP (8 * N) cP wr.heap.size P a1 p wr HPL.out (by omega) HPI (Nat.le_refl _) HPW HP.out HB1.out.1 HB1.out.2 (by omega))
        obtain ⟨Q, hQ⟩ : ∃ Q, brs P a1 p 32 = Q := ⟨_, rfl⟩
        have HQL : Hid (Q.length = 8 * N) := Lib.hid (by rw [← hQ, brs_len, HPL.out])
        have HQW : Hid (∀ z ∈ Q, (Lit.int .u8 z).wf = true) := Lib.hid (by rw [← hQ]; exact brs_wf a1 p HPW.out 32)
        have HQR : Hid (∀ z ∈ Q, 0 ≤ z ∧ z ≤ 255) := Lib.hid (fun z hz => wf_u8 (HQW.out z hz))
        have HQQ := Lib.hid hQ
        rw [hQ] at HBU
        clear hQ
        obtain ⟨i6, hi6, hy0, hy1, hy2⟩ := info_parts Seal.info64'
        have HI6 := Lib.hid hi6
        have HY0 := Lib.hid hy0
        have HY1 := Lib.hid hy1
        have HQM : Hid (N ≤ maxLen) := Lib.hid (by simp only [maxLen]; omega)
        have HQB : Hid (i6.bytes * N ≤ 281474976710656) := Lib.hid (by rw [hy2]; omega)
        clear hi6 hy0 hy1 hy2
        go_wp2_with (first
          | (go_at_call 9; go_must (refine HBU.out.mono ?_); rintro e w6 ⟨v6, rfl, HO6⟩; obtain ⟨AQ, cQ, rfl, _, _, _, hqi⟩ := OwnInts.form HO6.out.1; rw [HQL.out]; have HQI := Lib.hid hqi; have HB6 : Hid (Below w5.heap.size w5 w6) := Lib.hid (below_step HOP.out.2 HO6.out.2); clear hqi)
          | (at_make; refine wpList_make_full _ rfl _ _ 22 rfl w6.heap.size 27 i6 (.int .u64 0) 1 Tryd.underlying22 HI6.out HY0.out HY1.out .i64 .i64 (N : Int) (N : Int) N rfl rfl rfl rfl HQB.out HQM.out (Nat.le_refl _) ?_; intro w7 ho7 hg7; have HO7 : Hid (OwnInts .u64 27 w7 w6.heap.size (.slice (some ⟨w6.heap.size, 0, none⟩) N N) (pks (Q.take 0) N) ∧ Below w6.heap.size w6 w7) := Lib.hid ⟨by rw [List.take_zero, pks_zero]; exact OwnInts.made ho7, (Below.refl _ _).grown hg7 (Nat.le_refl _) (fun k hk => by cases hk)⟩; clear ho7 hg7))
        go_loopw [96] (fun i wq => ∃ k : Nat, k ≤ 8 * N ∧ i = .int .i64 k ∧ Hid (OwnInts .u64 27 wq w6.heap.size (.slice (some ⟨w6.heap.size, 0, none⟩) N N) (pks (Q.take k) N) ∧ Below w6.heap.size w6 wq)) (fun i _ => 8 * N - (intOf i).toNat)
        case atStart => exact ⟨0, Nat.zero_le _, rfl, HO7⟩
        case round =>
          obtain ⟨k, hk, rfl, HO⟩ := hrel
          rename World => wq
          by_cases hlt : k < 8 * N
          · have HLT := Lib.hid hlt
            have hkl : k < Q.length := by rw [HQL.out]; exact hlt
            obtain ⟨ad, rfl, hadb, hcell0⟩ := HQI.out k hkl
            obtain ⟨b, hb, eb⟩ := byte_at' HQR.out hkl
            have hcell := (HO.out.2.cell (p := ad.add k) (by rw [add_block]; omega)).trans hcell0
            rw [eb] at hcell
            have hkw : k / 8 < N := by omega
            obtain ⟨hc1, hf1⟩ := HO.out.1.cell (k / 8) (by rw [pks_len]; exact hkw)
            rw [pks_at _ _ _ hkw] at hc1
            have hsm := pkw_small Q k hkl HQR.out
            have HS1 := Lib.hid (pks_step Q N k hkl hkw)
            rw [eb] at HS1
            obtain ⟨W8, hW8⟩ := Int.eq_ofNat_of_zero_le hsm.1
            rw [hW8] at hc1 hsm HS1
            obtain ⟨r, hrr⟩ : ∃ r, k % 8 = r := ⟨_, rfl⟩
            have hr8 : r < 8 := by omega
            rw [hrr] at hsm HS1
            have hWl : W8 < 256 ^ r := by
              have h1 : ((W8 : Nat) : Int) < ((256 ^ r : Nat) : Int) := by rw [Int.natCast_pow]; exact hsm.2
              exact Int.ofNat_lt.1 h1
            obtain ⟨hs1, hs2, hs3⟩ := shl_byte b r hb hr8
            have hs4 := or_byte W8 b r hWl hb hr8
            have HV : (W8 : Int) + (b : Int) * 256 ^ r = ((W8 + b * 256 ^ r : Nat) : Int) := by rw [Int.natCast_add, Int.natCast_mul, Int.natCast_pow]; rfl
            rw [HV] at HS1
            obtain ⟨s2, hs2'⟩ : ∃ s2, 8 * r = s2 := ⟨_, rfl⟩
            have hs64 : s2 ≤ 56 := by omega
            rw [hs2'] at hs1
            obtain ⟨y, hy⟩ : ∃ y, b * 256 ^ r = y := ⟨_, rfl⟩
            rw [hy] at hs1 hs2 hs4 HS1
            have hyl : y < 18446744073709551616 := by omega
            have hWl2 : W8 < 18446744073709551616 := by
              have : (256 : Nat) ^ r ≤ 256 ^ (r + 1) := Nat.pow_le_pow_right (by omega) (by omega)
              omega
            obtain ⟨x, hx⟩ : ∃ x, W8 + y = x := ⟨_, rfl⟩
            rw [hx] at hs4 HS1
            obtain ⟨d, hd⟩ : ∃ d, k / 8 = d := ⟨_, rfl⟩
            rw [hd] at hc1 hf1 hkw HS1
            have HOx := Lib.hid ((show OwnInts .u64 27 wq.drew _ _ _ from HO.out.1).stored (pks_len _ _) d (x : Int))
            have HBx : Hid (Below w6.heap.size w6 (wq.drew.setCell ⟨w6.heap.size, d, none⟩ (.int .u64 (x : Int)))) := Lib.hid (HO.out.2.drew.setCell (Nat.le_refl _) _)
            rw [HS1.out] at HOx
            have hf2 : wq.drew.frozen? ⟨w6.heap.size, d, none⟩ = false := hf1
            have hc2 : wq.drew.cell? ⟨w6.heap.size, d, none⟩ = some (.int .u64 (W8 : Int)) := hc1
            have hdi : (k : Int) / 8 = (d : Int) := by omega
            have hdt : (k : Int).tdiv 8 = (d : Int) := by rw [Int.tdiv_eq_ediv_of_nonneg (by omega)]; exact hdi
            have hri : (k : Int) % 8 = (r : Int) := by omega
            have htm : (k : Int).tmod 8 = (r : Int) := by rw [Int.tmod_eq_emod_of_nonneg (by omega)]; exact hri
            have hwd : IntKind.i64.wrap (d : Int) = (d : Int) := IntWalk.i64_in _ ⟨by omega, by omega⟩
            have hwr : IntKind.i64.wrap (r : Int) = (r : Int) := IntWalk.i64_in _ ⟨by omega, by omega⟩
            have hws2 : IntKind.i64.wrap ((r : Int) * 8) = (s2 : Int) := by rw [IntKind.wrap_i64]; omega
            have hwb : IntKind.u64.wrap (b : Int) = (b : Int) := IntWalk.u64_in _ ⟨by omega, by omega⟩
            have hd0 : (0 : Int) ≤ (d : Int) := by omega
            have hdN : (d : Int) < (N : Int) := by omega
            have hs0 : (0 : Int) ≤ (s2 : Int) := by omega
            clear hd hrr hx hy hs2' hsm hWl hs2 hs3 HV hkl eb hW8 hcell0 hc1 hf1
            go_wp2
            go_still_tail 13, (by kernel_rfl)
            repeat still_step
            try refine wpStill_nil ?_
            change wpList _ _ _ _ _ wq.drew
            generalize wq.drew = wd at *
            clear hs1 hs4 hwd hwb hws2 hcell
            go_wp2
            go_roundw
            case rel => exact ⟨k + 1, HLT.out, by go_num, Lib.hid ⟨HOx.out, HBx.out⟩⟩
            case measure => have := HLT.out; simp [intOf]; omega
          · have hk' : Q.length ≤ k := by rw [HQL.out]; omega
            have HTK : Hid (Q.take k = Q) := Lib.hid (List.take_of_length_le hk')
            obtain ⟨M, hM⟩ : ∃ M, pks Q N = M := ⟨_, rfl⟩
            have HOm : Hid (OwnInts .u64 27 wq w6.heap.size (.slice (some ⟨w6.heap.size, 0, none⟩) N N) M ∧ Below w6.heap.size w6 wq) := Lib.hid (by have := HO.out; rw [HTK.out, hM] at this; exact this)
            have HML : Hid (M.length = N) := Lib.hid (by rw [← hM, pks_len])
            have HMW : Hid (∀ z ∈ M, (Lit.int .u64 z).wf = true) := Lib.hid (by rw [← hM]; exact pks_wf N HQR.out)
            have HMI : Hid (IntsAt .u64 wq wq.heap.size (some ⟨w6.heap.size, 0, none⟩) M) := Lib.hid (by
              obtain ⟨A', c', hv, _, _, _, hi⟩ := OwnInts.form HOm.out.1
              injection hv with hv1
              rw [hv1]
              exact hi)
            have HBq : Hid (Below wS.heap.size wS wq) := Lib.hid (below_step H5.out (below_step HB6.out HOm.out.2))
            have HCA : Hid (Go.Proofs.YtopnkhalmembhaaDoor.Seal.opens M → M = sealW zs) := Lib.hid (by
              have := caught zs a1 p (wf_rng HZ.out) (by rw [HPP.out, HQQ.out]; exact HQR.out)
              rw [HPP.out, HQQ.out, HL.out, HN.out, hM] at this
              exact this)
            have hOM := open_gen (some ⟨w6.heap.size, 0, none⟩) n N wq.heap.size M wq (by rw [HML.out, HN.out]) hq6 (by rw [HN.out]; exact Nat.le_refl _) (HT.out wq (HWS.out _ HBq.out)) HMI (Nat.le_refl _) HMW
            rw [HN.out] at hOM
            have HOM := Lib.hid hOM
            have HEM : Hid (∀ w, Below wq.heap.size wq w → Calls Tryd.prog 6 #[.slice (some ⟨w6.heap.size, 0, none⟩) N N, .slice (some ⟨g, 0, none⟩) N cap] w fun e w' => e = .returned (.bool (decide (M = sealW zs))) ∧ Below w.heap.size w w') := Lib.hid (fun w hb => Rec.equ_below _ N N _ M _ N cap _ (sealW zs) w (Nat.le_trans HN41.out (by decide)) HML.out HSN.out (Lib.hid (HMI.out.below hb)) (Lib.hid (HRS.out.below (below_step HBq.out hb))))
            have TO : True := trivial
            clear hk' HTK HO hM hOM
            by_cases hml : M = sealW zs
            · have HYES : Hid (Calls Tryd.prog 8 #[.slice (some ⟨w6.heap.size, 0, none⟩) N N] wq fun e w' => ∃ A' c', e = .returned (.tuple #[.slice A' n c', .int .i64 0]) ∧ Below wq.heap.size wq w') := Lib.hid (HOM.out.mono (fun e w' h => by
                rcases h with ⟨A', c', rfl, h⟩ | ⟨rfl, h⟩
                · exact ⟨A', c', rfl, h.out.2.2⟩
                · exact absurd (by rw [hml]; exact seal_opens zs) h.out.1))
              have HEY : Hid (∀ w, Below wq.heap.size wq w → Calls Tryd.prog 6 #[.slice (some ⟨w6.heap.size, 0, none⟩) N N, .slice (some ⟨g, 0, none⟩) N cap] w fun e w' => e = .returned (.bool true) ∧ Below w.heap.size w w') := Lib.hid (fun w hb => by
                have := HEM.out w hb
                rw [decide_eq_true hml] at this
                exact this)
              clear hml HOM HEM
              go_wp2_with (first
                | (go_at_call 8; have tt := TO; clear TO tt; go_must (refine HYES.out.mono ?_); rintro e w8 ⟨A8, c8, rfl, h8⟩; have H8 := Lib.hid h8; clear h8)
                | (go_at_call 8; go_must (refine (open_nil w8 none 0).mono ?_); rintro e w9 ⟨rfl, hw⟩; have hw2 := hw.symm; clear hw; subst hw2)
                | (go_at_call 6; go_must (refine (HEY.out _ H8.out).mono ?_); rintro e w10 ⟨rfl, h10⟩; have H10 := Lib.hid (below_step (HWS.out _ (below_step HBq.out H8.out)) h10); clear h10))
              go_ret
              exact ⟨rfl, H10.out⟩
            · have HNO : Hid (Calls Tryd.prog 8 #[.slice (some ⟨w6.heap.size, 0, none⟩) N N] wq fun e w' => e = .returned (.tuple #[.slice none 0 0, .int .i64 10]) ∧ Below wq.heap.size wq w') := Lib.hid (HOM.out.mono (fun e w' h => by
                rcases h with ⟨A', c', rfl, h⟩ | ⟨rfl, h⟩
                · exact absurd (HCA.out h.out.1) hml
                · exact ⟨rfl, h.out.2⟩))
              have HEN : Hid (∀ w, Below wq.heap.size wq w → Calls Tryd.prog 6 #[.slice (some ⟨w6.heap.size, 0, none⟩) N N, .slice (some ⟨g, 0, none⟩) N cap] w fun e w' => e = .returned (.bool false) ∧ Below w.heap.size w w') := Lib.hid (fun w hb => by
                have := HEM.out w hb
                rw [decide_eq_false hml] at this
                exact this)
              clear hml HOM HEM
              go_wp2_with (first
                | (go_at_call 8; have tt := TO; clear TO tt; go_must (refine HNO.out.mono ?_); rintro e w8 ⟨rfl, h8⟩; have H8 := Lib.hid h8; clear h8)
                | (go_at_call 8; go_must (refine (open_nil w8 none 0).mono ?_); rintro e w9 ⟨rfl, hw⟩; have hw2 := hw.symm; clear hw; subst hw2)
                | (go_at_call 6; go_must (refine (HEN.out _ H8.out).mono ?_); rintro e w10 ⟨rfl, h10⟩; have H10 := Lib.hid (below_step (HWS.out _ (below_step HBq.out H8.out)) h10); clear h10))
              go_ret
              exact ⟨rfl, H10.out⟩

/-! ### the frame -/
theorem cells27 : Tryd.prog.cellsOf 27 = 1 := by kernel_rfl
theorem own : ownKnob Tryd.prog.godebug = none := by kernel_rfl
set_option maxRecDepth 100000 in
theorem calls {H : Type} {enc : TypeId × Value → H} (W : World) (base : Nat) (args : Array Value) (ds : List (DataW H)) (p : List MemPlace)
    (hval0 : ∀ (j : Nat) t v, Tryd.f3.params[j]? = some t → args[j]? = some v → Value.okWide Tryd.prog W .any base t v)
    (hA : DataW.TrodAll enc Tryd.prog W 0 (fun _ => true) true Tryd.f3.params.toList args.toList ds p) (_ : W.noneFrozen p)
    (hsz : (DataW.weightsEach Tryd.prog Tryd.f3.params.toList ds).all (· ≤ reachBytes) = true) (hL : laidMetH Tryd.prog Rows.recordSealsRow.laid W) :
    Calls Tryd.prog 3 args W fun e W' => e = .returned (.bool true) ∧ Below W.heap.size W W' := by
  have hval : ∀ (j : Nat) t v, Tryd.f3.params[j]? = some t → args[j]? = some v → Value.okWide Tryd.prog W .any base t v := hval0
  clear hval0
  rw [Tryd.params3] at hA hval hsz
  obtain ⟨v0, vs0, d0, ds0, p0, q0, hargs, rfl, rfl, h0, r'0⟩ := trodAll_cons hA
  obtain ⟨v1, vs1, d1, ds1, p1, q1, rfl, rfl, rfl, h1, r'1⟩ := trodAll_cons r'0
  obtain ⟨v2, vs2, d2, ds2, p2, q2, rfl, rfl, rfl, h2, r'2⟩ := trodAll_cons r'1
  obtain ⟨rfl, rfl, rfl⟩ := trodAll_nil r'2
  obtain rfl : args = #[v0, v1, v2] := by cases args; simp_all
  obtain ⟨A0, n0, c0, z0, rfl, l0, b0, m0, s0, r0, w0⟩ := open_slice_ints (j := 0) (bytes := 8) Tryd.underlying22 Tryd.underlying27 cells27 (by kernel_rfl) (hval 0 22 v0 rfl rfl) h0 hsz rfl rfl
  obtain ⟨a1, rfl, rfl, rfl, w1⟩ := open_int Tryd.underlying3 (hval 1 3 v1 rfl rfl) h1
  obtain ⟨a2, rfl, rfl, rfl, w2⟩ := open_int Tryd.underlying23 (hval 2 23 v2 rfl rfl) h2
  exact walk (W := W) (Base.tabs hL) A0 n0 c0 z0 l0 b0 m0 s0 r0 w0 a1 w1 a2 w2
theorem laid_met (os : Os) : laidMet Tryd.prog Rows.recordSealsRow.laid ((Base.laidWorld os).forCall (fun _ _ => 0) ⟨#[], #[.slice none 0 0, .int .i64 0, .int .u32 0], []⟩).memory := laidMet_of_run' 8 (by kernel_rfl) (by kernel_rfl)
theorem reads (os : Os) {H : Type} (enc : TypeId × Value → H) : ∃ places, DataW.whole enc Tryd.prog ((Base.laidWorld os).forCall (fun _ _ => 0) ⟨#[], #[.slice none 0 0, .int .i64 0, .int .u32 0], []⟩).memory Tryd.f3.params.toList Rows.recordSealsSpec.vars false #[(Value.slice none 0 0), (Value.int .i64 0), (Value.int .u32 0)].toList 8 = some ([.nil, .lit (.int .i64 0), .lit (.int .u32 0)], [], places) := ⟨[], by kernel_rfl⟩
set_option maxRecDepth 100000 in
theorem lifted (os : Os) (started : os.Started) (H : Type) (enc : TypeId × Value → H) (F : Stop.Interp) :
    ReturnsInHanded {} Tryd.checked os 3 .any ((OpenSpec.ofChange Rows.recordSealsSpec).preRow enc Tryd.prog Tryd.f3 Rows.recordSealsRow.domain false Rows.recordSealsRow.laid) (((OpenSpec.ofChange Rows.recordSealsSpec).at F).post enc Tryd.prog Tryd.f3 false true false false) := by
  obtain ⟨places, hx⟩ := reads os enc
  exact laid_lifted (C := Tryd.checked) (s := Rows.recordSealsSpec) (b := 4) own (by kernel_rfl) Tryd.func3 (by kernel_rfl) (by kernel_rfl) rfl Tryd.underlying4 rfl
    (fun ds h => by match ds, h with | [_, _, _], _ => rfl) calls os started F
    (witness_row_at (enc := enc) (C := Tryd.checked) false (Base.laidWorld os) #[.slice none 0 0, .int .i64 0, .int .u32 0] rfl (by kernel_rfl) (by kernel_rfl) (by kernel_rfl)
      (OpenSpec.preRow_of_cond 8 hx (by kernel_rfl) (fun k hk => by cases hk) (by kernel_rfl) (laid_met os)))
theorem said : Rows.RecordSealsSaid :=
  OpenClaim.holds_of_cond 3 Tryd.f3 rfl rfl rfl rfl rfl rfl rfl ⟨rfl, rfl, rfl, rfl, rfl⟩ rfl rfl rfl rfl rfl (by kernel_rfl) Tryd.func3 (by kernel_rfl)
    (of_decide_eq_true (by kernel_rfl)) (by unfold Func.isWrapper; first | (rw [if_pos (by decide +kernel)]; kernel_rfl) | (rw [if_neg (by decide +kernel)]; exact ⟨rfl, rfl⟩))
    (fun os started H enc _ F => by rw [OpenClaim.pre_eq_preRow]; exact lifted os started H enc F)
theorem plain (f : FuncId) (fn : Func) (hf : Tryd.pinned.checked.prog.funcNamed "bedrock/bedrocklaw11.RecordSeals" = some f) (hfn : Tryd.pinned.checked.prog.funcs[f]? = some fn) :
    false = Tryd.pinned.checked.prog.looks [] ∧ ∀ (j : Nat) t, fn.params[j]? = some t → Tryd.pinned.checked.prog.wantsStandIn t = false := by
  obtain rfl : f = 3 := Option.some.inj ((show Tryd.prog.funcNamed "bedrock/bedrocklaw11.RecordSeals" = some 3 by kernel_rfl).symm.trans hf) |>.symm
  obtain rfl : fn = Tryd.f3 := (Option.some.inj (Tryd.func3.symm.trans hfn)).symm
  have hall : Tryd.f3.params.toList.all (fun t => !Tryd.prog.wantsStandIn t) = true := by kernel_rfl
  refine ⟨by kernel_rfl, fun j t ht => ?_⟩
  have := List.all_eq_true.1 hall t (by simpa using Array.mem_of_getElem? ht)
  exact (show Tryd.prog.wantsStandIn t = false by simpa using this)
/-- ████ THE STATEMENT: THE CARD ████ -/
theorem proved : Rows.RecordSealsCardSaid :=
  Claim7.holds_tied_plain_at .later [] _ _ _ _ said (fun _ h => by cases h) (by kernel_rfl) (fun _ h => by cases h) recordSeals_row_tie rfl ⟨rfl, rfl⟩ (by kernel_rfl) rfl plain (by kernel_rfl)
#print axioms proved
end Go.Proofs.YtopnkhalmembhaaDoor.recordSeals
