/- The map of formats: keys that are structs; operations of a region that may come in whatever order, and that each put one entry into a map. -/
import Derived.Test.YthlcjjfnnfifeaaEL1
import Derived.Maps.OwnIn
import Derived.Maps.Own
import Derived.Maps.OwnOps
import Derived.Maps.Ext
import Derived.DeepKeys4
import Derived.OrdersHeld
import Derived.Deep.RegionHeld
namespace Go.Proofs.Ythlcjjfnnfifeaa
open Go Go.RowKit
open Go.Maps (Keyed IsMap)

theorem laid13 : laidOutB Try.prog = true := by kernel_rfl
/-- A format, as a key, and what a key reads as. -/
def kS (k v : Int) : Value := .agg #[.int .i64 k, .int .i64 v]
def kL (k v : Int) : Lit := .string (keyBytes [.int .i64 k, .int .i64 v])
def wfI (k : Int) : Prop := (Lit.int .i64 k).wf = true
theorem fmtKeyed : Keyed Try.prog 40 := Keyed.of_law (deep_law_laid laid13 (m := 5) (by decide) (of_decide_eq_true (by kernel_rfl)) (by kernel_rfl) (by kernel_rfl))
theorem keyS {k v : Int} (hk : wfI k) (hv : wfI v) : keyOf Try.prog 40 (kS k v) = some (kL k v) := by
  have h1 := Try.underlying40
  have h2 := Try.underlying3
  have hk' : (Lit.int .i64 k).wf = true := hk
  have hv' : (Lit.int .i64 v).wf = true := hv
  unfold keyOf kS kL
  rw [h1]
  dsimp only
  have c1 : Try.prog.cellsOf 40 = 2 := by kernel_rfl
  have c2 : Try.prog.cellsOf 3 = 1 := by kernel_rfl
  have c3 : Try.prog.keyType 40 = true := by kernel_rfl
  obtain ⟨n, hn⟩ : ∃ n, Try.prog.types.size + 1 = n + 2 := ⟨Try.prog.types.size - 1, by have : 1 ≤ Try.prog.types.size := of_decide_eq_true (by kernel_rfl); omega⟩
  rw [hn]
  simp [Value.formed, h1, h2, c1, c2, c3, Program.keyLits, Value.cells, hk', hv']
theorem kL_inj {k v k' v' : Int} (hk : wfI k) (hv : wfI v) (hk' : wfI k') (hv' : wfI v') (h : kL k v = kL k' v') : k = k' ∧ v = v' := by
  have := fmtKeyed.inj (keyS hk hv) (h ▸ keyS hk' hv')
  simpa [kS] using this
theorem kL_key (k v : Int) : WideAt.IsKeyLit (kL k v) := trivial
theorem leg_wf : ∀ p ∈ M.legT, wfI p.1 ∧ wfI p.2.1 := by unfold wfI; decide
/-- How an entry reads: as itself. -/
def Rv13 (v : Value) : Option (DataW Value × List MemPlace) := some (.held v, [])
def rV (ab : Int × Int) : Value := .agg #[.int .i64 ab.1, .int .i64 ab.2]
/-- A datum that is a map of just these entries. -/
structure AtD (D : DataW Value) (l : List (Int × Int × Int × Int)) : Prop where
  isMap : IsMap D
  at_ : ∀ p ∈ l, ∀ z, D.atKey (kL p.1 p.2.1) z = .held (rV p.2.2)
  not_ : ∀ kl z, (∀ p ∈ l, kl ≠ kL p.1 p.2.1) → D.atKey kl z = z
theorem AtD.nil : AtD (.map []) [] := ⟨⟨_, rfl⟩, fun p hp => by simp at hp, fun _ _ _ => rfl⟩
theorem AtD.put {D : DataW Value} {l : List (Int × Int × Int × Int)} (h : AtD D l) (p : Int × Int × Int × Int) (hp : ∀ q ∈ l, kL q.1 q.2.1 ≠ kL p.1 p.2.1) : AtD (D.put (kL p.1 p.2.1) (.held (rV p.2.2))) (p :: l) := by
  obtain ⟨es, rfl⟩ := h.isMap
  refine ⟨⟨_, rfl⟩, fun q hq z => ?_, fun kl z hn => ?_⟩
  · rcases List.mem_cons.1 hq with rfl | hq
    · exact Go.Maps.atKey_put_same ⟨_, rfl⟩ (kL_key _ _) _ _
    · rw [Go.Maps.atKey_put_other (hp q hq) _ _]
      exact h.at_ q hq z
  · rw [Go.Maps.atKey_put_other (hn p (by simp)) _ _]
    exact h.not_ kl z fun q hq => hn q (by simp [hq])
theorem AtD.perm {D : DataW Value} {l m : List (Int × Int × Int × Int)} (h : AtD D l) (hp : l.Perm m) : AtD D m :=
  ⟨h.isMap, fun p hm => h.at_ p (hp.mem_iff.2 hm), fun kl z hn => h.not_ kl z fun q hq => hn q (hp.mem_iff.1 hq)⟩

/-- An operation that puts an entry into a map of the call's own. -/
theorem wpOp_insert {ops : Array Oper} {Q : Exit → Act → World → Prop} {K : Act → World → Prop} {i : Nat} {o : Oper} {a : Act} {w : World} (ho : ops[i]? = some o)
    (hg : o.guard = none) (hd : o.dst = none) (m x v : Operand) (t : TypeId) (hop : o.op = Op.insert t m x v)
    (k e : TypeId) (Kd : Keyed Try.prog k) (ht : Try.prog.underlying t = some (.map k e)) (R : Value → Option (DataW Value × List MemPlace)) (b n : Nat) (D : DataW Value)
    (hm : a.eval m = .map (some b)) (hown : w.ownsMap Try.prog k R b n D) (hn : n < maxLen) (key val : Value) (kl : Lit) (hx : a.eval x = key) (hv : a.eval v = val) (hkey : keyOf Try.prog k key = some kl)
    (d : DataW Value) (ps : List MemPlace) (hval : R val = some (d, ps))
    (hK : ∀ w', w'.ownsMap Try.prog k R b (n + 1) (D.put kl d) → w.grownBy w' (some b) → K a w') : wpOp Try.prog ops Q i K a w := by
  obtain ⟨w', hrun, r1, r2⟩ := hown.update Kd ht hn hkey hval
  unfold wpOp
  simp only [ho]
  rw [if_pos (by simp [Region.wanted, hg])]
  refine Or.inl ?_
  unfold Oper.wp
  simp [execOp, hop, hm, hx, hv, hrun, Result.andThen, Oper.upon, hd, Act.put]
  exact hK _ r1 r2

/-- Which have come up. -/
def lsd (L0 : Array Bool) (done : List Nat) : Array Bool := done.foldr (fun i l => l.setIfInBounds i true) L0
theorem lsd_size (L0 : Array Bool) : ∀ done, (lsd L0 done).size = L0.size
  | [] => rfl
  | i :: r => by show ((lsd L0 r).setIfInBounds i true).size = _; rw [Array.size_setIfInBounds]; exact lsd_size L0 r
theorem lsd_at (L0 : Array Bool) (j : Nat) (hj : j < L0.size) : ∀ done, (lsd L0 done)[j]? = some (decide (j ∈ done) || L0.getD j false)
  | [] => by simp [lsd, hj]
  | i :: r => by
    show ((lsd L0 r).setIfInBounds i true)[j]? = _
    rw [Array.getElem?_setIfInBounds, lsd_size]
    by_cases h : i = j
    · subst h; simp [hj]
    · rw [if_neg h, lsd_at L0 j hj r]
      have : (j = i) = False := by simp; omega
      simp [this]
def waits (md : Region.Mode) (ops : Array Oper) (L0 : Array Bool) (J : List Nat) : Bool :=
  (List.range ops.size).all fun i => L0.getD i false || J.contains i || J.all fun j => match ops[i]? with | some o => o.after.any (fun e => Region.binds md e && e.on == j) | none => false
def frees (md : Region.Mode) (ops : Array Oper) (L0 : Array Bool) (J : List Nat) : Bool :=
  J.all fun i => !L0.getD i true && match ops[i]? with | some o => o.after.all (fun e => !Region.binds md e || L0.getD e.on false) | none => false
/-- OPERATIONS THAT MAY COME UP IN WHATEVER ORDER, each of which carries an invariant on by itself; all others have come up, or wait for all of them. -/
theorem wpAnyH_bag {md : Region.Mode} {ops : Array Oper} {Q : Exit → Act → World → Prop} {S : World → Prop} {a : Act} {J : List Nat} {L0 : Array Bool} (hz : L0.size = ops.size) (hwt : waits md ops L0 J = true) (hfr : frees md ops L0 J = true)
    (I : List Nat → World → Prop) (hS : ∀ d w, I d w → S w)
    (hone : ∀ i done w K, i ∈ J → i ∉ done → (∀ j ∈ done, j ∈ J) → done.length < J.length → I done w → (∀ w', I (i :: done) w' → K a w') → wpOp Try.prog ops Q i K a w) (f : Nat)
    (hend : ∀ done w, done.Perm J → I done w → wpAnyH Try.prog md ops Q S f (lsd L0 done) a w) (hJ : J.Nodup) :
    ∀ (n : Nat) (rem done : List Nat) (w : World), rem.length = n → (done ++ rem).Perm J → I done w → wpAnyH Try.prog md ops Q S (n + f) (lsd L0 done) a w := by
  intro n
  induction n with
  | zero =>
    intro rem done w hl hp hI
    obtain rfl := List.eq_nil_of_length_eq_zero hl
    rw [Nat.zero_add]
    exact hend done w (by simpa using hp) hI
  | succ n ih =>
    intro rem done w hl hp hI
    have hnd : (done ++ rem).Nodup := hp.nodup_iff.2 hJ
    have hin : ∀ i ∈ rem, i ∈ J ∧ i ∉ done := fun i hi => ⟨hp.mem_iff.1 (by simp [hi]), fun hd => (List.nodup_append.1 hnd).2.2 i hd i hi rfl⟩
    have hlen := hp.length_eq
    rw [List.length_append, hl] at hlen
    have hrd : ∀ i ∈ rem, i ∈ Region.ready md ops (lsd L0 done) := by
      intro i hi
      obtain ⟨h1, h2⟩ := hin i hi
      have h3 := List.all_eq_true.1 hfr i h1
      rw [Bool.and_eq_true] at h3
      obtain ⟨h3, h4⟩ := h3
      have hlt : i < L0.size := by
        rcases Nat.lt_or_ge i L0.size with h | h
        · exact h
        · rw [Array.getD_eq_getD_getElem?, Array.getElem?_eq_none h] at h3; cases h3
      cases ho : ops[i]? with
      | none => rw [ho] at h4; cases h4
      | some o =>
        rw [ho] at h4
        refine mem_ready.2 ⟨?_, o, ho, fun e he hb => ?_⟩
        · rw [Array.getD_eq_getD_getElem?, lsd_at L0 i hlt]
          rw [Array.getD_eq_getD_getElem?] at h3 ⊢
          rw [Array.getElem?_eq_getElem hlt] at h3 ⊢
          simp [h2] at h3 ⊢
          exact h3
        · have h5 := Array.all_eq_true_iff_forall_mem.1 h4 e he
          rw [hb] at h5
          have hel : e.on < L0.size := by
            rcases Nat.lt_or_ge e.on L0.size with h | h
            · exact h
            · rw [Array.getD_eq_getD_getElem?, Array.getElem?_eq_none h] at h5; cases h5
          rw [Array.getD_eq_getD_getElem?, lsd_at L0 _ hel]
          simp at h5 ⊢
          exact .inr h5
    rw [show n + 1 + f = (n + f) + 1 by omega]
    refine ⟨fun h0 => ?_, fun i hi => ?_⟩
    · cases rem with
      | nil => cases hl
      | cons i r => have := hrd i (by simp); rw [h0] at this; cases this
    · obtain ⟨hun, o, ho, hall⟩ := mem_ready.1 hi
      have hlt : i < ops.size := (Array.getElem?_eq_some_iff.1 ho).1
      rw [Array.getD_eq_getD_getElem?, lsd_at L0 i (by omega)] at hun
      simp at hun
      have hir : i ∈ rem := by
        have h1 := List.all_eq_true.1 hwt i (List.mem_range.2 hlt)
        rw [Bool.or_eq_true, Bool.or_eq_true] at h1
        rcases h1 with (h1 | h1) | h1
        · rw [Array.getD_eq_getD_getElem?, Array.getElem?_eq_getElem (by omega)] at h1
          simp at h1
          rw [Array.getElem?_eq_getElem (by omega)] at hun
          simp [h1] at hun
        · rcases List.mem_append.1 (hp.mem_iff.2 (by simpa using h1)) with h | h
          · exact absurd h hun.1
          · exact h
        · exfalso
          cases rem with
          | nil => cases hl
          | cons j r =>
            have h2 := List.all_eq_true.1 h1 j (hin j (by simp)).1
            rw [ho] at h2
            obtain ⟨e, he, h3⟩ : ∃ e ∈ o.after, (Region.binds md e && e.on == j) = true := by
              obtain ⟨i1, hi1, h3⟩ : ∃ (i : Nat), ∃ h, Region.binds md (o.after[i]'h) = true ∧ (o.after[i]'h).on = j := by simpa using h2
              exact ⟨_, Array.getElem_mem hi1, by simp [h3.1, h3.2]⟩
            simp at h3
            have h4 := hall e he h3.1
            rw [h3.2] at h4
            have hjl : j < L0.size := by
              rcases Nat.lt_or_ge j L0.size with h | h
              · exact h
              · rw [Array.getD_eq_getD_getElem?, Array.getElem?_eq_none (by rw [lsd_size]; exact h)] at h4; simp at h4
            rw [Array.getD_eq_getD_getElem?, lsd_at L0 j hjl] at h4
            have h5 := List.all_eq_true.1 hfr j (hin j (by simp)).1
            rw [Bool.and_eq_true] at h5
            have h6 := h5.1
            rw [Array.getD_eq_getD_getElem?, Array.getElem?_eq_getElem hjl] at h6 h4
            have h7 := (hin j (by simp)).2
            simp [h7] at h4 h6
            rw [h4] at h6; cases h6
      obtain ⟨h1, h2⟩ := hin i hir
      refine hone i done w _ h1 h2 (fun j hj => hp.mem_iff.1 (by simp [hj])) (by omega) hI fun w' hI' => ⟨hS _ _ hI', ?_⟩
      refine ih (rem.erase i) (i :: done) w' (by rw [List.length_erase_of_mem hir]; omega) ?_ hI'
      have := List.perm_cons_erase hir
      exact ((List.perm_middle.symm.trans (this.symm.append_left done))).trans hp
end Go.Proofs.Ythlcjjfnnfifeaa
