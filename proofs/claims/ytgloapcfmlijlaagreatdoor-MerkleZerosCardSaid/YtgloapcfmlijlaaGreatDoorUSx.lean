/- The law of zeros. -/
import Derived.Test.YtgloapcfmlijlaaGreatDoorH18
namespace Go.Proofs.YtgloapcfmlijlaaGreatDoor.M
open Go
theorem dep_most {m : Nat} (h : m ≤ 512) : m ≤ 2 ^ dep m := by
  have := dep_lt (m := m) (d := dep m) h
  omega
theorem dep_wide {n e : Nat} (hn : n ≤ 2 ^ e) (he : e ≤ 9) (h : ∀ d, d < e → 2 ^ d < n) : dep n = e := by
  have hp : 2 ^ e ≤ 2 ^ 9 := Nat.pow_le_pow_right (by omega) he
  have hn9 : n ≤ 512 := by simp only [Nat.reducePow] at hp; omega
  have h1 := dep_lt (m := n) (d := e) hn9
  by_cases h0 : e = 0
  · omega
  · have h2 := dep_lt (m := n) (d := e - 1) hn9
    have := h (e - 1) (by omega)
    omega

/-- Each two of a row. -/
def pairUp : List (List UInt8) → List (List UInt8)
  | a :: b :: r => sumL (a ++ b) :: pairUp r
  | _ => []
theorem pairUp_zeros (z : List UInt8) : ∀ n : Nat, pairUp (List.replicate (2 * n) z) = List.replicate n (sumL (z ++ z))
  | 0 => rfl
  | n + 1 => by rw [show 2 * (n + 1) = 2 * n + 1 + 1 by omega, List.replicate_succ, List.replicate_succ, pairUp, pairUp_zeros z n, List.replicate_succ]
theorem pairUp_pad (z : List UInt8) : ∀ (n : Nat) (l : List (List UInt8)), l.length ≤ 2 * n → pairUp (l ++ List.replicate (2 * n - l.length) z) = halve z l ++ List.replicate (n - (halve z l).length) (sumL (z ++ z))
  | n, [], _ => by simpa [halve] using pairUp_zeros z n
  | 0, a :: r, h => by simp at h
  | n + 1, [a], _ => by
    rw [show 2 * (n + 1) - [a].length = 2 * n + 1 by simp; omega, List.replicate_succ]
    show pairUp (a :: z :: List.replicate (2 * n) z) = _
    rw [pairUp, pairUp_zeros, halve]
    simp
  | n + 1, a :: b :: r, h => by
    have ih := pairUp_pad z n r (by simp at h; omega)
    rw [show 2 * (n + 1) - (a :: b :: r).length = 2 * n - r.length by simp; omega]
    show pairUp (a :: b :: (r ++ List.replicate (2 * n - r.length) z)) = _
    rw [pairUp, ih, halve]
    simp
def ups : Nat → List (List UInt8) → List (List UInt8)
  | 0, l => l
  | d + 1, l => ups d (pairUp l)
/-- A row of chunks with zeros behind, summed up. -/
theorem ups_pad : ∀ (d : Nat) (l : List (List UInt8)) (z : List UInt8), l.length ≤ 2 ^ d → ups d (l ++ List.replicate (2 ^ d - l.length) z) = [treeD d l z]
  | 0, l, z, h => by
    match l, h with
    | [], _ => rfl
    | [a], _ => rfl
    | a :: b :: r, h => simp at h
  | d + 1, l, z, h => by
    have hp : 2 ^ (d + 1) = 2 * 2 ^ d := by rw [Nat.pow_succ]; omega
    rw [ups, hp, pairUp_pad z (2 ^ d) l (by omega), treeD]
    exact ups_pad d (halve z l) (sumL (z ++ z)) (by rw [halve_length]; omega)
/-- Zeros behind change nothing. -/
theorem tree_zeros (d k : Nat) (l : List (List UInt8)) (z : List UInt8) (h : l.length + k ≤ 2 ^ d) : treeD d (l ++ List.replicate k z) z = treeD d l z := by
  have h1 := ups_pad d (l ++ List.replicate k z) z (by simp; omega)
  have h2 := ups_pad d l z (by omega)
  rw [List.append_assoc, List.replicate_append_replicate, show k + (2 ^ d - (l ++ List.replicate k z).length) = 2 ^ d - l.length by simp; omega, h2] at h1
  exact (List.cons.inj h1).1.symm
end Go.Proofs.YtgloapcfmlijlaaGreatDoor.M
namespace Go.Proofs.YtgloapcfmlijlaaGreatDoor
open Go Go.RowKit Go.Shelf Go.Lib
attribute [local go_sem] Oper.semAt_some

theorem wpList_append9 {ops : Array Oper} {rest : List Oper} {o : Oper} {a : Act} {w : World} {Q : Exit → Act → World → Prop} (hgd : o.guard = none) (s x : Operand)
    (ho : o.op = .call { callee := .builtin .append, args := #[s, x], argTypes := #[39, 39] }) (v u : Value) (hs : a.eval s = v) (hx : a.eval x = u) (B : Nat) (L : List (List UInt8)) (hr : ∃ v' w', (Builtin.append_ #[39, 39] o.type #[v, u]).run Tryz.prog w = .ok v' w' ∧ AppS w w' B L v v')
    (h : ∀ v' w', AppS w w' B L v v' → wpList Tryz.prog ops Q rest (a.put o.dst v') w') : wpList Tryz.prog ops Q (o :: rest) a w := by
  obtain ⟨v', w', hr, hA⟩ := hr
  refine wpList_plain hgd fun _ hK => ?_
  unfold Oper.wp execOp
  simp only [ho, resolve, invoke, builtin, Sem.run_bind, Sem.run_pure, Result.andThen_ok, List.map_toArray, List.map_cons, List.map_nil, hs, hx, hr]
  exact hK _ _ (h _ _ hA)
theorem run_append_ts (w : World) (ty : TypeId) (B : Nat) (l ls : List (List UInt8)) (v : Value) (hown : OwS B l v w) (a : Option Addr) (cap n0 : Nat) (hT : Ts w n0 ls (.slice a ls.length cap)) (h1 : l.length ≤ 1000) (h2 : ls.length ≤ 1000) (hB : B ≤ w.heap.size) :
    ∃ v' w', (Builtin.append_ #[39, 39] ty #[v, .slice a ls.length cap]).run Tryz.prog w = .ok v' w' ∧ AppS w w' B (l ++ ls) v v' := by
  obtain ⟨i0, hi, hz0, hz1, hz2⟩ := info_parts Tryz.ofTxt
  have main : ∀ (ad : Addr), (∀ j u, (tc ls)[j]? = some u → w.cell? (ad.add j) = some u) → ∃ v' w', (Builtin.append_ #[39, 39] ty #[v, .slice (some ad) ls.length cap]).run Tryz.prog w = .ok v' w' ∧ AppS w w' B (l ++ ls) v v' := fun ad hc => by
    obtain ⟨v', w', h1, h2, h3, h4⟩ := run_append_blk (P := Tryz.prog) w B 39 ty 9 i0 (.string ⟨#[]⟩) 1 16 Tryz.underlying39 hi hz0 hz1 hz2 rfl (by decide) v l.length (tc l) hown ad ls.length cap (tc ls) (by simp [tc]) hc (by intro u hu; unfold tc at hu; simp at hu; obtain ⟨s, _, rfl⟩ := hu; rfl) (by unfold maxLen; omega) (by omega) hB
    exact ⟨v', w', h1, by unfold OwS; rw [tc_append, List.length_append]; exact h2, h3, h4⟩
  generalize hv : Value.slice a ls.length cap = sv at hT
  cases hT with
  | nil_ hm =>
    injection hv with e1 e2 e3
    subst e1 e3
    cases a with
    | some ad => exact main ad (fun j u h => by simp [tc] at h)
    | none =>
      have hr : (Builtin.append_ #[39, 39] ty #[v, .slice none 0 cap]).run Tryz.prog w = .ok v w := by
        rcases hown.2 with ⟨rfl, _⟩ | ⟨g, cp, cur, rfl, _, _, hnc, _⟩
        · simp [Builtin.append_, run_underlying Tryz.underlying39, sizeOf, typeInfo, hi, Builtin.lenOf, Builtin.firstCells]
        · simp [Builtin.append_, run_underlying Tryz.underlying39, sizeOf, typeInfo, hi, Builtin.lenOf, Builtin.firstCells, hnc, storeCells]
      exact ⟨v, w, hr, by rw [List.append_nil]; exact hown, World.grownBy.refl _ _, Or.inl rfl⟩
  | @row _ b o _ hb hc hm c =>
    injection hv with e1 e2 e3
    subst e1 e3
    refine main ⟨b, o, none⟩ fun j u h => ?_
    unfold tc at h
    rw [List.getElem?_map] at h
    obtain ⟨s, hs, rfl⟩ := Option.map_eq_some_iff.1 h
    have := c j s hs
    by_cases h0 : j = 0
    · subst h0
      simpa [Addr.add] using this
    · simpa [Addr.add, h0] using this
theorem own_empty (B : Nat) (w : World) (h : B ≤ w.heap.size) : OwS B [] (.slice (some ⟨w.heap.size, 0, none⟩) 0 0) (w.alloc (.cells #[] 9)) :=
  ⟨rfl, .inr ⟨w.heap.size, 0, #[], rfl, h, heap_alloc_new w _, by simp, by decide, rfl, rfl⟩⟩
def lenV : Value → Nat | .slice _ n _ => n | _ => 0
theorem treeT_zeros {ls : List (List UInt8)} {i j : Nat} (hi : i ≤ 9) (h : ls.length + j = 2 ^ i) : M.treeT (ls ++ List.replicate j M.z32) (2 ^ i) = M.treeT ls (2 ^ i) := by
  unfold M.treeT
  rw [M.dep_pow hi]
  have := M.tree_zeros i j ls M.z32
  exact this (by omega)
theorem treeT_wide {ls : List (List UInt8)} {i n : Nat} (hn : n ≤ 2 ^ i) (hi : i ≤ 9) (h : ∀ d, d < i → 2 ^ d < n) : M.treeT ls (2 ^ i) = M.treeT ls n := by
  unfold M.treeT
  rw [M.dep_pow hi, M.dep_wide hn hi h]
/-- What a round of doubling keeps. -/
def ZQ (r : Nat) (w2 : World) (x : Value) (wr : World) : Prop := ∃ i : Nat, i ≤ 6 ∧ x = .int .i64 ((2 ^ i : Nat) : Int) ∧ wr = w2 ∧ ∀ d, d < i → 2 ^ d < r + 1
/-- What a round of padding keeps. -/
def ZR (w : World) (ls : List (List UInt8)) (q : Nat) (l : Value) (wq : World) : Prop := ∃ j : Nat, OwS w.heap.size (ls ++ List.replicate j M.z32) l wq ∧ Below w.heap.size w wq ∧ (j = 0 ∨ ls.length + j ≤ q)
set_option maxRecDepth 100000 in
set_option maxHeartbeats 8000000 in
theorem zeros_at (ls : List (List UInt8)) (a : Option Addr) (cap X r : Nat) (w : World) (hX : X < 256) (hr : X % 40 = r) (hT : Ts w w.heap.size ls (.slice a ls.length cap)) (hTab : Tab w) :
    Calls Tryz.prog 7 #[.slice a ls.length cap, .int .u8 (X : Nat)] w fun e w' => e = .returned (.bool true) ∧ Below w.heap.size w w' := by
  have hr40 : r < 40 := by omega
  have hr' : (X : Int) % 40 = (r : Int) := by omega
  clear hr
  have HW := Lib.hid (works9 w hTab)
  have hTX : ∀ Y, Below w.heap.size w Y → Ts Y Y.heap.size ls (.slice a ls.length cap) := fun Y h => (hT.from_ h).mono h.size
  have HT := Lib.hid (fun Y (h : Below w.heap.size w Y) => tree_any ls ((r : Int) + 1) a cap Y (hTX Y h) (hTab.from h))
  by_cases hok : ls.length ≤ r + 1 ∧ ls.all M.isC = true
  · obtain ⟨hlen, hall⟩ := hok
    have hli : ¬ (40 : Int) < ls.length := by omega
    have hEY : M.treeE ls ((r : Int) + 1) = (M.treeT ls (r + 1), 0) := by
      rw [show ((r : Int) + 1) = ((r + 1 : Nat) : Int) by omega]
      exact treeE_yes (by omega) (by omega) hlen hall
    rw [hEY] at HT
    clear hEY
    obtain ⟨S, hS⟩ : ∃ S, M.treeT ls (r + 1) = S := ⟨_, rfl⟩
    rw [hS] at HT
    have HTX := Lib.hid hTX
    have HS := Lib.hid hS
    have HALL := Lib.hid hall
    have HTB := Lib.hid (fun Y (h : Below w.heap.size w Y) => hTab.from h)
    have hal : ls.length ≤ 40 := by omega
    clear hT hTX hS hall hTab
    go_enter Tryz.func7, Tryz.ntmps7
    go_wp2_with fail
    refine HW.out.mono ?_
    rintro e w1 ⟨rfl, hb1⟩
    go_wp2_with fail
    refine (HT.out _ hb1).mono ?_
    rintro e w2 ⟨rfl, hb2⟩
    have hw2 := hb1.trans (hb2.mono hb1.size)
    clear hb1 hb2 HW HT
    go_wp2_with fail
    go_loopw [9] (fun x wr => ZQ r w2 x wr) (fun x _ => 64 - (RowKit.intOf x).toNat)
    case atStart => exact ⟨0, by omega, rfl, rfl, fun d h => absurd h (by omega)⟩
    case round =>
      obtain ⟨i, hi, rfl, rfl, hlow⟩ := hrel
      have hp : 2 ^ i ≤ 64 := Nat.le_trans (Nat.pow_le_pow_right (by omega) hi) (by decide)
      by_cases hlt : 2 ^ i < r + 1
      · have hi5 : i ≤ 5 := by
          by_cases h6 : i = 6
          · subst h6; simp at hlt; omega
          · omega
        have hpn : 2 ^ (i + 1) = 2 ^ i * 2 := Nat.pow_succ 2 i
        obtain ⟨q, hq⟩ : ∃ q : Nat, 2 ^ i = q := ⟨_, rfl⟩
        have HQ := Lib.hid hq
        have HL := Lib.hid hlow
        rw [hq] at hlt hp ⊢
        have hqi : (q : Int) < (r : Int) + 1 := by omega
        have hp1 : 1 ≤ q := by rw [← hq]; exact Nat.one_le_two_pow
        clear hpn hq hlow
        go_wp2_with fail
        exact ⟨⟨i + 1, by omega, by rw [Nat.pow_succ, HQ.out]; push_cast; rfl, rfl, fun d h => by
          by_cases hd : d < i
          · exact HL.out d hd
          · obtain rfl : d = i := by omega
            rw [HQ.out]; omega⟩, by simp [RowKit.intOf]; omega⟩
      · have hwide := treeT_wide (ls := ls) (by omega) (by omega) hlow
        rw [HS.out] at hwide
        obtain ⟨q, hq⟩ : ∃ q : Nat, 2 ^ i = q := ⟨_, rfl⟩
        have hqi : ¬ (q : Int) < (r : Int) + 1 := by omega
        have hq1 : 1 ≤ q := by omega
        have hz : ∀ j, ls.length + j = q → M.treeT (ls ++ List.replicate j M.z32) q = M.treeT ls q := fun j h => by rw [← hq]; exact treeT_zeros (by omega) (by omega)
        rw [hq] at hwide hp ⊢
        have HZT := Lib.hid hz
        have HWD := Lib.hid hwide
        clear hlow hz hwide hq hlt
        have hb2e : Below w.heap.size w (wr.alloc (.cells #[] 9)) := hw2.alloc hw2.size _
        have hown0 := own_empty w.heap.size wr hw2.size
        obtain ⟨we, hwe⟩ : ∃ we, wr.alloc (.cells #[] 9) = we := ⟨_, rfl⟩
        rw [hwe] at hb2e hown0
        have hwes : wr.heap.size < we.heap.size := by rw [← hwe]; simp
        have HAP := Lib.hid (run_append_ts we 39 w.heap.size [] ls _ hown0 a cap we.heap.size (HTX.out _ hb2e) (by simp) (by omega) hb2e.size)
        have HWE := Lib.hid hwe
        have HB2E := Lib.hid hb2e
        clear hown0 hwe hb2e
        go_wp2_with (at_builtin; rw [HWE.out]; refine wpList_append9 rfl _ _ rfl _ _ rfl rfl w.heap.size _ HAP.out ?_; intro v3 w3 hA3)
        have ho3 := hA3.own
        rw [List.nil_append] at ho3
        have HO3 := Lib.hid ho3
        clear ho3
        have HB3 := Lib.hid (HB2E.out.grown hA3.grown HB2E.out.size (fun g e => by cases e; exact hw2.size))
        clear hA3
        obtain ⟨la, lc, hv3⟩ := HO3.out.len
        subst hv3
        try go_wp2_with fail
        go_loopw [10] (fun l wq => ZR w ls q l wq) (fun l _ => q - lenV l)
        case atStart => exact ⟨0, by simpa using HO3.out, HB3.out, Or.inl rfl⟩
        case round =>
          clear HO3 HB3 HAP HWE HB2E
          obtain ⟨j, hO, hbq, hj⟩ := hrel
          obtain ⟨lb, ld, hlv⟩ := hO.len
          rw [List.length_append, List.length_replicate] at hlv
          subst hlv
          obtain ⟨n, hn⟩ : ∃ n, ls.length + j = n := ⟨_, rfl⟩
          have HN := Lib.hid hn
          rw [hn] at hO ⊢
          by_cases hlt : n < q
          · have hnq : (n : Int) < q := by omega
            have hmk : (Instr.makeSlice 48 (.int .i64 32) (.int .i64 32)).run Tryz.prog wr = .ok (.slice (some ⟨wr.heap.size, 0, none⟩) 32 32) (wr.alloc (.cells (bv (zb 32)) 5)) := make_zb 32 (by omega) wr
            have hBz : Br (wr.alloc (.cells (bv (zb 32)) 5)) wr.heap.size (zb 32) := Br.at_ _ _ rfl
            have hcv := hBz.conv (n := 32) (by rw [zb_length]) 32
            obtain ⟨wq, hwq⟩ : ∃ wq, (wr.alloc (.cells (bv (zb 32)) 5)).alloc (.cells #[.string ⟨(zb 32).toArray⟩] 9) = wq := ⟨_, rfl⟩
            have hrq : Below wr.heap.size wr wq := by rw [← hwq]; exact ((Below.refl _ _).alloc (Nat.le_refl _) _).alloc (by simp) _
            have hcq : wq.cell? ⟨wr.heap.size + 1, 0, none⟩ = some (.string ⟨(zb 32).toArray⟩) := by rw [← hwq]; simp [go_sem]
            have hOq := hO.from_ hrq
            have hbw := hbq.trans (hrq.mono hbq.size)
            have HAP2 := Lib.hid (run_append_txt wq 39 w.heap.size (ls ++ List.replicate j M.z32) (zb 32) (wr.heap.size + 1) _ hOq hcq (by simp; omega) hbw.size)
            have HROW := Lib.hid (fun g e => (hOq.lt g e).1)
            have HWQ := Lib.hid hwq
            have HBW := Lib.hid hbw
            have HZZ := Lib.hid (show zb 32 = M.z32 from rfl)
            clear hBz hwq hrq hcq hOq hbw hO hbq hn
            generalize zb 32 = z at *
            go_wp2_with (at_builtin; rw [HWQ.out]; refine wpList_append9 rfl _ _ rfl _ _ rfl rfl w.heap.size _ HAP2.out ?_; intro v4 w4 hA4)
            have hown := hA4.own
            have hbz := HBW.out.grown hA4.grown HBW.out.size (fun g e => HROW.out g e)
            rw [HZZ.out, List.append_assoc, ← List.replicate_succ'] at hown
            obtain ⟨lx, ly, hv4⟩ := hown.len
            have hnn := HN.out
            refine ⟨⟨j + 1, hown, hbz, Or.inr (by omega)⟩, ?_⟩
            rw [hv4]
            simp [lenV]
            omega
          · have hnq : ¬ (n : Int) < q := by omega
            have hnn : n = q := by omega
            have hqq : ls.length ≤ q := by omega
            have hjq : ls.length + j = q := by omega
            have hla : (ls ++ List.replicate j M.z32).all M.isC = true := by
              rw [List.all_append, HALL.out, Bool.true_and, List.all_eq_true]
              intro x hx
              rw [(List.mem_replicate.1 hx).2]
              decide
            have hll : (ls ++ List.replicate j M.z32).length = q := by rw [List.length_append, List.length_replicate]; exact hjq
            have hE1 : M.treeE (ls ++ List.replicate j M.z32) (q : Nat) = (S, 0) := by rw [treeE_yes hq1 (by omega) (by omega) hla, HZT.out j hjq, HWD.out]
            have hE2 : M.treeE ls (q : Nat) = (S, 0) := by rw [treeE_yes hq1 (by omega) hqq HALL.out, HWD.out]
            have hts := hO.ts
            have HA := tree_any (ls ++ List.replicate j M.z32) (q : Nat) lb ld wr (by rw [hll, ← hnn]; exact hts) (HTB.out _ hbq)
            have HB := Lib.hid (fun Y (h : Below w.heap.size w Y) => tree_any ls (q : Nat) a cap Y (HTX.out Y h) (HTB.out _ h))
            rw [hE1, hll] at HA
            rw [hE2] at HB
            have HA := Lib.hid HA
            have HBQ := Lib.hid hbq
            rw [hnn]
            have hqn : ¬ (q : Int) < q := by omega
            clear hO hbq hj hn hla hll hE1 hE2 hts hjq hnn hnq hlt
            go_wp2_with fail
            refine HA.out.mono ?_
            rintro e w5 ⟨rfl, hb5⟩
            have hw5 := HBQ.out.trans (hb5.mono HBQ.out.size)
            go_wp2_with fail
            refine (HB.out _ hw5).mono ?_
            rintro e w6 ⟨rfl, hb6⟩
            have hw6 := hw5.trans (hb6.mono hw5.size)
            go_wp2_with fail
            go_ret
            exact ⟨rfl, hw6⟩
  · have hE : M.treeE ls ((r : Int) + 1) = ([], 1) := by
      unfold M.treeE
      refine if_pos ?_
      by_cases h1 : ls.length ≤ r + 1
      · exact Or.inr (Or.inr (Or.inr (by
          cases h : ls.all M.isC
          · rfl
          · exact absurd ⟨h1, h⟩ hok)))
      · exact Or.inr (Or.inr (Or.inl (by omega)))
    rw [hE] at HT
    clear hT hTX hE hok
    go_enter Tryz.func7, Tryz.ntmps7
    go_wp2_with fail
    refine HW.out.mono ?_
    rintro e w1 ⟨rfl, hb1⟩
    go_wp2_with fail
    refine (HT.out _ hb1).mono ?_
    rintro e w2 ⟨rfl, hb2⟩
    go_wp2_with fail
    go_ret
    exact ⟨rfl, hb1.trans (hb2.mono hb1.size)⟩
theorem zeros_law (ls : List (List UInt8)) (a : Option Addr) (cap : Nat) (x : Int) (w : World) (hx : (Lit.int .u8 x).wf = true) (hT : Ts w w.heap.size ls (.slice a ls.length cap)) (hTab : Tab w) :
    Calls Tryz.prog 7 #[.slice a ls.length cap, .int .u8 x] w fun e w' => e = .returned (.bool true) ∧ Below w.heap.size w w' := by
  have h := bounds_u8 hx
  obtain ⟨X, rfl⟩ := Int.eq_ofNat_of_zero_le h.1
  exact zeros_at ls a cap X (X % 40) w (by omega) rfl hT hTab
end Go.Proofs.YtgloapcfmlijlaaGreatDoor
