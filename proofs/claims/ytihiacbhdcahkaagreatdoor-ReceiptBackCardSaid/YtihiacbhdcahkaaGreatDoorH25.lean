/- unrlp: an item, read. unrlp.Decode; what the calls of package unrlp do. -/
import Derived.Test.YtihiacbhdcahkaaGreatDoorH13
import Derived.Test.YtihiacbhdcahkaaGreatDoorH24
namespace Go.Proofs.YtihiacbhdcahkaaGreatDoor
open Go Go.RowKit Go.Shelf

theorem results_cell_two {fn : Func} {p q r : Tmp} {ty : TypeId} (h : fn.results = #[.cell p ty, .tmp q, .tmp r]) (tmps : Array Value) (P : Program) (w : World) (a : Addr) (u : Value) (hp : tmps.getD p undef = .pointer (some a))
    (hu : (loadVar ty a).run P w = .ok u w) : (results fn tmps).run P w = .ok (.tuple #[u, tmps.getD q undef, tmps.getD r undef]) w := by
  have hp' : tmps[p]?.getD undef = .pointer (some a) := by simpa using hp
  simp [results, h, hp', Result.andThen, asAddr, hu]

theorem take_own (s : List UInt8) (k o m : Nat) : ((s.take (k + o + m)).drop (k + o)) = ((s.drop k).drop o).take m := by
  rw [List.drop_take, List.drop_drop, show k + o + m - (k + o) = m by omega]

/-- What is handed back, out of the result's block. -/
theorem item_end (w w1 : World) (tmps : Array Value) (l : Bool) (d : List UInt8) (xs : List M.It) (a : Option Addr) (cap pl er : Nat) (hB : Below w.heap.size w w1) (o0 : Value) (o1 : Value) (o2 : Value)
    (hrow : w1.heap[w.heap.size]? = some (.cells #[o0, o1, o2] 45 (0, 0))) (hF : LayS w1 (fun b => w.heap.size < b ∧ b < w1.heap.size) xs (.slice a xs.length cap))
    (h6 : tmps.getD 6 undef = .pointer (some ⟨w.heap.size, 0, none⟩)) (h7 : tmps.getD 7 undef = .int .i64 (pl : Nat)) (h8 : tmps.getD 8 undef = .int .i64 (er : Nat)) :
    (results Tryz.f101 tmps).run Tryz.prog (w1.setRow w.heap.size #[.bool l, .string ⟨d.toArray⟩, .slice a xs.length cap]) = .ok (.tuple #[iv l d (.slice a xs.length cap), .int .i64 (pl : Nat), .int .i64 (er : Nat)]) (w1.setRow w.heap.size #[.bool l, .string ⟨d.toArray⟩, .slice a xs.length cap]) ∧
      Fresh w.heap.size (w1.setRow w.heap.size #[.bool l, .string ⟨d.toArray⟩, .slice a xs.length cap]) xs (.slice a xs.length cap) ∧ Below w.heap.size w (w1.setRow w.heap.size #[.bool l, .string ⟨d.toArray⟩, .slice a xs.length cap]) := by
  have hg : (w1.setRow w.heap.size #[.bool l, .string ⟨d.toArray⟩, .slice a xs.length cap]).heap[w.heap.size]? = some (.cells #[.bool l, .string ⟨d.toArray⟩, .slice a xs.length cap] 45 (0, 0)) := setRow_heap _ _ _ _ _ (0, 0) hrow
  have hz : (w1.setRow w.heap.size #[.bool l, .string ⟨d.toArray⟩, .slice a xs.length cap]).heap.size = w1.heap.size := by simp
  have ho : ∀ b, b ≠ w.heap.size → (w1.setRow w.heap.size #[.bool l, .string ⟨d.toArray⟩, .slice a xs.length cap]).heap[b]? = w1.heap[b]? := fun b hb => setRow_other _ _ _ _ (fun e => hb (by simpa using e))
  have hb2 : Below w.heap.size w1 (w1.setRow w.heap.size #[.bool l, .string ⟨d.toArray⟩, .slice a xs.length cap]) := ⟨rfl, rfl, rfl, by omega, fun b hb => ho b (by omega)⟩
  refine ⟨?_, hF.keep fun b ⟨h1, h2⟩ => ⟨⟨by omega, by omega⟩, ho b (by omega)⟩, hB.trans hb2⟩
  have := results_cell_two (fn := Tryz.f101) rfl tmps Tryz.prog (w1.setRow w.heap.size #[.bool l, .string ⟨d.toArray⟩, .slice a xs.length cap]) ⟨w.heap.size, 0, none⟩ (.agg #[.bool l, .string ⟨d.toArray⟩, .slice a xs.length cap]) h6
    (run_loadVar_row _ _ _ _ _ (0, 0) _ hg Tryz.underlying45 rfl Tryz.itemSize)
  rw [h7, h8] at this
  exact this

theorem item_post (w w1 : World) (tmps : Array Value) (l : Bool) (d : List UInt8) (xs : List M.It) (a : Option Addr) (cap pl er : Nat) (hB : Below w.heap.size w w1) (o0 : Value) (o1 : Value) (o2 : Value)
    (hrow : w1.heap[w.heap.size]? = some (.cells #[o0, o1, o2] 45 (0, 0))) (hF : LayS w1 (fun b => w.heap.size < b ∧ b < w1.heap.size) xs (.slice a xs.length cap)) (R : Ending → World → Prop)
    (h6 : tmps.getD 6 undef = .pointer (some ⟨w.heap.size, 0, none⟩)) (h7 : tmps.getD 7 undef = .int .i64 (pl : Nat)) (h8 : tmps.getD 8 undef = .int .i64 (er : Nat))
    (h : ∀ Z, Fresh w.heap.size Z xs (.slice a xs.length cap) → Below w.heap.size w Z → R (.returned (.tuple #[iv l d (.slice a xs.length cap), .int .i64 (pl : Nat), .int .i64 (er : Nat)])) Z) :
    bodyPost Tryz.prog Tryz.f101 R .ret { tmps := tmps, defers := [] } (((w1.setCell ⟨w.heap.size, 0, none⟩ (.bool l)).setCell ⟨w.heap.size, 1, none⟩ (.string ⟨d.toArray⟩)).setCell ⟨w.heap.size, 2, none⟩ (.slice a xs.length cap)) := by
  rw [set_three hrow]
  obtain ⟨e1, e2, e3⟩ := item_end w w1 tmps l d xs a cap pl er hB o0 o1 o2 hrow hF h6 h7 h8
  exact bodyPost_ret e1 rfl (h _ e2 e3)

set_option maxRecDepth 100000 in
set_option maxHeartbeats 8000000 in
theorem item_c (n : Nat) (hl : ListC n) : ItemC (n + 1) := by
  intro s k D rb w hs hk hn hD hR
  have hlt := hR.lt
  have HL := Lib.hid (fun W => isList_any s k W (by omega) hk)
  have HH := Lib.hid (fun W => head_ok s (k : Int) W (by omega))
  have hz : headZ s (k : Int) = M.headL s k := by unfold headZ; rw [if_neg (by omega)]; simp
  have hZ0 : M.headL s k = if (M.hdT (s.drop k)).e = 0 then ⟨k + (M.hdT (s.drop k)).off, (M.hdT (s.drop k)).n, (M.hdT (s.drop k)).list, 0⟩ else M.hdErr (M.hdT (s.drop k)).e := by unfold M.headL; rw [if_neg (by omega)]
  rw [hz, hZ0] at HH
  clear hz hZ0
  obtain ⟨w0, hw0⟩ : ∃ w0, w.alloc (.cells #[.bool false, .string ⟨#[]⟩, .slice none 0 0] 45) = w0 := ⟨_, rfl⟩
  have hb0 : Below w.heap.size w w0 := by rw [← hw0]; (repeat (first | exact Below.refl _ _ | refine Below.drew ?_ | refine Below.alloc ?_ (by first | omega | (simp; omega) | simp) _ | refine Below.setCell ?_ (by first | omega | (simp; omega) | simp) _))
  have hz0 : w0.heap.size = w.heap.size + 1 := by rw [← hw0]; simp
  have hR0 : Boxed w0 rb 142 (.int .i64 D) := (hb0.block rb hlt).trans hR
  have hrow0 : w0.heap[w.heap.size]? = some (.cells #[.bool false, .string ⟨#[]⟩, .slice none 0 0] 45 (0, 0)) := by rw [← hw0]; exact heap_alloc_new w _
  have c0 := hR0.cell
  obtain ⟨⟨_, z0⟩, ⟨_, z1⟩, ⟨_, z2⟩, y0, y1, y2⟩ := cells_three hrow0
  have hrt : M.readT (n + 1) (s.drop k) D = if 192 ≤ (((s.drop k).headD 0)).toNat ∧ 12 ≤ D then (M.zeroI, [], 7)
    else if (M.hdT (s.drop k)).e ≠ 0 then (M.zeroI, [], (M.hdT (s.drop k)).e)
    else if (M.hdT (s.drop k)).list = false then (.mk false (((s.drop k).drop (M.hdT (s.drop k)).off).take (M.hdT (s.drop k)).n) [], (s.drop k).drop ((M.hdT (s.drop k)).off + (M.hdT (s.drop k)).n), 0)
    else if (M.itemsT n (((s.drop k).drop (M.hdT (s.drop k)).off).take (M.hdT (s.drop k)).n) (D + 1) 0).2 ≠ 0 then (M.zeroI, [], (M.itemsT n (((s.drop k).drop (M.hdT (s.drop k)).off).take (M.hdT (s.drop k)).n) (D + 1) 0).2)
    else (.mk true [] (M.itemsT n (((s.drop k).drop (M.hdT (s.drop k)).off).take (M.hdT (s.drop k)).n) (D + 1) 0).1, (s.drop k).drop ((M.hdT (s.drop k)).off + (M.hdT (s.drop k)).n), 0) := by rw [M.readT]
  by_cases hdeep : 192 ≤ (((s.drop k).headD 0)).toNat ∧ 12 ≤ D
  · rw [hrt, if_pos hdeep]
    have h1 : (12 : Int) ≤ (D : Nat) := by omega
    rw [decide_eq_true hdeep.1] at HL
    clear hrt HH
    go_enter Tryz.func101, Tryz.ntmps101
    go_wp2_with (first | (refine (HL.out _).mono ?_; rintro e w1 ⟨rfl, hw1⟩; obtain rfl := hw1.symm))
    refine item_post w w0 _ false [] [] none 0 0 7 hb0 _ _ _ hrow0 (.nil_ (by decide)) _ ?_ ?_ ?_ ?_
    · rfl
    · rfl
    · rfl
    · exact fun Z e2 e3 => ⟨false, [], [], none, 0, 0, rfl, rfl, e2, e3, fun h => by cases h⟩
  · have HD : Hid (12 ≤ D → decide (192 ≤ ((s.drop k).headD 0).toNat) = false) := fun h => decide_eq_false (fun h2 => hdeep ⟨h2, h⟩)
    rw [if_neg hdeep] at hrt
    have hok := M.hdT_ok (t := s.drop k)
    have hfl := hdT_list_flag (t := s.drop k)
    have hlen : (s.drop k).length = s.length - k := List.length_drop
    have htk := take_own s k
    have hdd : ∀ a, (s.drop k).drop a = s.drop (k + a) := fun a => by rw [List.drop_drop]
    by_cases h0 : (M.hdT (s.drop k)).e = 0
    · rw [if_neg (by omega)] at hrt
      rw [if_pos h0] at HH
      obtain ⟨o1, o2, o3, o4, o5⟩ := hok h0
      clear o5 hok
      have htk' := htk (M.hdT (s.drop k)).off (M.hdT (s.drop k)).n
      have hdd' := hdd ((M.hdT (s.drop k)).off + (M.hdT (s.drop k)).n)
      replace hfl := hfl h0
      replace o4 := fun h => (o4 h).2.2
      generalize (M.hdT (s.drop k)).off = f at *
      generalize (M.hdT (s.drop k)).n = m at *
      obtain ⟨A, hA⟩ : ∃ A, A = k + f := ⟨_, rfl⟩
      obtain ⟨E, hE⟩ : ∃ E, E = k + f + m := ⟨_, rfl⟩
      have hAE : A ≤ E := by omega
      have hEs : E ≤ s.length := by omega
      have hadd := Lib.hid (show wrap64 ((A : Int) + (m : Nat)) = (E : Int) by unfold wrap64; omega)
      rw [← hE, ← hA] at htk'
      rw [← hA] at HH
      rw [hdd', show k + (f + m) = E by omega] at hrt
      have hkE : k < E := by rw [hE, Nat.add_assoc]; exact Nat.lt_add_of_pos_right o2
      generalize hown : ((s.drop k).drop f).take m = own at *
      have hol : own.length ≤ 65536 := by rw [← hown, List.length_take, List.length_drop]; omega
      have hmE : m = E - A := by omega
      clear htk hdd hdd'
      have hsl : ∀ W : World, (Instr.slice 9 (.string ⟨s.toArray⟩) (some (.int .i64 (A : Nat))) (some (.int .i64 (E : Nat))) none).run Tryz.prog W = .ok (.string ⟨own.toArray⟩) W := fun W => by
        have := slice_str s A E hAE hEs W
        rwa [cutS, htk'] at this
      cases hlist : (M.hdT (s.drop k)).list with
      | false =>
        rw [hlist] at hrt HH hfl
        rw [if_pos rfl] at hrt
        rw [hrt]
        rw [← hfl] at HL HD
        clear hrt hfl hdeep o4 hown hmE hA hE o1 o2 hlen
        have HC := Lib.hid (fun W => clone_any own W (by omega))
        by_cases h12 : 12 ≤ D
        · have h12' : (12 : Int) ≤ (D : Nat) := by omega
          have hadd := hadd.out
          go_enter Tryz.func101, Tryz.ntmps101
          go_wp2_with (first | (go_at_call 179; refine (HL.out _).mono ?_; rintro e w1 ⟨rfl, hw1⟩; obtain rfl := hw1.symm) | (go_at_call 180; refine (HH.out _).mono ?_; rintro e w1 ⟨rfl, hb1⟩; have HROW := (hb1.block _ (by omega)).trans hrow0; have hB1 := hb0.trans (hb1.mono (by omega))) | (go_at_call 78; refine (HC.out _).mono ?_; rintro e w2 ⟨rfl, hb2⟩; have HROW2 := (hb2.block _ (by have := hb1.size; omega)).trans HROW; obtain ⟨⟨_, q0⟩, ⟨_, q1⟩, ⟨_, q2⟩, g0, g1, g2⟩ := cells_three HROW2; have hB2 := hB1.trans (hb2.mono (by have := hb1.size; omega))))
          refine item_post w w2 _ false own [] none 0 E 0 hB2 _ _ _ HROW2 (.nil_ (by decide)) _ ?_ ?_ ?_ ?_
          · rfl
          · rfl
          · rfl
          · exact fun Z e2 e3 => ⟨false, own, [], none, 0, E, rfl, rfl, e2, e3, fun _ => ⟨rfl, hkE, hEs⟩⟩
        · have h12' : ¬ (12 : Int) ≤ (D : Nat) := by omega
          clear HD HL
          have hadd := hadd.out
          go_enter Tryz.func101, Tryz.ntmps101
          go_wp2_with (first | (go_at_call 180; refine (HH.out _).mono ?_; rintro e w1 ⟨rfl, hb1⟩; have HROW := (hb1.block _ (by omega)).trans hrow0; have hB1 := hb0.trans (hb1.mono (by omega))) | (go_at_call 78; refine (HC.out _).mono ?_; rintro e w2 ⟨rfl, hb2⟩; have HROW2 := (hb2.block _ (by have := hb1.size; omega)).trans HROW; obtain ⟨⟨_, q0⟩, ⟨_, q1⟩, ⟨_, q2⟩, g0, g1, g2⟩ := cells_three HROW2; have hB2 := hB1.trans (hb2.mono (by have := hb1.size; omega))))
          refine item_post w w2 _ false own [] none 0 E 0 hB2 _ _ _ HROW2 (.nil_ (by decide)) _ ?_ ?_ ?_ ?_
          · rfl
          · rfl
          · rfl
          · exact fun Z e2 e3 => ⟨false, own, [], none, 0, E, rfl, rfl, e2, e3, fun _ => ⟨rfl, hkE, hEs⟩⟩
      | true =>
        rw [hlist] at hrt HH hfl
        rw [if_neg (by simp)] at hrt
        have h12 : ¬ 12 ≤ D := fun h => hdeep ⟨of_decide_eq_true hfl.symm, h⟩
        have h12' : ¬ (12 : Int) ≤ (D : Nat) := by omega
        have hf1 := o4 hlist
        have hsl2 : ∀ W : World, (Instr.slice 9 (.string ⟨s.toArray⟩) none (some (.int .i64 (E : Nat))) none).run Tryz.prog W = .ok (.string ⟨(s.take E).toArray⟩) W := fun W => by
          have h2 : ((E : Nat) : Int) ≤ (s.length : Nat) := by omega
          have e : (⟨s.toArray⟩ : ByteArray).extract 0 E = ⟨(s.take E).toArray⟩ := by rw [cutS]; simp
          have hz : (⟨s.toArray⟩ : ByteArray).size = s.length := rfl
          simp [Instr.slice, run_underlying Tryz.underlying9, Instr.sliceBounds, run_sliceBound, h2, e, hz]
        have htl : (s.take E).length = E := by rw [List.length_take]; omega
        have HI : Hid (∀ W, Below w0.heap.size w0 W → Calls Tryz.prog 181 #[.pointer (some ⟨rb, 0, none⟩), .string ⟨(s.take E).toArray⟩, .int .i64 (A : Nat)] W fun e w' => ∃ a cap, e = .returned (.tuple #[.slice a (M.itemsT n own (D + 1) 0).1.length cap, .int .i64 ((M.itemsT n own (D + 1) 0).2 : Nat)]) ∧
            Fresh W.heap.size w' (M.itemsT n own (D + 1) 0).1 (.slice a (M.itemsT n own (D + 1) 0).1.length cap) ∧ Below W.heap.size W w') := fun W hb => by
          have := hl (s.take E) A D rb W (by omega) (by omega) (by omega) (by omega) ((hb.block rb (by omega)).trans hR0)
          rwa [htk'] at this
        clear HL HD hfl hdeep o4 hown htk' hl hmE hA hE o1 o2 hlen htl hf1
        generalize hr : M.itemsT n own (D + 1) 0 = r at *
        obtain ⟨xs, e2⟩ := r
        simp only at HI hrt
        have hadd := hadd.out
        by_cases he2 : e2 = 0
        · subst he2
          rw [if_neg (by simp)] at hrt
          rw [hrt]
          clear hrt hr
          go_enter Tryz.func101, Tryz.ntmps101
          go_wp2_with (first | (go_at_call 180; refine (HH.out _).mono ?_; rintro e w1 ⟨rfl, hb1⟩; have HROW := (hb1.block _ (by omega)).trans hrow0; have hB1 := hb0.trans (hb1.mono (by omega))) | (go_at_call 181; refine (HI.out w1 hb1).mono ?_; rintro e w2 ⟨a, cap, rfl, hfr, hb2⟩; have HROW2 := (hb2.block _ (by have := hb1.size; omega)).trans HROW; obtain ⟨⟨_, q0⟩, ⟨_, q1⟩, ⟨_, q2⟩, g0, g1, g2⟩ := cells_three HROW2; have hB2 := hB1.trans (hb2.mono (by have := hb1.size; omega))))
          refine item_post w w2 _ true [] xs a cap E 0 hB2 _ _ _ HROW2 (hfr.keep fun b ⟨h1, h2⟩ => ⟨⟨by have := hb1.size; omega, h2⟩, rfl⟩) _ ?_ ?_ ?_ ?_
          · rfl
          · rfl
          · rfl
          · exact fun Z e2 e3 => ⟨true, [], xs, a, cap, E, rfl, rfl, e2, e3, fun _ => ⟨rfl, hkE, hEs⟩⟩
        · rw [if_pos he2] at hrt
          rw [hrt]
          have he2' : ¬ ((e2 : Nat) : Int) = 0 := by omega
          clear hrt hr
          go_enter Tryz.func101, Tryz.ntmps101
          go_wp2_with (first | (go_at_call 180; refine (HH.out _).mono ?_; rintro e w1 ⟨rfl, hb1⟩; have HROW := (hb1.block _ (by omega)).trans hrow0; have hB1 := hb0.trans (hb1.mono (by omega))) | (go_at_call 181; refine (HI.out w1 hb1).mono ?_; rintro e w2 ⟨a, cap, rfl, hfr, hb2⟩; have HROW2 := (hb2.block _ (by have := hb1.size; omega)).trans HROW; obtain ⟨⟨_, q0⟩, ⟨_, q1⟩, ⟨_, q2⟩, g0, g1, g2⟩ := cells_three HROW2; have hB2 := hB1.trans (hb2.mono (by have := hb1.size; omega))))
          refine item_post w w2 _ false [] [] none 0 0 e2 hB2 _ _ _ HROW2 (.nil_ (by decide)) _ ?_ ?_ ?_ ?_
          · rfl
          · rfl
          · rfl
          · exact fun Z e2 e3 => ⟨false, [], [], none, 0, 0, rfl, rfl, e2, e3, fun h => absurd h he2⟩
    · rw [if_pos h0] at hrt
      rw [if_neg h0] at HH
      simp only [M.hdErr] at HH
      rw [hrt]
      generalize (M.hdT (s.drop k)).e = q at *
      have h0' : ¬ ((q : Nat) : Int) = 0 := by omega
      clear hrt hok hfl hlen htk hdd hdeep
      by_cases h12 : 12 ≤ D
      · have h12' : (12 : Int) ≤ (D : Nat) := by omega
        rw [HD.out h12] at HL
        clear HD
        go_enter Tryz.func101, Tryz.ntmps101
        go_wp2_with (first | (go_at_call 179; refine (HL.out _).mono ?_; rintro e w1 ⟨rfl, hw1⟩; obtain rfl := hw1.symm) | (go_at_call 180; refine (HH.out _).mono ?_; rintro e w1 ⟨rfl, hb1⟩; have HROW := (hb1.block _ (by omega)).trans hrow0; obtain ⟨⟨_, q0⟩, ⟨_, q1⟩, ⟨_, q2⟩, g0, g1, g2⟩ := cells_three HROW; have hB1 := hb0.trans (hb1.mono (by omega))))
        refine item_post w w1 _ false [] [] none 0 0 q hB1 _ _ _ HROW (.nil_ (by decide)) _ ?_ ?_ ?_ ?_
        · rfl
        · rfl
        · rfl
        · exact fun Z e2 e3 => ⟨false, [], [], none, 0, 0, rfl, rfl, e2, e3, fun h => absurd h h0⟩
      · have h12' : ¬ (12 : Int) ≤ (D : Nat) := by omega
        clear HD HL
        go_enter Tryz.func101, Tryz.ntmps101
        go_wp2_with (first | (go_at_call 180; refine (HH.out _).mono ?_; rintro e w1 ⟨rfl, hb1⟩; have HROW := (hb1.block _ (by omega)).trans hrow0; obtain ⟨⟨_, q0⟩, ⟨_, q1⟩, ⟨_, q2⟩, g0, g1, g2⟩ := cells_three HROW; have hB1 := hb0.trans (hb1.mono (by omega))))
        refine item_post w w1 _ false [] [] none 0 0 q hB1 _ _ _ HROW (.nil_ (by decide)) _ ?_ ?_ ?_ ?_
        · rfl
        · rfl
        · rfl
        · exact fun Z e2 e3 => ⟨false, [], [], none, 0, 0, rfl, rfl, e2, e3, fun h => absurd h h0⟩
end Go.Proofs.YtihiacbhdcahkaaGreatDoor
namespace Go.Proofs.YtihiacbhdcahkaaGreatDoor
open Go Go.RowKit Go.Shelf

theorem item_all (n : Nat) : ItemC n := by
  induction n using Nat.strongRecOn with
  | _ n ih =>
    cases n with
    | zero => intro s k d rb w h1 h2 h3; omega
    | succ n => exact item_c n (list_c n fun j hj => ih j (by omega))

theorem results_cell_one {fn : Func} {p q : Tmp} {ty : TypeId} (h : fn.results = #[.cell p ty, .tmp q]) (tmps : Array Value) (P : Program) (w : World) (a : Addr) (u : Value) (hp : tmps.getD p undef = .pointer (some a))
    (hu : (loadVar ty a).run P w = .ok u w) : (results fn tmps).run P w = .ok (.tuple #[u, tmps.getD q undef]) w := by
  have hp' : tmps[p]?.getD undef = .pointer (some a) := by simpa using hp
  simp [results, h, hp', Result.andThen, asAddr, hu]

end Go.Proofs.YtihiacbhdcahkaaGreatDoor
