/- A node's line read, as the program has it, walked: readNode. -/
import Derived.Test.YtiojobajcnifpaaDoorPk17
import Derived.Test.YtiojobajcnifpaaDoorPk18
import Derived.Test.YtiojobajcnifpaaDoorProgRef1
namespace Go.Proofs.YtiojobajcnifpaaDoor
open Go.RowKit

theorem tx_build_node (k : Int) : ∀ w, (Instr.build 49 #[(0, .int .i64 k)]).run Tryd.prog w = .ok (.agg (ndC ⟨k, 0, 0, 0⟩).toArray) w := by intro w; kernel_rfl
theorem ndC_set (x : Nd) {j : Nat} (hj : j ≤ 2) (v : Int) : (ndC x).set (j + 1) (.int .i64 v) = ndC (C.set x j v) := by
  have h : j = 0 ∨ j = 1 ∨ j = 2 := by omega
  rcases h with rfl | rfl | rfl <;> rfl
theorem setC_fill : ∀ (js vs : List Nat) (x : Nd), (∀ j ∈ js, j ≤ 2) → setC (ndC x) (js.map (· + 1)) vs = ndC (T.fill x js vs)
  | [], vs, x, _ => by cases vs <;> rfl
  | j :: js, [], x, _ => rfl
  | j :: js, v :: vs, x, h => by
    rw [List.map_cons, setC, ndC_set x (h j (by simp)) v, T.fill]
    exact setC_fill js vs _ fun i hi => h i (by simp [hi])
theorem fill_kind : ∀ (js vs : List Nat) (x : Nd), (T.fill x js vs).kind = x.kind
  | [], vs, x => by cases vs <;> rfl
  | j :: js, [], x => rfl
  | j :: js, v :: vs, x => by rw [T.fill, fill_kind js vs, C.set_kind]
theorem fill_ok : ∀ (js vs : List Nat) (x : Nd), x.Ok → (∀ v ∈ vs, v < 10000) → (T.fill x js vs).Ok
  | [], vs, x, h, _ => by cases vs <;> exact h
  | j :: js, [], x, h, _ => h
  | j :: js, v :: vs, x, h, hv => by
    rw [T.fill]
    refine fill_ok js vs _ ?_ fun y hy => hv y (by simp [hy])
    have h1 := hv v (by simp)
    have hI : I64 ((v : Nat) : Int) := by unfold I64; omega
    unfold C.set
    split
    · exact ⟨h.kind, hI, h.next, h.alt⟩
    · split
      · exact ⟨h.kind, h.arg, hI, h.alt⟩
      · exact ⟨h.kind, h.arg, h.next, hI⟩
theorem nd0_ok {k : Nat} (h : k < 10) : (T.nd0 k).Ok := by
  refine ⟨?_, ?_, ?_, ?_⟩ <;> (unfold I64 T.nd0; simp only; omega)
theorem idx_lt : ∀ (l : List (List UInt8)) (s : List UInt8) (i k : Nat), T.idx s i l = some k → k < i + l.length
  | [], s, i, k, h => by cases h
  | x :: l, s, i, k, h => by
    unfold T.idx at h
    split at h
    · cases h; simp
    · have := idx_lt l s (i + 1) k h
      simp; omega

/-- What readNode hands back. -/
def NodePost (C0 : Nat) (S : Nat → Prop) (v : Value) (L0 : List (List Nd)) (l : List Nd) (name : List UInt8) (ws : List (List UInt8)) (w : World) (e : Ending) (w' : World) : Prop := ∃ (r : Bool) (us' : List Value) (L' : List (List Nd)), e = .returned (.bool r) ∧ Fns w' C0 S v us' L' ∧ Only (fun k => C0 ≤ k ∧ ¬ S k) w w' ∧
  (r = true → ∀ d : C.PD, d.L = L0 ++ [l] → T.lineN ⟨false, d⟩ name ws = some ⟨false, { d with L := L' }⟩) ∧ (r = false → ∀ st, T.lineN st name ws = none)

set_option maxRecDepth 1000000 in
set_option maxHeartbeats 16000000 in
theorem tx_readNode (g C0 : Nat) (S : Nat → Prop) (ca cb cc cf v u : Value) (us0 : List Value) (L0 : List (List Nd)) (l : List Nd) (name : List UInt8) (B : Nat) (A : Option Addr) (n cw : Nat) (ws : List (List UInt8)) (w : World)
    (hE : Env w) (hk : Blk w g 51 (ca :: cb :: cc :: v :: cf :: [])) (hS : S g) (hF : Fns w C0 S v (us0 ++ [u]) (L0 ++ [l])) (hw : Row wordT w B A n ws) (hB : B ≤ w.heap.size) (hl : ∀ x ∈ ws, x.length ≤ 1000000) (hn : n ≤ maxLen) (hll : l.length ≤ 1000000) :
    Calls Tryd.prog 39 #[.pointer (some ⟨g, 0, none⟩), .string (T.str name), .slice A n cw] w fun e w' => NodePost C0 S v L0 l name ws w e w' := by
  obtain ⟨o, ho⟩ : ∃ o, T.idx name 0 T.names = o := ⟨_, rfl⟩
  have HO := kp ho; have HE := kp hE; have HK := kp hk; have HF := kp hF; have HW := kp hw; have HL := kp hl
  have hlt := hF.lt g hS
  clear hE hk hF hw hl
  cases o with
  | none =>
    clear ho
    go_enter Tryd.func39, Tryd.ntmps39
    go_wp2_with (first
      | (go_at_call 55; go_must (refine (tx_kindOf name _ HE.out none HO.out).mono ?_); rintro e9 w9 ⟨rfl, rfl⟩))
    go_ret
    unfold NodePost
    exact ⟨false, _, _, rfl, HF.out, Only.refl _ _, (fun h => by cases h), fun _ st => by unfold T.lineN; rw [HO.out]; rfl⟩
  | some k =>
    have hk10 : k < 10 := by have := idx_lt _ _ _ _ ho; simpa [T.names] using this
    have HTl : Kept (∀ j ∈ T.tl k, j ≤ 2) := kp (T.tl_le k)
    have HTn := kp (T.tl_len k)
    obtain ⟨r, c, rfl, hcu, hfu, hCr, hrl, hur, hSr, hmx⟩ := HF.out.last
    obtain ⟨c0, c1, c2, c3, c4⟩ : w.cell? ⟨g, 0, none⟩ = some ca ∧ w.cell? ⟨g, 1, none⟩ = some cb ∧ w.cell? ⟨g, 2, none⟩ = some cc ∧ w.cell? ⟨g, 3, none⟩ = some (.slice (some ⟨r, 0, none⟩) (us0.length + 1) c) ∧ w.cell? ⟨g, 4, none⟩ = some cf := by
      refine ⟨?_, ?_, ?_, ?_, ?_⟩ <;> (rw [HK.out.cell]; rfl)
    obtain ⟨m, hm⟩ : ∃ m, us0.length = m := ⟨_, rfl⟩
    have HM := kp hm
    rw [hm] at c3 hcu hfu hmx
    rw [hm]
    have HC3 := kp c3; have HCu := kp hcu; have HFu := kp hfu
    clear ho c0 c1 c2 c3 c4 hcu hfu hm
    have hmx2 : m ≤ 9223372036854775806 := by unfold maxLen at hmx; omega
    clear hmx
    go_enter Tryd.func39, Tryd.ntmps39
    go_wp2_with (first
      | (go_at_call 55; go_must (refine (tx_kindOf name _ HE.out (some k) HO.out).mono ?_); rintro e9 w9 ⟨rfl, hw9⟩; have hw9' := hw9.symm; subst hw9')
      | ((with_reducible show wpList _ _ _ (⟨some 19, _, _, _, _, _⟩ :: _) _ _); go_must (refine wpList_build_run rfl _ _ rfl _ (by simp [Act.eval]) _ (tx_build_node (k : Int)) ?_))
      | ((with_reducible show wpList _ _ _ (⟨some 9, _, _, _, _, _⟩ :: _) _ _); go_must (refine wpList_alloc_zero rfl 49 rfl (ndC ⟨0, 0, 0, 0⟩) tx_node_zero ?_); intro g9 w1 hg9 hk1 hw1; have HK1 := kp hk1; have HW1 := kp hw1; have hs1 := hw1.size; clear hk1 hw1)
      | ((with_reducible show wpList _ _ _ (⟨none, _, _, _, _, _⟩ :: _) _ _); go_must (refine wpList_store_blk rfl 49 (.tmp 9) (.tmp 19) rfl g9 (ndC (T.nd0 k)) rfl rfl _ _ HK1.out tx_node_size rfl (tx_node_ones _) ?_); intro w2 hk2 hg2 hs2
         have HK2 := kp hk2
         have HW2 : Kept (Below w.heap.size w w2) := kp (HW1.out.grown hg2 (by omega) (fun k e => by cases e; omega))
         have hc3 : w2.cell? ⟨g, 3, none⟩ = some (.slice (some ⟨r, 0, none⟩) (m + 1) c) := by rw [HW2.out.cell (p := ⟨g, 3, none⟩) hlt]; exact HC3.out
         clear hk2 hg2))
    have hgl2 : g < w2.heap.size := by omega
    simp only [put_nil]
    apply region_list (.is _ :: .is _ :: .is _ :: .is _ :: .is _ :: .is _ :: .is _ :: .is _ :: .is _ :: .is _ :: .is _ :: .is _ :: .is _ :: .is _ :: [])
      [[], [(0, 20)], [(1, 21)], [(2, 22)], [(3, 23)], [], [(5, 25)], [(6, 26)], [(7, 27)], [(8, 28)], [(9, 29)], [(10, 30)], [(4, 24), (11, 31)], [(12, 32)]]
      [(0, 20), (1, 21), (2, 22), (3, 23), (4, 24), (5, 25), (6, 26), (7, 27), (8, 28), (9, 29), (10, 30), (11, 31), (12, 32), (13, 10)] (by kernel_rfl) (by kernel_rfl)
    case hob =>
      refine ⟨?o0, ?o1, ?o2, ?o3, ?o4, ?o5, ?o6, ?o7, ?o8, ?o9, ?o10, ?o11, ?o12, ?o13, trivial⟩
      case o0 => intro W hW; change wpList _ _ _ _ _ _; go_wp2; exact pure_post rfl rfl rfl
      case o1 => intro W hW; rintro _ rfl; change wpList _ _ _ _ _ _; go_wp2; exact pure_post rfl rfl rfl
      case o2 => intro W hW; rintro _ rfl; change wpList _ _ _ _ _ _; go_wp2; exact pure_post rfl rfl rfl
      case o3 => intro W hW; rintro _ rfl; change wpList _ _ _ _ _ _; go_wp2; exact pure_post rfl rfl rfl
      case o4 =>
        intro W hW; rintro _ rfl; change wpList _ _ _ _ _ _
        have hc := (hW.cell (p := ⟨g, 3, none⟩) hgl2).trans hc3
        go_wp2; exact pure_post rfl rfl rfl
      case o5 => intro W hW; change wpList _ _ _ _ _ _; go_wp2; exact pure_post rfl rfl rfl
      case o6 => intro W hW; rintro _ rfl; change wpList _ _ _ _ _ _; go_wp2; exact pure_post rfl rfl rfl
      case o7 => intro W hW; rintro _ rfl; change wpList _ _ _ _ _ _; go_wp2; exact pure_post rfl rfl rfl
      case o8 => intro W hW; rintro _ rfl; change wpList _ _ _ _ _ _; go_wp2; exact pure_post rfl rfl rfl
      case o9 =>
        intro W hW; rintro _ rfl; change wpList _ _ _ _ _ _
        have hc := (hW.cell (p := ⟨g, 3, none⟩) hgl2).trans hc3
        go_wp2; exact pure_post rfl rfl rfl
      case o10 => intro W hW; rintro _ rfl; change wpList _ _ _ _ _ _; go_wp2; exact pure_post rfl rfl rfl
      case o11 => intro W hW; rintro _ rfl; change wpList _ _ _ _ _ _; go_wp2; exact pure_post rfl rfl rfl
      case o12 => intro W hW; rintro _ rfl; rintro _ rfl; change wpList _ _ _ _ _ _; go_wp2; exact pure_post rfl rfl rfl
      case o13 => intro W hW; rintro _ rfl; change wpList _ _ _ _ _ _; go_wp2; exact pure_post rfl rfl rfl
    case hend =>
      intro W hW; rintro _ rfl; rintro _ rfl; rintro _ rfl; rintro _ rfl; rintro _ rfl; rintro _ rfl; rintro _ rfl; rintro _ rfl; rintro _ rfl; rintro _ rfl; rintro _ rfl; rintro _ rfl; rintro _ rfl; rintro _ rfl
      simp only [given, put_lit, List.set]
      have HWW : Kept (Below w.heap.size w W) := kp (HW2.out.trans (hW.mono (by omega)))
      have hsW := hW.size
      have HKW : Kept (Blk W g9 49 (ndC (T.nd0 k))) := kp (HK2.out.below hW HK2.out.lt)
      have hg9W := HKW.out.lt
      have hc9 : W.cell? ⟨g9, 0, none⟩ = some (.int .i64 (k : Int)) := by rw [HKW.out.cell]; rfl
      have HRow : Kept (Row wordT W B A n ws) := kp (HW.out.below (HWW.out.mono hB))
      have hbB : B ≤ g9 := by omega
      clear hW hc3
      have hadd := add_start r m
      go_wp2_with (first
        | (go_at_call 27; go_must (refine (tx_told g9 0 k _ hc9).mono ?_); rintro e9 w3 ⟨v3, rfl, hown3, hw3⟩
           have hr3 : Own w3 W.heap.size 65 v3 (((T.tl k).map (· + 1)).map (spotT g9)) := by
             rw [List.map_map]
             have e : (fldT g9 0) = (spotT g9 ∘ fun x => x + 1) := by funext j; unfold fldT spotT; simp
             rw [← e]; exact hown3
           have hb3 := hr3.block
           obtain ⟨A3, c3, rfl, hn3, hm3, hr3⟩ := hr3.readsN (n := (T.tl k).length) (by simp)
           have HR3 := kp hr3; have HB3 := kp hw3
           have hs3 := hw3.size
           have HA3 : Kept (∀ ad, 0 < (T.tl k).length → A3 = some ad → ad.block ≠ g9) := kp fun ad _ e => by
             subst e
             have := (hb3 ad.block rfl).1
             omega
           have HK3 := kp (HKW.out.below hw3 HKW.out.lt)
           have HRow3 := kp ((HRow.out.below (hw3.mono (by omega))).more (show B ≤ w3.heap.size by omega))
           have HA9 : Kept (∀ ad, 0 < n → A = some ad → ad.block ≠ g9) := kp fun ad h0 e => by
             obtain ⟨ad2, e2, hb2, _⟩ := HRow.out.cells h0
             rw [e] at e2
             cases e2
             omega
           clear hown3 hr3 hw3)
        | (go_at_call 38; go_must (refine (tx_readNumbers g9 49 (ndC (T.nd0 k)) ((T.tl k).map (· + 1)) w3.heap.size A A3 n cw (T.tl k).length c3 ws w3 HRow3.out HR3.out (Nat.le_refl _) HA9.out HA3.out HK3.out (fun j hj => by obtain ⟨i, hi, rfl⟩ := List.mem_map.1 hj; have := HTl.out i hi; show i + 1 < 4; omega) HL.out hn).mono ?_); rintro e9 w4 ⟨rb, vs, rfl, hk4, ho4, ht4, hf4, hv4⟩
           rw [setC_fill _ _ _ HTl.out] at hk4
           have HK4 := kp hk4; have HO4 := kp ho4; have HT4 := kp ht4; have HF4 := kp hf4; have HV4 := kp hv4
           have hs4 := ho4.size
           clear hk4 ho4 ht4 hf4 hv4))
      obtain ⟨x, hx⟩ : ∃ x, T.fill (T.nd0 k) (T.tl k) vs = x := ⟨_, rfl⟩
      have HFin : Kept ((rb = true → ∀ d : C.PD, d.L = L0 ++ [l] → T.lineN ⟨false, d⟩ name ws = some ⟨false, { d with L := L0 ++ [l ++ [x]] }⟩) ∧ (rb = false → ∀ st, T.lineN st name ws = none)) := kp (by
        refine ⟨fun hb d hd => ?_, fun hb st => ?_⟩
        · obtain ⟨h1, h2⟩ := HT4.out hb
          rw [List.length_map] at h1
          unfold T.lineN
          rw [HO.out, Option.bind_some, if_pos h1, h2, Option.map_some, hx, hd, T.push_snoc]
        · unfold T.lineN
          rw [HO.out, Option.bind_some]
          by_cases h1 : ws.length = (T.tl k).length
          · rw [if_pos h1, HF4.out hb (by rw [List.length_map]; exact h1)]; rfl
          · rw [if_neg h1])
      rw [hx] at HK4
      have hxk : x.Ok := by rw [← hx]; exact fill_ok _ _ _ (nd0_ok hk10) HV4.out
      have HXk := kp hxk
      have HOn : Kept (Only (fun _ => False) w w4) := kp ⟨HO4.out.os.trans (HB3.out.os.trans HWW.out.os), HO4.out.tape.trans (HB3.out.tape.trans HWW.out.tape), HO4.out.output.trans (HB3.out.output.trans HWW.out.output), by omega, fun i hi _ => by
        rw [HO4.out.block i (by omega) (by omega), HB3.out.block i (by omega), HWW.out.block i hi]⟩
      have HPA : Kept (PushA C0 S r c us0 u L0 l w w4) := kp ⟨HF.out.keep (HOn.out.less fun _ _ h => h.elim) (fun i hi => ⟨by have := HF.out.lt i hi; omega, .inl hi⟩), HOn.out.less fun _ _ h => h.elim⟩
      have hug : ∀ q c1 c2, u = .slice (some ⟨q, 0, none⟩) c1 c2 → q ≠ g9 := fun q c1 c2 e e2 => by
        have := (HF.out.blk (last_at us0 u) (k := q) (by rw [e]; rfl)).2
        omega
      have hrg9 : g9 ≠ r := by omega
      clear hx hxk hadd hs3 hs4
      rcases HPA.out.room with ⟨q, cap, rfl, hroom, hcm⟩ | hfull
      · have hqg := hug q _ _ rfl
        have hqr : q ≠ r := fun e => by have := HPA.out.at_.2.2.2; rw [e] at this; exact this rfl
        clear hug
        apply region_early (fun k => k = q ∨ k = r) [6, 8] [1, 2, 3, 4, 5] (phs ([fun W => PushA C0 S r c us0 (.slice (some ⟨q, 0, none⟩) l.length cap) L0 l w W ∧ Blk W g9 49 (ndC x), fun W => PushB C0 S r c us0 (.slice (some ⟨q, 0, none⟩) l.length cap) (.slice (some ⟨q, 0, none⟩) (l.length + 1) cap) L0 l x w W, fun W => PushA C0 S r c us0 (.slice (some ⟨q, 0, none⟩) (l.length + 1) cap) L0 (l ++ [x]) w W] : List (World → Prop))) (.is _ :: .is _ :: .is _ :: .is _ :: .is _ :: GFact.one _ x :: .is _ :: .is _ :: .any _ :: [])
          [[], [], [(1, 37)], [(2, 38)], [], [(4, 40)], [(3, 39), (5, 41)], [(0, 36)], [(7, 43), (6, 42)]]
          [(0, 36), (1, 37), (2, 38), (3, 39), (4, 40), (5, 41), (6, 42), (7, 43)] (by kernel_rfl) (by kernel_rfl) (by kernel_rfl) (by kernel_rfl) (by decide)
        case h0 => exact ⟨HPA.out.on ⟨rfl, rfl, rfl, Nat.le_refl _, fun _ _ => rfl⟩, HK4.out⟩
        case hob =>
          refine eobs_calm rfl rfl ?o0 (eobs_early rfl rfl ?o1 (eobs_early rfl rfl ?o2 (eobs_early rfl rfl ?o3 (eobs_early rfl rfl ?o4 (eobs_early rfl rfl ?o5 (eobs_act 0 rfl rfl ?o6 (eobs_calm rfl rfl ?o7 (eobs_act 1 rfl rfl ?o8 (eobs_nil)))))))))
          case o0 => intro p W hO hJ; change wpList _ _ _ _ _ _; go_wp2; exact calm_post rfl rfl rfl hJ
          case o1 => intro W hO hJ; change wpList _ _ _ _ _ _; go_wp2; exact calm_post rfl rfl rfl hJ
          case o2 => intro W hO hJ; rintro _ rfl; change wpList _ _ _ _ _ _; go_wp2; exact calm_post rfl rfl rfl hJ
          case o3 =>
            intro W hO hJ; rintro _ rfl; change wpList _ _ _ _ _ _
            have hc := hJ.1.at_.1; rw [HM.out] at hc
            go_wp2; exact calm_post rfl rfl rfl hJ
          case o4 =>
            intro W hO hJ; change wpList _ _ _ _ _ _
            have hJ2 := hJ.2; have hk0 : W.cell? ⟨g9, 0, none⟩ = some (.int .i64 x.kind) := by rw [hJ2.cell]; rfl
            have hk1 : W.cell? ⟨g9, 1, none⟩ = some (.int .i64 x.arg) := by rw [hJ2.cell]; rfl
            have hk2 : W.cell? ⟨g9, 2, none⟩ = some (.int .i64 x.next) := by rw [hJ2.cell]; rfl
            have hk3 : W.cell? ⟨g9, 3, none⟩ = some (.int .i64 x.alt) := by rw [hJ2.cell]; rfl
            go_wp2; exact calm_post rfl rfl rfl hJ
          case o5 =>
            intro W hO hJ; rintro _ rfl; change wpList _ _ _ _ _ _
            have hng : ¬ (W.heap.size = q ∨ W.heap.size = r) := by
              have h1 := hJ.1.at_.2.2.1
              have h2 := (hJ.1.own.block q rfl).2
              omega
            have hbl : Below W.heap.size W (W.alloc (.cells (ndC x).toArray 49)) := (Below.refl _ _).alloc (Nat.le_refl _) _
            have hJ0 : PushA C0 S r c us0 (.slice (some ⟨q, 0, none⟩) l.length cap) L0 l w (W.alloc (.cells (ndC x).toArray 49)) ∧ Blk (W.alloc (.cells (ndC x).toArray 49)) g9 49 (ndC x) := ⟨hJ.1.on hbl, Blk.below hJ.2 hbl hJ.2.lt⟩
            go_wp2; exact act_post rfl rfl rfl (Only.of_below hbl) hJ0 ⟨W.heap.size, rfl, Blk.new _ _ _, hng⟩
          case o6 =>
            intro W hO hJ; rintro _ rfl; rintro _ ⟨gn, rfl, hbk, hng⟩; change wpList _ _ _ _ _ _
            have hJ1 : PushA C0 S r c us0 (.slice (some ⟨q, 0, none⟩) l.length cap) L0 l w W := hJ.1
            have HJ1 := kp hJ1; have HBk := kp hbk; have hOw := hJ1.own
            clear hJ hJ1 hbk hO
            go_wp2_with (at_builtin; go_must (refine wpList_append_room rfl (.tmp 39) (.tmp 41) 47 rfl C0 49 4 _ 32 Tryd.underlying47 tx_node_info rfl (by omega) ndV ndV_one q cap l x rfl hOw hroom gn 1 rfl HBk.out (by omega) ?_); intro w6 hown6 hgr6)
            exact act_post rfl rfl rfl (Only.of_grown hgr6 (.inl rfl)) ⟨⟨W, HJ1.out, hgr6⟩, hown6⟩ rfl
          case o7 => intro p W hO hJ; rintro _ rfl; change wpList _ _ _ _ _ _; go_wp2; exact calm_post rfl rfl rfl hJ
          case o8 =>
            intro W hO hJ; rintro _ rfl; rintro _ rfl; change wpList _ _ _ _ _ _
            have hJ1 : PushB C0 S r c us0 (.slice (some ⟨q, 0, none⟩) l.length cap) (.slice (some ⟨q, 0, none⟩) (l.length + 1) cap) L0 l x w W := hJ
            obtain ⟨hp1, hp2⟩ := hJ1.place
            rw [HM.out] at hp1 hp2
            have hJ2 : PushA C0 S r c us0 (.slice (some ⟨q, 0, none⟩) (l.length + 1) cap) L0 (l ++ [x]) w (W.setCell ⟨r, m, none⟩ (.slice (some ⟨q, 0, none⟩) (l.length + 1) cap)) := by have h := hJ1.store HXk.out (fun k hk => hk); rw [HM.out] at h; exact h
            have HJ2 := kp hJ2
            clear hJ hJ1 hJ2 hO
            go_wp2
            exact act_post0 rfl (Only.set (.inr rfl)) HJ2.out
        case hend =>
          intro W hO hJ; rintro _ rfl; rintro _ rfl; rintro _ rfl; rintro _ rfl; rintro _ rfl; rintro _ ⟨gn, rfl, hbk, hng⟩; rintro _ rfl; rintro _ rfl
          simp only [ggiven, put_lit, List.set]
          have hJ2 : PushA C0 S r c us0 (.slice (some ⟨q, 0, none⟩) (l.length + 1) cap) L0 (l ++ [x]) w W := hJ
          have hJ3 := hJ2.fns
          rw [HM.out] at hJ3
          have HJ2 := kp hJ2; have HJ3 := kp hJ3
          clear hJ hJ2 hJ3 hbk hO
          go_wp2
          go_ret
          unfold NodePost
          exact ⟨rb, _, _, rfl, HJ3.out, HJ2.out.only, HFin.out⟩
      · clear hug
        rcases hfull with rfl | ⟨q, rfl⟩
        · skip
          apply region_tail 8 (.is _ :: .is _ :: .is _ :: .is _ :: .is _ :: Fact.one x :: Fact.nodes C0 w4.heap.size (l ++ [x]) :: .is _ :: [])
            [[], [], [(1, 37)], [(2, 38)], [], [(4, 40)], [(3, 39), (5, 41)], [(0, 36)], [(7, 43), (6, 42)]]
            [(0, 36), (1, 37), (2, 38), (3, 39), (4, 40), (5, 41), (6, 42), (7, 43)] (by kernel_rfl) (by kernel_rfl) (by kernel_rfl) (by kernel_rfl) (by kernel_rfl)
          case hob =>
            refine ⟨?o0, ?o1, ?o2, ?o3, ?o4, ?o5, ?o6, ?o7, trivial⟩
            case o0 => intro W hW; change wpList _ _ _ _ _ _; go_wp2; exact pure_post rfl rfl rfl
            case o1 => intro W hW; change wpList _ _ _ _ _ _; go_wp2; exact pure_post rfl rfl rfl
            case o2 => intro W hW; rintro _ rfl; change wpList _ _ _ _ _ _; go_wp2; exact pure_post rfl rfl rfl
            case o3 =>
              intro W hW; rintro _ rfl; change wpList _ _ _ _ _ _
              have hc := (HPA.out.on hW).at_.1
              rw [HM.out] at hc
              go_wp2; exact pure_post rfl rfl rfl
            case o4 =>
              intro W hW; change wpList _ _ _ _ _ _
              have hJ2 := HK4.out.below hW HK4.out.lt
              have hk0 : W.cell? ⟨g9, 0, none⟩ = some (.int .i64 x.kind) := by rw [hJ2.cell]; rfl
              have hk1 : W.cell? ⟨g9, 1, none⟩ = some (.int .i64 x.arg) := by rw [hJ2.cell]; rfl
              have hk2 : W.cell? ⟨g9, 2, none⟩ = some (.int .i64 x.next) := by rw [hJ2.cell]; rfl
              have hk3 : W.cell? ⟨g9, 3, none⟩ = some (.int .i64 x.alt) := by rw [hJ2.cell]; rfl
              go_wp2; exact pure_post rfl rfl rfl
            case o5 =>
              intro W hW; rintro _ rfl; change wpList _ _ _ _ _ _
              go_wp2; exact made_post rfl rfl rfl ((Below.refl _ _).alloc (Nat.le_refl _) _) ⟨W.heap.size, rfl, Blk.new _ _ _⟩
            case o6 =>
              intro W hW; rintro _ rfl; rintro _ ⟨gn, rfl, hbk⟩; change wpList _ _ _ _ _ _
              have HBk := kp hbk; have hOw := (HPA.out.on hW).own
              have hCW : C0 ≤ W.heap.size := by have := hW.size; have := HPA.out.only.size; omega
              have hsW2 := hW.size
              clear hbk hW
              go_wp2_with (at_builtin; go_must (refine wpList_append_full rfl (.tmp 39) (.tmp 41) 47 rfl C0 49 4 _ 32 Tryd.underlying47 tx_node_info rfl (by omega) ndV ndV_one _ l x rfl hOw (Or.inl rfl) gn 1 rfl HBk.out (by unfold maxLen; omega) (by omega) hCW ?_); intro v6 w6 hown6 hb6 hv6)
              exact made_post rfl rfl rfl hb6 ⟨hown6, fun k hk => by rw [hv6] at hk; cases hk; exact hsW2⟩
            case o7 => intro W hW; rintro _ rfl; change wpList _ _ _ _ _ _; go_wp2; exact pure_post rfl rfl rfl
          case hend =>
            intro W hW; rintro _ rfl; rintro _ rfl; rintro _ rfl; rintro _ rfl; rintro _ rfl; rintro _ ⟨gn, rfl, hbk⟩; rintro v6 ⟨hown6, hk6⟩; rintro _ rfl
            simp only [given, put_lit, List.set, List.drop]
            obtain ⟨A6, c6, rfl, _⟩ := hown6.form
            have HP := kp (HPA.out.on hW)
            have hp1 := HP.out.at_.1
            have hp2 := HP.out.at_.2.1
            rw [HM.out] at hp1 hp2
            have hJ2 : PushA C0 S r c us0 (.slice A6 (l ++ [x]).length c6) L0 (l ++ [x]) w (W.setCell ⟨r, m, none⟩ (.slice A6 (l ++ [x]).length c6)) := by have h := HP.out.store HPA.out hown6 hk6 HXk.out; rw [HM.out] at h; exact h
            simp only [List.length_append, List.length_singleton] at hJ2
            have hJ3 := hJ2.fns
            rw [HM.out] at hJ3
            have HJ2 := kp hJ2; have HJ3 := kp hJ3
            clear hJ2 hJ3 hown6 hk6 hbk hW
            go_wp2
            go_ret
            unfold NodePost
            exact ⟨rb, _, _, rfl, HJ3.out, HJ2.out.only, HFin.out⟩
        · skip
          apply region_tail 8 (.is _ :: .is _ :: .is _ :: .is _ :: .is _ :: Fact.one x :: Fact.nodes C0 w4.heap.size (l ++ [x]) :: .is _ :: [])
            [[], [], [(1, 37)], [(2, 38)], [], [(4, 40)], [(3, 39), (5, 41)], [(0, 36)], [(7, 43), (6, 42)]]
            [(0, 36), (1, 37), (2, 38), (3, 39), (4, 40), (5, 41), (6, 42), (7, 43)] (by kernel_rfl) (by kernel_rfl) (by kernel_rfl) (by kernel_rfl) (by kernel_rfl)
          case hob =>
            refine ⟨?o0, ?o1, ?o2, ?o3, ?o4, ?o5, ?o6, ?o7, trivial⟩
            case o0 => intro W hW; change wpList _ _ _ _ _ _; go_wp2; exact pure_post rfl rfl rfl
            case o1 => intro W hW; change wpList _ _ _ _ _ _; go_wp2; exact pure_post rfl rfl rfl
            case o2 => intro W hW; rintro _ rfl; change wpList _ _ _ _ _ _; go_wp2; exact pure_post rfl rfl rfl
            case o3 =>
              intro W hW; rintro _ rfl; change wpList _ _ _ _ _ _
              have hc := (HPA.out.on hW).at_.1
              rw [HM.out] at hc
              go_wp2; exact pure_post rfl rfl rfl
            case o4 =>
              intro W hW; change wpList _ _ _ _ _ _
              have hJ2 := HK4.out.below hW HK4.out.lt
              have hk0 : W.cell? ⟨g9, 0, none⟩ = some (.int .i64 x.kind) := by rw [hJ2.cell]; rfl
              have hk1 : W.cell? ⟨g9, 1, none⟩ = some (.int .i64 x.arg) := by rw [hJ2.cell]; rfl
              have hk2 : W.cell? ⟨g9, 2, none⟩ = some (.int .i64 x.next) := by rw [hJ2.cell]; rfl
              have hk3 : W.cell? ⟨g9, 3, none⟩ = some (.int .i64 x.alt) := by rw [hJ2.cell]; rfl
              go_wp2; exact pure_post rfl rfl rfl
            case o5 =>
              intro W hW; rintro _ rfl; change wpList _ _ _ _ _ _
              go_wp2; exact made_post rfl rfl rfl ((Below.refl _ _).alloc (Nat.le_refl _) _) ⟨W.heap.size, rfl, Blk.new _ _ _⟩
            case o6 =>
              intro W hW; rintro _ rfl; rintro _ ⟨gn, rfl, hbk⟩; change wpList _ _ _ _ _ _
              have HBk := kp hbk; have hOw := (HPA.out.on hW).own
              have hCW : C0 ≤ W.heap.size := by have := hW.size; have := HPA.out.only.size; omega
              have hsW2 := hW.size
              clear hbk hW
              go_wp2_with (at_builtin; go_must (refine wpList_append_full rfl (.tmp 39) (.tmp 41) 47 rfl C0 49 4 _ 32 Tryd.underlying47 tx_node_info rfl (by omega) ndV ndV_one _ l x rfl hOw (Or.inr ⟨q, rfl⟩) gn 1 rfl HBk.out (by unfold maxLen; omega) (by omega) hCW ?_); intro v6 w6 hown6 hb6 hv6)
              exact made_post rfl rfl rfl hb6 ⟨hown6, fun k hk => by rw [hv6] at hk; cases hk; exact hsW2⟩
            case o7 => intro W hW; rintro _ rfl; change wpList _ _ _ _ _ _; go_wp2; exact pure_post rfl rfl rfl
          case hend =>
            intro W hW; rintro _ rfl; rintro _ rfl; rintro _ rfl; rintro _ rfl; rintro _ rfl; rintro _ ⟨gn, rfl, hbk⟩; rintro v6 ⟨hown6, hk6⟩; rintro _ rfl
            simp only [given, put_lit, List.set, List.drop]
            obtain ⟨A6, c6, rfl, _⟩ := hown6.form
            have HP := kp (HPA.out.on hW)
            have hp1 := HP.out.at_.1
            have hp2 := HP.out.at_.2.1
            rw [HM.out] at hp1 hp2
            have hJ2 : PushA C0 S r c us0 (.slice A6 (l ++ [x]).length c6) L0 (l ++ [x]) w (W.setCell ⟨r, m, none⟩ (.slice A6 (l ++ [x]).length c6)) := by have h := HP.out.store HPA.out hown6 hk6 HXk.out; rw [HM.out] at h; exact h
            simp only [List.length_append, List.length_singleton] at hJ2
            have hJ3 := hJ2.fns
            rw [HM.out] at hJ3
            have HJ2 := kp hJ2; have HJ3 := kp hJ3
            clear hJ2 hJ3 hown6 hk6 hbk hW
            go_wp2
            go_ret
            unfold NodePost
            exact ⟨rb, _, _, rfl, HJ3.out, HJ2.out.only, HFin.out⟩
end Go.Proofs.YtiojobajcnifpaaDoor
