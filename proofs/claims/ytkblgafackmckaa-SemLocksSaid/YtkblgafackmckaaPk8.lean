/- ProgP3a, Still, ProgP3, in one text. -/
import Derived.Test.YtkblgafackmckaaPk7
import Derived.Test.YtkblgafackmckaaPk2
import Derived.BigQuiet
import Derived.Deep.QuietTactic
import Derived.Deep.RegionWith
import Derived.Test.YtkblgafackmckaaPk4
import Derived.StillTailTactics
/- Whom functions come to by calls, as the program makes it: its innermost loop, walked. -/
namespace Go.Proofs.Ytkblgafackmckaa
open Go.RowKit

def relC (L : List Bool) : List Value := L.map Value.bool
theorem rel_zero : (Try.prog.info? 106).map (·.zero) = some (some (.agg (relC (List.replicate 256 false)).toArray)) := by kernel_rfl
theorem rel_size : (Try.prog.info? 106).map (·.size) = some 256 := by kernel_rfl
theorem rel_ones (L : List Bool) : ∀ u ∈ relC L, u.oneCell' = true := by
  intro u hu
  obtain ⟨b, _, rfl⟩ := List.mem_map.1 hu
  rfl
theorem relC_len (L : List Bool) : (relC L).length = L.length := List.length_map _
theorem relC_at {L : List Bool} {k : Nat} {v : Bool} (h : L[k]? = some v) : (relC L)[k]? = some (.bool v) := by unfold relC; rw [List.getElem?_map, h]; rfl
theorem relC_set (L : List Bool) (k : Nat) (v : Bool) : (relC L).set k (.bool v) = relC (L.set k v) := by unfold relC; rw [List.map_set]
theorem ret_rel {L : List Bool} {w w' : World} {R : Nat → Nat → Prop} (hL : L.length = 256) (he : ∀ x y, x < 16 → y < 16 → (Q.ent L x y ↔ Q.Reach R 16 x y)) (hb : Below w.heap.size w w') :
    ∃ L' : List Bool, Ending.returned (.agg (relC L).toArray) = Ending.returned (.agg (relC L').toArray) ∧ L'.length = 256 ∧ (∀ x y, x < 16 → y < 16 → (Q.ent L' x y ↔ Q.Reach R 16 x y)) ∧ Below w.heap.size w w' := ⟨L, rfl, hL, he, hb⟩
theorem calls_at {p : Pg} {f : Nat} {fn : Fn} (h : p.fns[f]? = some fn) (y : Nat) : Q.callsTo fn.nodes y ↔ Q.calls p f y := by
  unfold Q.callsTo Q.calls
  constructor
  · rintro ⟨nd, h1, h2⟩
    exact ⟨fn, h, nd, h1, h2⟩
  · rintro ⟨f', h1, nd, h2, h3⟩
    rw [h] at h1
    cases h1
    exact ⟨nd, h2, h3⟩


theorem part_skip {P : Program} {ops : Array Oper} {o : Oper} {a : Act} {D : List Deferred} {W : World} (d : Nat) (ho : o.dst = some d) (hw : Region.wanted o (yielded ops a.tmps) = false) (hd : a.defers = D) (hlt : Nat.ble (d + 1) a.tmps.size = true) : wpList P ops (PartPost D W o (Fact.is undef)) [o] a W := by
  unfold wpList
  rw [if_neg (by rw [hw]; exact Bool.false_ne_true)]
  show PartPost D W o (Fact.is undef) .normal (a.put o.dst undef) W
  refine ⟨(put_def _ _ _).trans hd, Below.refl _ _, ?_⟩
  show slotOf o (a.put o.dst undef) = undef
  have := put_at a d d undef
  rw [if_pos ⟨rfl, Nat.le_of_ble_eq_true hlt⟩] at this
  simp [slotOf, ho, Array.getD_eq_getD_getElem?, this]
/-- The bodies of all loops of a code, an outer one first. -/
def loopsOf : Code → List Code
  | .loop c => c :: loopsOf c
  | .seq a b => loopsOf a ++ loopsOf b
  | .block _ c => loopsOf c
  | .scope c => loopsOf c
  | .cond _ a b => loopsOf a ++ loopsOf b
  | _ => []
noncomputable def loopBody (f : Func) (i : Nat) : Code := (loopsOf (f.body.getD .skip)).getD i .skip

set_option maxRecDepth 1000000 in
set_option maxHeartbeats 4000000 in
theorem rel_loop5 (R : Nat → Nat → Prop) (B : Nat) (g3 k a : Nat) (hk16 : k < 16) (ha16 : a < 16) (L0 : List Bool) (hL0 : L0.length = 256) (w0 w : World) (hclo0 : Q.Clo R 16 k a 0 (Q.ent L0)) (hk0 : Blk w g3 106 (relC L0)) (hg3 : B ≤ g3) (hb0 : Below B w0 w) {Q0 : Exit → Act → World → Prop} (p0 p1 p2 p4 p5 p6 p7 p10 p11 p12 p13 p14 p15 p16 p17 p18 p19 p20 p21 p22 p23 p24 p25 p26 p27 p28 p29 p30 p31 p32 p33 p34 p35 p36 p37 p38 p39 p40 p42 p43 p44 p45 p46 p47 p48 p49 p50 p51 p52 p53 p54 p55 p56 p57 p58 p59 p60 p61 p62 p63 p64 p65 p66 p67 p68 p69 p70 : Value)
    (hexit : ∀ (x10 x41 x42 x43 x44 x45 x46 x47 x48 x49 x50 x51 x52 x53 x54 x55 x56 x57 x58 x59 x60 x61 x62 x63 x64 x65 x66 x67 : Value) (W : World), ∀ L : List Bool, L.length = 256 → Q.Clo R 16 k (a + 1) 0 (Q.ent L) → Blk W g3 106 (relC L) → Below B w0 W → Q0 (.exit 8) ⟨List.toArray (p0 :: p1 :: p2 :: .pointer (some ⟨g3, 0, none⟩) :: p4 :: p5 :: p6 :: p7 :: .int .i64 (k : Int) :: .int .i64 (a : Int) :: x10 :: p11 :: p12 :: p13 :: p14 :: p15 :: p16 :: p17 :: p18 :: p19 :: p20 :: p21 :: p22 :: p23 :: p24 :: p25 :: p26 :: p27 :: p28 :: p29 :: p30 :: p31 :: p32 :: p33 :: p34 :: p35 :: p36 :: p37 :: p38 :: p39 :: p40 :: x41 :: x42 :: x43 :: x44 :: x45 :: x46 :: x47 :: x48 :: x49 :: x50 :: x51 :: x52 :: x53 :: x54 :: x55 :: x56 :: x57 :: x58 :: x59 :: x60 :: x61 :: x62 :: x63 :: x64 :: x65 :: x66 :: x67 :: p68 :: p69 :: p70 :: []), []⟩ W) :
    Code.wp Try.prog (Code.loop (loopBody Try.f58 4)) Q0 ⟨List.toArray (p0 :: p1 :: p2 :: .pointer (some ⟨g3, 0, none⟩) :: p4 :: p5 :: p6 :: p7 :: .int .i64 (k : Int) :: .int .i64 (a : Int) :: p10 :: p11 :: p12 :: p13 :: p14 :: p15 :: p16 :: p17 :: p18 :: p19 :: p20 :: p21 :: p22 :: p23 :: p24 :: p25 :: p26 :: p27 :: p28 :: p29 :: p30 :: p31 :: p32 :: p33 :: p34 :: p35 :: p36 :: p37 :: p38 :: p39 :: p40 :: .int .i64 0 :: p42 :: p43 :: p44 :: p45 :: p46 :: p47 :: p48 :: p49 :: p50 :: p51 :: p52 :: p53 :: p54 :: p55 :: p56 :: p57 :: p58 :: p59 :: p60 :: p61 :: p62 :: p63 :: p64 :: p65 :: p66 :: p67 :: p68 :: p69 :: p70 :: []), []⟩ w := by
  have HX := kp hexit; clear hexit
  conv => arg 2; arg 1; whnf
  have HK0 := kp hk0; have HClo0 := kp hclo0; have HG3 := kp hg3; have HB0 := kp hb0
  clear hk0 hclo0 hg3 hb0
  go_loopw [41] (fun v41 wq => ∃ (b : Nat) (L : List Bool), b ≤ 16 ∧ v41 = .int .i64 b ∧ L.length = 256 ∧ Q.Clo R 16 k a b (Q.ent L) ∧ Blk wq g3 106 (relC L) ∧ Below B w0 wq) (fun v41 _ => 16 - (intOf v41).toNat)
  case atStart => exact ⟨0, L0, by omega, rfl, hL0, HClo0.out, HK0.out, HB0.out⟩
  case round =>
    obtain ⟨b, L3, hb, rfl, hL, hclo, hkb, hbl⟩ := hrel
    have HClo := kp hclo; have HK := kp hkb; have HBL := kp hbl; have HL := kp hL
    have HBS : Kept (B ≤ wr.heap.size) := kp (Nat.le_trans HG3.out (Nat.le_of_lt hkb.lt))
    clear hclo hkb hbl HClo0 HK0 HB0
    by_cases hb16 : b < 16
    · obtain ⟨v0, hv0, he0⟩ := Q.ent_at hL ha16 hb16
      obtain ⟨v1, hv1, he1⟩ := Q.ent_at hL ha16 hk16
      obtain ⟨v2, hv2, he2⟩ := Q.ent_at hL hk16 hb16
      have HV0 := kp hv0; have HV1 := kp hv1; have HV2 := kp hv2
      have HStep : Kept (∀ v : Bool, (v = true ↔ v0 = true ∨ (v1 = true ∧ v2 = true)) → Q.Clo R 16 k a (b + 1) (Q.ent (L3.set (a * 16 + b) v))) := kp fun v hv =>
        HClo.out.step hk16 ha16 hb16 fun x y hx hy => by
          rw [Q.ent_set hL ha16 hb16 v x y hx hy]
          by_cases e : x = a ∧ y = b
          · rw [if_pos e, hv]
            obtain ⟨rfl, rfl⟩ := e
            rw [he0, he1, he2]
            constructor
            · rintro (h | h)
              · exact .inl h
              · exact .inr ⟨rfl, rfl, h⟩
            · rintro (h | ⟨_, _, h⟩)
              · exact .inl h
              · exact .inr h
          · rw [if_neg e]
            constructor
            · exact .inl
            · rintro (h | ⟨h1, h2, _⟩)
              · exact h
              · exact absurd ⟨h1, h2⟩ e
      have hai : (a : Int) < (16 : Int) := by omega
      have hbi : (b : Int) < (16 : Int) := by omega
      have hki : (k : Int) < (16 : Int) := by omega
      have ha0 : (0 : Int) ≤ (a : Int) := by omega
      have hb0 : (0 : Int) ≤ (b : Int) := by omega
      have hk0 : (0 : Int) ≤ (k : Int) := by omega
      clear he0 he1 he2 hv0 hv1 hv2 hL
      cases v0
      · cases v1
        · go_wp2
          apply region_tail 23 (.is _ :: .is _ :: .is _ :: .is _ :: .is _ :: .is _ :: .is _ :: .is _ :: .is _ :: .is _ :: .is _ :: .is _ :: .is _ :: .is _ :: .is undef :: .is undef :: .is undef :: .is undef :: .is undef :: .is _ :: .is _ :: .is _ :: .is _ :: [])
            [[], [], [], [], [(2, 46)], [(4, 48), (3, 47)], [(5, 49)], [(6, 50)], [(7, 51)], [(7, 51)], [(8, 52), (7, 51)], [(10, 54), (9, 53), (7, 51)], [(11, 55), (7, 51)], [(12, 56), (7, 51)], [(13, 57)], [(13, 57)], [(14, 58), (13, 57)], [(16, 60), (15, 59), (13, 57)], [(17, 61), (13, 57)], [(13, 57), (18, 62), (7, 51)], [(7, 51), (19, 63)], [(0, 44)], [(21, 65), (1, 45)], [(22, 66), (20, 64)]]
            [(0, 44), (1, 45), (2, 46), (3, 47), (4, 48), (5, 49), (6, 50), (7, 51), (8, 52), (9, 53), (10, 54), (11, 55), (12, 56), (13, 57), (14, 58), (15, 59), (16, 60), (17, 61), (18, 62), (19, 63), (20, 64), (21, 65), (22, 66)] (by kernel_rfl) (by kernel_rfl) (by kernel_rfl) (by kernel_rfl) (by kernel_rfl)
          case hob =>
            refine ⟨?o0, ?o1, ?o2, ?o3, ?o4, ?o5, ?o6, ?o7, ?o8, ?o9, ?o10, ?o11, ?o12, ?o13, ?o14, ?o15, ?o16, ?o17, ?o18, ?o19, ?o20, ?o21, ?o22, trivial⟩
            case o0 => intro W hW; change wpList _ _ _ _ _ _; go_wp2; exact pure_post rfl rfl rfl
            case o1 => intro W hW; change wpList _ _ _ _ _ _; go_wp2; exact pure_post rfl rfl rfl
            case o2 => intro W hW; change wpList _ _ _ _ _ _; go_wp2; exact pure_post rfl rfl rfl
            case o3 => intro W hW; change wpList _ _ _ _ _ _; go_wp2; exact pure_post rfl rfl rfl
            case o4 => intro W hW; rintro _ rfl; change wpList _ _ _ _ _ _; go_wp2; exact pure_post rfl rfl rfl
            case o5 => intro W hW; rintro _ rfl; rintro _ rfl; change wpList _ _ _ _ _ _; go_wp2; exact pure_post rfl rfl rfl
            case o6 =>
              intro W hW; rintro _ rfl; change wpList _ _ _ _ _ _
              have hc := ((HK.out.below hW HK.out.lt).cell (a * 16 + b)).trans (relC_at HV0.out)
              go_wp2; exact pure_post rfl rfl rfl
            case o7 => intro W hW; rintro _ rfl; change wpList _ _ _ _ _ _; go_wp2; exact pure_post rfl rfl rfl
            case o8 => intro W hW; rintro _ rfl; change wpList _ _ _ _ _ _; go_wp2; exact pure_post rfl rfl rfl
            case o9 => intro W hW; rintro _ rfl; change wpList _ _ _ _ _ _; go_wp2; exact pure_post rfl rfl rfl
            case o10 => intro W hW; rintro _ rfl; rintro _ rfl; change wpList _ _ _ _ _ _; go_wp2; exact pure_post rfl rfl rfl
            case o11 => intro W hW; rintro _ rfl; rintro _ rfl; rintro _ rfl; change wpList _ _ _ _ _ _; go_wp2; exact pure_post rfl rfl rfl
            case o12 =>
              intro W hW; rintro _ rfl; rintro _ rfl; change wpList _ _ _ _ _ _
              have hc := ((HK.out.below hW HK.out.lt).cell (a * 16 + k)).trans (relC_at HV1.out)
              go_wp2; exact pure_post rfl rfl rfl
            case o13 => intro W hW; rintro _ rfl; rintro _ rfl; change wpList _ _ _ _ _ _; go_wp2; exact pure_post rfl rfl rfl
            case o14 => intro W hW; rintro _ rfl; change wpList _ _ _ _ _ _; exact part_skip _ rfl rfl rfl rfl
            case o15 => intro W hW; rintro _ rfl; change wpList _ _ _ _ _ _; exact part_skip _ rfl rfl rfl rfl
            case o16 => intro W hW; rintro _ rfl; rintro _ rfl; change wpList _ _ _ _ _ _; exact part_skip _ rfl rfl rfl rfl
            case o17 => intro W hW; rintro _ rfl; rintro _ rfl; rintro _ rfl; change wpList _ _ _ _ _ _; exact part_skip _ rfl rfl rfl rfl
            case o18 => intro W hW; rintro _ rfl; rintro _ rfl; change wpList _ _ _ _ _ _; exact part_skip _ rfl rfl rfl rfl
            case o19 => intro W hW; rintro _ rfl; rintro _ rfl; rintro _ rfl; change wpList _ _ _ _ _ _; go_wp2; exact pure_post rfl rfl rfl
            case o20 => intro W hW; rintro _ rfl; rintro _ rfl; change wpList _ _ _ _ _ _; go_wp2; exact pure_post rfl rfl rfl
            case o21 => intro W hW; rintro _ rfl; change wpList _ _ _ _ _ _; go_wp2; exact pure_post rfl rfl rfl
            case o22 => intro W hW; rintro _ rfl; rintro _ rfl; change wpList _ _ _ _ _ _; go_wp2; exact pure_post rfl rfl rfl
          case hend =>
            intro W hW; rintro _ rfl; rintro _ rfl; rintro _ rfl; rintro _ rfl; rintro _ rfl; rintro _ rfl; rintro _ rfl; rintro _ rfl; rintro _ rfl; rintro _ rfl; rintro _ rfl; rintro _ rfl; rintro _ rfl; rintro _ rfl; rintro _ rfl; rintro _ rfl; rintro _ rfl; rintro _ rfl; rintro _ rfl; rintro _ rfl; rintro _ rfl; rintro _ rfl; rintro _ rfl
            simp only [given, put_lit, List.set, List.drop]
            have HK8 := kp (HK.out.below hW HK.out.lt)
            have HB8 := kp (HBL.out.trans (Below.mono hW HBS.out))
            have hcv := (HK8.out.cell (a * 16 + b)).trans (relC_at HV0.out)
            have hfv := HK8.out.frozen (a * 16 + b)
            go_wp2
            go_roundw
            case rel => exact ⟨b + 1, L3.set (a * 16 + b) false, by omega, by go_num, by rw [List.length_set]; exact HL.out, HStep.out _ (by simp), by rw [← relC_set]; exact HK8.out.set (a * 16 + b) (.bool false), HB8.out.setCell HG3.out _⟩
            case measure => simp [intOf]; omega
        · go_wp2
          apply region_tail 23 (.is _ :: .is _ :: .is _ :: .is _ :: .is _ :: .is _ :: .is _ :: .is _ :: .is _ :: .is _ :: .is _ :: .is _ :: .is _ :: .is _ :: .is _ :: .is _ :: .is _ :: .is _ :: .is _ :: .is _ :: .is _ :: .is _ :: .is _ :: [])
            [[], [], [], [], [(2, 46)], [(4, 48), (3, 47)], [(5, 49)], [(6, 50)], [(7, 51)], [(7, 51)], [(8, 52), (7, 51)], [(10, 54), (9, 53), (7, 51)], [(11, 55), (7, 51)], [(12, 56), (7, 51)], [(13, 57)], [(13, 57)], [(14, 58), (13, 57)], [(16, 60), (15, 59), (13, 57)], [(17, 61), (13, 57)], [(13, 57), (18, 62), (7, 51)], [(7, 51), (19, 63)], [(0, 44)], [(21, 65), (1, 45)], [(22, 66), (20, 64)]]
            [(0, 44), (1, 45), (2, 46), (3, 47), (4, 48), (5, 49), (6, 50), (7, 51), (8, 52), (9, 53), (10, 54), (11, 55), (12, 56), (13, 57), (14, 58), (15, 59), (16, 60), (17, 61), (18, 62), (19, 63), (20, 64), (21, 65), (22, 66)] (by kernel_rfl) (by kernel_rfl) (by kernel_rfl) (by kernel_rfl) (by kernel_rfl)
          case hob =>
            refine ⟨?o0, ?o1, ?o2, ?o3, ?o4, ?o5, ?o6, ?o7, ?o8, ?o9, ?o10, ?o11, ?o12, ?o13, ?o14, ?o15, ?o16, ?o17, ?o18, ?o19, ?o20, ?o21, ?o22, trivial⟩
            case o0 => intro W hW; change wpList _ _ _ _ _ _; go_wp2; exact pure_post rfl rfl rfl
            case o1 => intro W hW; change wpList _ _ _ _ _ _; go_wp2; exact pure_post rfl rfl rfl
            case o2 => intro W hW; change wpList _ _ _ _ _ _; go_wp2; exact pure_post rfl rfl rfl
            case o3 => intro W hW; change wpList _ _ _ _ _ _; go_wp2; exact pure_post rfl rfl rfl
            case o4 => intro W hW; rintro _ rfl; change wpList _ _ _ _ _ _; go_wp2; exact pure_post rfl rfl rfl
            case o5 => intro W hW; rintro _ rfl; rintro _ rfl; change wpList _ _ _ _ _ _; go_wp2; exact pure_post rfl rfl rfl
            case o6 =>
              intro W hW; rintro _ rfl; change wpList _ _ _ _ _ _
              have hc := ((HK.out.below hW HK.out.lt).cell (a * 16 + b)).trans (relC_at HV0.out)
              go_wp2; exact pure_post rfl rfl rfl
            case o7 => intro W hW; rintro _ rfl; change wpList _ _ _ _ _ _; go_wp2; exact pure_post rfl rfl rfl
            case o8 => intro W hW; rintro _ rfl; change wpList _ _ _ _ _ _; go_wp2; exact pure_post rfl rfl rfl
            case o9 => intro W hW; rintro _ rfl; change wpList _ _ _ _ _ _; go_wp2; exact pure_post rfl rfl rfl
            case o10 => intro W hW; rintro _ rfl; rintro _ rfl; change wpList _ _ _ _ _ _; go_wp2; exact pure_post rfl rfl rfl
            case o11 => intro W hW; rintro _ rfl; rintro _ rfl; rintro _ rfl; change wpList _ _ _ _ _ _; go_wp2; exact pure_post rfl rfl rfl
            case o12 =>
              intro W hW; rintro _ rfl; rintro _ rfl; change wpList _ _ _ _ _ _
              have hc := ((HK.out.below hW HK.out.lt).cell (a * 16 + k)).trans (relC_at HV1.out)
              go_wp2; exact pure_post rfl rfl rfl
            case o13 => intro W hW; rintro _ rfl; rintro _ rfl; change wpList _ _ _ _ _ _; go_wp2; exact pure_post rfl rfl rfl
            case o14 => intro W hW; rintro _ rfl; change wpList _ _ _ _ _ _; go_wp2; exact pure_post rfl rfl rfl
            case o15 => intro W hW; rintro _ rfl; change wpList _ _ _ _ _ _; go_wp2; exact pure_post rfl rfl rfl
            case o16 => intro W hW; rintro _ rfl; rintro _ rfl; change wpList _ _ _ _ _ _; go_wp2; exact pure_post rfl rfl rfl
            case o17 => intro W hW; rintro _ rfl; rintro _ rfl; rintro _ rfl; change wpList _ _ _ _ _ _; go_wp2; exact pure_post rfl rfl rfl
            case o18 =>
              intro W hW; rintro _ rfl; rintro _ rfl; change wpList _ _ _ _ _ _
              have hc := ((HK.out.below hW HK.out.lt).cell (k * 16 + b)).trans (relC_at HV2.out)
              go_wp2; exact pure_post rfl rfl rfl
            case o19 => intro W hW; rintro _ rfl; rintro _ rfl; rintro _ rfl; change wpList _ _ _ _ _ _; go_wp2; exact pure_post rfl rfl rfl
            case o20 => intro W hW; rintro _ rfl; rintro _ rfl; change wpList _ _ _ _ _ _; go_wp2; exact pure_post rfl rfl rfl
            case o21 => intro W hW; rintro _ rfl; change wpList _ _ _ _ _ _; go_wp2; exact pure_post rfl rfl rfl
            case o22 => intro W hW; rintro _ rfl; rintro _ rfl; change wpList _ _ _ _ _ _; go_wp2; exact pure_post rfl rfl rfl
          case hend =>
            intro W hW; rintro _ rfl; rintro _ rfl; rintro _ rfl; rintro _ rfl; rintro _ rfl; rintro _ rfl; rintro _ rfl; rintro _ rfl; rintro _ rfl; rintro _ rfl; rintro _ rfl; rintro _ rfl; rintro _ rfl; rintro _ rfl; rintro _ rfl; rintro _ rfl; rintro _ rfl; rintro _ rfl; rintro _ rfl; rintro _ rfl; rintro _ rfl; rintro _ rfl; rintro _ rfl
            simp only [given, put_lit, List.set, List.drop]
            have HK8 := kp (HK.out.below hW HK.out.lt)
            have HB8 := kp (HBL.out.trans (Below.mono hW HBS.out))
            have hcv := (HK8.out.cell (a * 16 + b)).trans (relC_at HV0.out)
            have hfv := HK8.out.frozen (a * 16 + b)
            go_wp2
            go_roundw
            case rel => exact ⟨b + 1, L3.set (a * 16 + b) v2, by omega, by go_num, by rw [List.length_set]; exact HL.out, HStep.out _ (by simp), by rw [← relC_set]; exact HK8.out.set (a * 16 + b) (.bool v2), HB8.out.setCell HG3.out _⟩
            case measure => simp [intOf]; omega
      · go_wp2
        apply region_tail 23 (.is _ :: .is _ :: .is _ :: .is _ :: .is _ :: .is _ :: .is _ :: .is _ :: .is undef :: .is undef :: .is undef :: .is undef :: .is undef :: .is undef :: .is undef :: .is undef :: .is undef :: .is undef :: .is undef :: .is undef :: .is _ :: .is _ :: .is _ :: [])
          [[], [], [], [], [(2, 46)], [(4, 48), (3, 47)], [(5, 49)], [(6, 50)], [(7, 51)], [(7, 51)], [(8, 52), (7, 51)], [(10, 54), (9, 53), (7, 51)], [(11, 55), (7, 51)], [(12, 56), (7, 51)], [(13, 57)], [(13, 57)], [(14, 58), (13, 57)], [(16, 60), (15, 59), (13, 57)], [(17, 61), (13, 57)], [(13, 57), (18, 62), (7, 51)], [(7, 51), (19, 63)], [(0, 44)], [(21, 65), (1, 45)], [(22, 66), (20, 64)]]
          [(0, 44), (1, 45), (2, 46), (3, 47), (4, 48), (5, 49), (6, 50), (7, 51), (8, 52), (9, 53), (10, 54), (11, 55), (12, 56), (13, 57), (14, 58), (15, 59), (16, 60), (17, 61), (18, 62), (19, 63), (20, 64), (21, 65), (22, 66)] (by kernel_rfl) (by kernel_rfl) (by kernel_rfl) (by kernel_rfl) (by kernel_rfl)
        case hob =>
          refine ⟨?o0, ?o1, ?o2, ?o3, ?o4, ?o5, ?o6, ?o7, ?o8, ?o9, ?o10, ?o11, ?o12, ?o13, ?o14, ?o15, ?o16, ?o17, ?o18, ?o19, ?o20, ?o21, ?o22, trivial⟩
          case o0 => intro W hW; change wpList _ _ _ _ _ _; go_wp2; exact pure_post rfl rfl rfl
          case o1 => intro W hW; change wpList _ _ _ _ _ _; go_wp2; exact pure_post rfl rfl rfl
          case o2 => intro W hW; change wpList _ _ _ _ _ _; go_wp2; exact pure_post rfl rfl rfl
          case o3 => intro W hW; change wpList _ _ _ _ _ _; go_wp2; exact pure_post rfl rfl rfl
          case o4 => intro W hW; rintro _ rfl; change wpList _ _ _ _ _ _; go_wp2; exact pure_post rfl rfl rfl
          case o5 => intro W hW; rintro _ rfl; rintro _ rfl; change wpList _ _ _ _ _ _; go_wp2; exact pure_post rfl rfl rfl
          case o6 =>
            intro W hW; rintro _ rfl; change wpList _ _ _ _ _ _
            have hc := ((HK.out.below hW HK.out.lt).cell (a * 16 + b)).trans (relC_at HV0.out)
            go_wp2; exact pure_post rfl rfl rfl
          case o7 => intro W hW; rintro _ rfl; change wpList _ _ _ _ _ _; go_wp2; exact pure_post rfl rfl rfl
          case o8 => intro W hW; rintro _ rfl; change wpList _ _ _ _ _ _; exact part_skip _ rfl rfl rfl rfl
          case o9 => intro W hW; rintro _ rfl; change wpList _ _ _ _ _ _; exact part_skip _ rfl rfl rfl rfl
          case o10 => intro W hW; rintro _ rfl; rintro _ rfl; change wpList _ _ _ _ _ _; exact part_skip _ rfl rfl rfl rfl
          case o11 => intro W hW; rintro _ rfl; rintro _ rfl; rintro _ rfl; change wpList _ _ _ _ _ _; exact part_skip _ rfl rfl rfl rfl
          case o12 => intro W hW; rintro _ rfl; rintro _ rfl; change wpList _ _ _ _ _ _; exact part_skip _ rfl rfl rfl rfl
          case o13 => intro W hW; rintro _ rfl; rintro _ rfl; change wpList _ _ _ _ _ _; exact part_skip _ rfl rfl rfl rfl
          case o14 => intro W hW; rintro _ rfl; change wpList _ _ _ _ _ _; exact part_skip _ rfl rfl rfl rfl
          case o15 => intro W hW; rintro _ rfl; change wpList _ _ _ _ _ _; exact part_skip _ rfl rfl rfl rfl
          case o16 => intro W hW; rintro _ rfl; rintro _ rfl; change wpList _ _ _ _ _ _; exact part_skip _ rfl rfl rfl rfl
          case o17 => intro W hW; rintro _ rfl; rintro _ rfl; rintro _ rfl; change wpList _ _ _ _ _ _; exact part_skip _ rfl rfl rfl rfl
          case o18 => intro W hW; rintro _ rfl; rintro _ rfl; change wpList _ _ _ _ _ _; exact part_skip _ rfl rfl rfl rfl
          case o19 => intro W hW; rintro _ rfl; rintro _ rfl; rintro _ rfl; change wpList _ _ _ _ _ _; exact part_skip _ rfl rfl rfl rfl
          case o20 => intro W hW; rintro _ rfl; rintro _ rfl; change wpList _ _ _ _ _ _; go_wp2; exact pure_post rfl rfl rfl
          case o21 => intro W hW; rintro _ rfl; change wpList _ _ _ _ _ _; go_wp2; exact pure_post rfl rfl rfl
          case o22 => intro W hW; rintro _ rfl; rintro _ rfl; change wpList _ _ _ _ _ _; go_wp2; exact pure_post rfl rfl rfl
        case hend =>
          intro W hW; rintro _ rfl; rintro _ rfl; rintro _ rfl; rintro _ rfl; rintro _ rfl; rintro _ rfl; rintro _ rfl; rintro _ rfl; rintro _ rfl; rintro _ rfl; rintro _ rfl; rintro _ rfl; rintro _ rfl; rintro _ rfl; rintro _ rfl; rintro _ rfl; rintro _ rfl; rintro _ rfl; rintro _ rfl; rintro _ rfl; rintro _ rfl; rintro _ rfl; rintro _ rfl
          simp only [given, put_lit, List.set, List.drop]
          have HK8 := kp (HK.out.below hW HK.out.lt)
          have HB8 := kp (HBL.out.trans (Below.mono hW HBS.out))
          have hcv := (HK8.out.cell (a * 16 + b)).trans (relC_at HV0.out)
          have hfv := HK8.out.frozen (a * 16 + b)
          go_wp2
          go_roundw
          case rel => exact ⟨b + 1, L3.set (a * 16 + b) true, by omega, by go_num, by rw [List.length_set]; exact HL.out, HStep.out _ (by simp), by rw [← relC_set]; exact HK8.out.set (a * 16 + b) (.bool true), HB8.out.setCell HG3.out _⟩
          case measure => simp [intOf]; omega
    · have hbe : b = 16 := by omega
      have HClo2 : Kept (Q.Clo R 16 k (a + 1) 0 (Q.ent L3)) := kp (by have h := HClo.out; rw [hbe] at h; exact h.line)
      have hge : 16 ≤ b := by omega
      clear hb16 hbe hL
      go_wp2
      refine HX.out _ _ _ _ _ _ _ _ _ _ _ _ _ _ _ _ _ _ _ _ _ _ _ _ _ _ _ _ _ L3 HL.out HClo2.out HK.out HBL.out
end Go.Proofs.Ytkblgafackmckaa

/- A statement whose last operation alone writes ('go_still_tail'): an operation that its guard leaves out, by looking. -/
namespace Go.Proofs.Ytkblgafackmckaa

section
variable {P : Program} {ops : Array Oper} {w : World} {Q : Act → Prop} {a : Act} {o : Oper} {rest : List Oper}
theorem still_skip (hw : Region.wanted o (yielded ops a.tmps) = false) (h : wpStill P ops w Q rest (a.put o.dst undef)) : wpStill P ops w Q (o :: rest) a := by
  unfold wpStill
  rw [if_neg (by rw [hw]; exact Bool.false_ne_true)]
  exact h
theorem still_move (hw : Region.wanted o (yielded ops a.tmps) = true) (x : Operand) (v : Value) (ho : o.op = .move x) (hv : a.eval x = v) (h : wpStill P ops w Q rest (a.put o.dst v)) : wpStill P ops w Q (o :: rest) a := by
  subst hv
  have e : (execOp a.eval o).run P w = .ok (.value (a.eval x)) w := by
    unfold execOp
    rw [ho]
    rfl
  unfold wpStill
  rw [if_pos hw]
  unfold Oper.still
  rw [e]
  exact ⟨rfl, h⟩
theorem still_pick (hw : Region.wanted o (yielded ops a.tmps) = true) (c x y : Operand) (b : Bool) (v : Value) (ho : o.op = .pick c x y) (hc : a.eval c = .bool b) (hv : (if b then a.eval x else a.eval y) = v) (h : wpStill P ops w Q rest (a.put o.dst v)) : wpStill P ops w Q (o :: rest) a := by
  subst hv
  have e : (execOp a.eval o).run P w = .ok (.value (if b then a.eval x else a.eval y)) w := by
    unfold execOp
    rw [ho]
    cases b <;> (simp [hc]; rfl)
  unfold wpStill
  rw [if_pos hw]
  unfold Oper.still
  rw [e]
  exact ⟨rfl, h⟩
end
end Go.Proofs.Ytkblgafackmckaa

/- Whom functions come to by calls, as the program makes it, walked: comesTo. -/
namespace Go.Proofs.Ytkblgafackmckaa
open Go.RowKit

set_option maxRecDepth 1000000 in
set_option maxHeartbeats 8000000 in
theorem prog_comesTo (B : Nat) (p : Pg) (w : World) (hp : p.Ok w B) (hB : B ≤ w.heap.size) (hfit : Q.CallsFit p) (h16 : p.len ≤ 16) :
    Calls Try.prog 58 #[pgA p] w fun e w' => ∃ L : List Bool, e = .returned (.agg (relC L).toArray) ∧ L.length = 256 ∧ (∀ x y, x < 16 → y < 16 → (Q.ent L x y ↔ Q.Reach (Q.calls p) 16 x y)) ∧ Below w.heap.size w w' := by
  have HP := kp hp; have HFit := kp hfit
  have hlen := hp.row.len
  have HLen := kp hlen
  have hlc := hp.lc; have hcm := hp.cm
  unfold maxLen at hcm
  have hcm9 : p.cap ≤ 9223372036854775807 := by omega
  clear hp hfit hlen hcm
  rw [pgA_is]
  go_enter Try.func58, Try.ntmps58
  go_wp2_with (first
    | ((with_reducible refine wpList_box_agg rfl 24 (.tmp 0) rfl (pgC p) rfl ?_); intro g1 w1 hg1 hk1 hw1; have HK1 := kp hk1; have HW1 := kp hw1; have hs1 := hw1.size; clear hg1 hk1 hw1)
    | ((with_reducible show wpList _ _ _ (⟨some 2, _, _, _, _, _⟩ :: _) _ _); go_must (refine wpList_alloc_zero rfl 106 rfl (relC (List.replicate 256 false)) rel_zero ?_); intro g2 w2 hg2 hk2 hw2; have HG2 : Kept (w.heap.size ≤ g2) := kp (Nat.le_trans hs1 hg2); have HK2 := kp hk2; have HKp2 := kp (HK1.out.below hw2 HK1.out.lt); have HW2 := kp (HW1.out.trans (hw2.mono hs1)); have hs2 := HW2.out.size; clear hg2 hk2 hw2)
    | ((with_reducible show wpList _ _ _ (⟨some 3, _, _, _, _, _⟩ :: _) _ _); go_must (refine wpList_alloc_zero rfl 106 rfl (relC (List.replicate 256 false)) rel_zero ?_); intro g3 w3 hg3 hk3 hw3; have HG3 := kp hg3; have HK3 := kp hk3; have HB3 := kp hw3; obtain ⟨hc0, hc1, hc2, hc3⟩ := pg_cells (HKp2.out.below hw3 HKp2.out.lt); clear hg3 hk3 hw3))
  have HP2 := kp (HP.out.below (HW2.out.mono hB))
  have hB2 : B ≤ w2.heap.size := by omega
  clear hc0 hc1 hc2 hc3
  go_loopw [14] (fun v14 wr => ∃ (f : Nat) (L : List Bool), f ≤ p.len ∧ v14 = .int .i64 f ∧ L.length = 256 ∧ (∀ x y, x < 16 → y < 16 → (Q.ent L x y ↔ x < f ∧ Q.calls p x y)) ∧ Blk wr g3 106 (relC L) ∧ Below w2.heap.size w2 wr) (fun v14 _ => p.len - (intOf v14).toNat)
  case atStart => exact ⟨0, List.replicate 256 false, by omega, rfl, List.length_replicate, fun x y _ _ => ⟨fun h => absurd h (Q.ent_zero x y), fun h => by omega⟩, HK3.out, HB3.out⟩
  case round =>
    obtain ⟨f, L, hf, rfl, hL, hent, hk, hbl⟩ := hrel
    have HEnt := kp hent; have HK := kp hk; have HBL := kp hbl
    have hszr := hbl.size
    have HPr := kp (HP2.out.below (hbl.mono hB2))
    clear hent hk hbl
    by_cases hlt : f < p.len
    · obtain ⟨ad, fn, e1, hab, hx, hok, hcf⟩ := HPr.out.fn hlt
      rw [e1]
      have HE1 := kp e1
      have hfc := hok.lc; have hfm := hok.cm
      unfold maxLen at hfm
      have hfm9 : fn.cap ≤ 9223372036854775807 := by omega
      have HX := kp hx
      have hfl := hok.nodes.1.len
      have HFl := kp hfl
      have HFitF : Kept (∀ nd ∈ fn.nodes, nd.kind = 7 → 0 ≤ nd.arg ∧ nd.arg < p.len) := kp (HFit.out fn (List.mem_of_getElem? hx))
      clear hx hok hfm hfl e1
      go_wp2
      clear hcf
      go_loopw [21] (fun v21 wq => ∃ (i : Nat) (L : List Bool), i ≤ fn.len ∧ v21 = .int .i64 i ∧ L.length = 256 ∧ (∀ x y, x < 16 → y < 16 → (Q.ent L x y ↔ (x < f ∧ Q.calls p x y) ∨ (x = f ∧ Q.callsTo (fn.nodes.take i) y))) ∧ Blk wq g3 106 (relC L) ∧ Below w2.heap.size w2 wq) (fun v21 _ => fn.len - (intOf v21).toNat)
      case atStart => exact ⟨0, L, by omega, rfl, hL, fun x y hx hy => by rw [HEnt.out x y hx hy]; simp [Q.callsTo], HK.out, HBL.out⟩
      case round =>
        clear HK HBL HEnt hL hszr
        obtain ⟨i, L, hi, rfl, hL, hent, hk, hbq⟩ := hrel
        have HEnt := kp hent; have HK := kp hk; have HBq := kp hbq
        have hszq := hbq.size
        have HPq := kp (HP2.out.below (hbq.mono hB2))
        obtain ⟨ad', fn', e1', _, hx', hok, _⟩ := HPq.out.fn hlt
        rw [HE1.out] at e1'
        cases e1'
        rw [HX.out] at hx'
        cases hx'
        clear hent hk hbq
        by_cases hli : i < fn.len
        · obtain ⟨bd, x, e3, hbb, hy, hxok, hn0, hn1, hn2, hn3⟩ := hok.nodes.get hli
          rw [e3]
          have HE3 := kp e3
          have HSn := kp (callsTo_snoc fn.nodes i x hy)
          have HY := kp hy
          clear e3 hy hxok hok
          by_cases h7 : x.kind = 7
          · have hz : (x.kind == 7) = true := by simpa using h7
            obtain ⟨ha0, han⟩ := HFitF.out x (List.mem_of_getElem? HY.out) h7
            obtain ⟨k, hk⟩ : ∃ k : Nat, x.arg = (k : Int) := ⟨x.arg.toNat, by omega⟩
            have hk16 : k < 16 := by omega
            have hf16 : f < 16 := by omega
            have hfi : (f : Int) < (16 : Int) := by omega
            have hki : (k : Int) < (16 : Int) := by omega
            have hf0 : (0 : Int) ≤ (f : Int) := by omega
            have hk0 : (0 : Int) ≤ (k : Int) := by omega
            have HKx := kp hk
            have H7 := kp h7
            clear ha0 han hk h7
            go_wp2_with (first
              | ((with_reducible show wpList _ _ _ (⟨some 7, _, _, _, _, _⟩ :: _) _ _); go_must (refine wpList_alloc_zero rfl 47 rfl (ndC ⟨0, 0, 0, 0⟩) nd_zero ?_); intro g5 w6 hg5 hk6 hw6; have HG5 := kp hg5; have HK6 := kp hk6; have HW6 := kp hw6; clear hg5 hk6 hw6)
              | ((with_reducible show wpList _ _ _ (⟨none, _, _, _, _, _⟩ :: _) _ _); go_must (refine wpList_store_blk rfl 47 (.tmp 7) (.tmp 24) rfl g5 (ndC x) rfl rfl _ _ HK6.out nd_size rfl (nd_ones x) ?_); intro w7 hk7 hg7 hs7
                 obtain ⟨hx0, hx1, hx2, hx3⟩ := nd_cells hk7
                 have HBq7 := kp (HW6.out.grown hg7 HW6.out.size (fun k hk => by cases hk; exact HG5.out))
                 have HB7 := kp (HBq.out.trans (HBq7.out.mono hszq))
                 have HK7 := kp (HK.out.below HBq7.out HK.out.lt)
                 clear hk7 hg7 hs7 hn0 hn1 hn2 hn3))
            rw [HKx.out] at hx1
            go_still_tail 5, (by kernel_rfl)
            change wpList _ _ _ _ _ (w7.drewN 1)
            obtain ⟨w8, hw8⟩ : ∃ w8, w7.drewN 1 = w8 := ⟨_, rfl⟩
            have HK8 : Kept (Blk w8 g3 106 (relC L)) := kp (by rw [← hw8]; exact HK7.out.drewN 1)
            have HB8 : Kept (Below w2.heap.size w2 w8) := kp (by rw [← hw8]; exact below_drewN HB7.out 1)
            rw [hw8]
            clear hw8
            obtain ⟨v, hv, _⟩ := Q.ent_at hL hf16 hk16
            have hcv := (HK8.out.cell (f * 16 + k)).trans (relC_at hv)
            have hfv := HK8.out.frozen (f * 16 + k)
            have HHv := kp hv
            clear hv hx0 hx1 hx2 hx3
            go_wp2
            go_roundw
            case rel => exact ⟨i + 1, L.set (f * 16 + k) true, by omega, by go_num, by rw [List.length_set]; exact hL, fun x' y' hx' hy' => by
              rw [Q.ent_set hL hf16 hk16 true x' y' hx' hy', HSn.out y', HEnt.out x' y' hx' hy', HKx.out]
              have h7 := H7.out
              by_cases e : x' = f ∧ y' = k
              · rw [if_pos e]
                obtain ⟨e1, e2⟩ := e
                exact ⟨fun _ => .inr ⟨e1, .inr ⟨h7, by omega⟩⟩, fun _ => rfl⟩
              · rw [if_neg e]
                constructor
                · rintro (h | ⟨h, h'⟩)
                  · exact .inl h
                  · exact .inr ⟨h, .inl h'⟩
                · rintro (h | ⟨h, h' | ⟨_, h'⟩⟩)
                  · exact .inl h
                  · exact .inr ⟨h, h'⟩
                  · exact absurd ⟨h, by omega⟩ e, by rw [← relC_set]; exact HK8.out.set (f * 16 + k) (.bool true), HB8.out.setCell HG3.out _⟩
            case measure => simp [intOf]; omega
          · have hz : (x.kind == 7) = false := by simpa using h7
            have HN : Kept (∀ y, Q.callsTo (fn.nodes.take (i + 1)) y ↔ Q.callsTo (fn.nodes.take i) y) := kp fun y => by
              rw [HSn.out y]
              simp [h7]
            go_wp2_with (first
              | ((with_reducible show wpList _ _ _ (⟨some 7, _, _, _, _, _⟩ :: _) _ _); go_must (refine wpList_alloc_zero rfl 47 rfl (ndC ⟨0, 0, 0, 0⟩) nd_zero ?_); intro g5 w6 hg5 hk6 hw6; have HG5 := kp hg5; have HK6 := kp hk6; have HW6 := kp hw6; clear hg5 hk6 hw6)
              | ((with_reducible show wpList _ _ _ (⟨none, _, _, _, _, _⟩ :: _) _ _); go_must (refine wpList_store_blk rfl 47 (.tmp 7) (.tmp 24) rfl g5 (ndC x) rfl rfl _ _ HK6.out nd_size rfl (nd_ones x) ?_); intro w7 hk7 hg7 hs7
                 obtain ⟨hx0, hx1, hx2, hx3⟩ := nd_cells hk7
                 have HBq7 := kp (HW6.out.grown hg7 HW6.out.size (fun k hk => by cases hk; exact HG5.out))
                 have HB7 := kp (HBq.out.trans (HBq7.out.mono hszq))
                 have HK7 := kp (HK.out.below HBq7.out HK.out.lt)
                 clear hk7 hg7 hs7 hn0 hn1 hn2 hn3))
            go_roundw
            case rel => exact ⟨i + 1, L, by omega, by go_num, hL, fun x y hx hy => by rw [HN.out y]; exact HEnt.out x y hx hy, HK7.out, HB7.out⟩
            case measure => simp [intOf]; omega
        · have hgel : fn.len ≤ i := by omega
          have hfa : fn.nodes.take i = fn.nodes := List.take_of_length_le (by rw [HFl.out]; omega)
          have HNx : Kept (∀ x y, x < 16 → y < 16 → (Q.ent L x y ↔ x < f + 1 ∧ Q.calls p x y)) := kp fun x y hx hy => by
            rw [HEnt.out x y hx hy, hfa, calls_at HX.out]
            constructor
            · rintro (⟨h1, h2⟩ | ⟨h1, h2⟩)
              · exact ⟨by omega, h2⟩
              · subst h1; exact ⟨by omega, h2⟩
            · rintro ⟨h1, h2⟩
              by_cases e : x = f
              · subst e; exact .inr ⟨rfl, h2⟩
              · exact .inl ⟨by omega, h2⟩
          clear hli hok hfa
          go_wp2
          go_roundw
          case rel => exact ⟨f + 1, L, by omega, by go_num, hL, HNx.out, HK.out, HBq.out⟩
          case measure => simp [intOf]; omega
    · have hge : p.len ≤ f := by omega
      have HClo : Kept (Q.Clo (Q.calls p) 16 0 0 0 (Q.ent L)) := kp (Q.Clo.start fun x y hx hy => by
        rw [HEnt.out x y hx hy]
        constructor
        · exact fun h => h.2
        · rintro ⟨fn, h1, h2⟩
          have := (List.getElem?_eq_some_iff.1 h1).1
          rw [HLen.out] at this
          exact ⟨by omega, fn, h1, h2⟩)
      clear hlt HEnt HPr hszr
      go_wp2
      go_loopw [35] (fun v35 wq => ∃ (k : Nat) (L : List Bool), k ≤ 16 ∧ v35 = .int .i64 k ∧ L.length = 256 ∧ Q.Clo (Q.calls p) 16 k 0 0 (Q.ent L) ∧ Blk wq g3 106 (relC L) ∧ Below w2.heap.size w2 wq) (fun v35 _ => 16 - (intOf v35).toNat)
      case atStart => exact ⟨0, L, by omega, rfl, hL, HClo.out, HK.out, HBL.out⟩
      case round =>
        clear HClo HK HBL hL
        obtain ⟨k, L1, hk, rfl, hL, hclo, hkb, hbl⟩ := hrel
        have HClo := kp hclo; have HK := kp hkb; have HBL := kp hbl
        clear hclo hkb hbl
        by_cases hk16 : k < 16
        · go_wp2
          go_loopw [38] (fun v38 wq => ∃ (a : Nat) (L : List Bool), a ≤ 16 ∧ v38 = .int .i64 a ∧ L.length = 256 ∧ Q.Clo (Q.calls p) 16 k a 0 (Q.ent L) ∧ Blk wq g3 106 (relC L) ∧ Below w2.heap.size w2 wq) (fun v38 _ => 16 - (intOf v38).toNat)
          case atStart => exact ⟨0, L1, by omega, rfl, hL, HClo.out, HK.out, HBL.out⟩
          case round =>
            clear HClo HK HBL hL
            obtain ⟨a, L2, ha, rfl, hL, hclo, hkb, hbl⟩ := hrel
            have HClo := kp hclo; have HK := kp hkb; have HBL := kp hbl
            clear hclo hkb hbl
            by_cases ha16 : a < 16
            · go_wp2
              apply rel_loop5 (Q.calls p) w2.heap.size g3 k a hk16 ha16 L2 hL w2 wr HClo.out HK.out HG3.out HBL.out
              intro x10 x41 x42 x43 x44 x45 x46 x47 x48 x49 x50 x51 x52 x53 x54 x55 x56 x57 x58 x59 x60 x61 x62 x63 x64 x65 x66 x67 W L9 hL9 hclo9 hk9 hb9
              have HClo9 := kp hclo9; have HK9 := kp hk9; have HB9 := kp hb9
              clear hclo9 hk9 hb9
              go_wp2
              go_roundw
              case rel => exact ⟨a + 1, L9, by omega, by go_num, hL9, HClo9.out, HK9.out, HB9.out⟩
              case measure => simp [intOf]; omega
            · have hae : a = 16 := by omega
              have HClo2 : Kept (Q.Clo (Q.calls p) 16 (k + 1) 0 0 (Q.ent L2)) := kp (by have h := HClo.out; rw [hae] at h; exact h.round)
              have hge : 16 ≤ a := by omega
              clear ha16 hae
              go_wp2
              go_roundw
              case rel => exact ⟨k + 1, L2, by omega, by go_num, hL, HClo2.out, HK.out, HBL.out⟩
              case measure => simp [intOf]; omega
        · have hke : k = 16 := by omega
          have HEnd : Kept (∀ x y, x < 16 → y < 16 → (Q.ent L1 x y ↔ Q.Reach (Q.calls p) 16 x y)) := kp (by have h := HClo.out; rw [hke] at h; exact h.end_)
          have hge : 16 ≤ k := by omega
          have HKr := kp (HK2.out.below HBL.out HK2.out.lt)
          clear hk16 hke HClo
          go_wp2_with (first
            | ((with_reducible show wpList _ _ _ (⟨some 70, _, _, _, _, _⟩ :: _) _ _); go_must (refine wpList_load_blk rfl 106 (.tmp 3) rfl g3 rfl _ (relC L1) _ HK.out Try.underlying106 rfl (by rw [relC_len, hL]; exact rel_size) ?_))
            | ((with_reducible show wpList _ _ _ (⟨none, _, _, _, _, _⟩ :: _) _ _); go_must (refine wpList_store_blk rfl 106 (.tmp 2) (.tmp 70) rfl g2 (relC L1) rfl rfl _ _ HKr.out (by rw [relC_len, hL]; exact rel_size) (by rw [relC_len, relC_len, hL, List.length_replicate]) (rel_ones L1) ?_); intro w9 hk9 hg9 _; have HK9 := kp hk9; have HB9 := kp ((HW2.out.trans (HBL.out.mono hs2)).grown hg9 (Nat.le_trans hs2 HBL.out.size) (fun k hk => by cases hk; exact HG2.out)); clear hk9 hg9))
          refine bodyPost_ret (results_blk (P := Try.prog) (fn := Try.f58) rfl _ _ g2 106 (relC L1) _ rfl HK9.out Try.underlying106 rfl (by rw [relC_len, hL]; exact rel_size)) rfl (ret_rel hL HEnd.out HB9.out)
end Go.Proofs.Ytkblgafackmckaa
