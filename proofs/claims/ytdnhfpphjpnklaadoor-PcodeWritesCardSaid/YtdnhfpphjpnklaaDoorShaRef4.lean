/- What the document's own digest is, walked. -/
import Derived.Test.YtdnhfpphjpnklaaDoorPk19
import Derived.Test.YtdnhfpphjpnklaaDoorPk13
import Derived.Test.YtdnhfpphjpnklaaDoorPk3
import Derived.StillTailTactics
namespace Go.Proofs.YtdnhfpphjpnklaaDoor
open Go.RowKit

theorem zero32r : (Tryd.prog.info? 31).map (·.zero) = some (some (.agg ((List.replicate 32 0).map byteV).toArray)) := by kernel_rfl
theorem size32r : (Tryd.prog.info? 31).map (·.size) = some 32 := by kernel_rfl

theorem made_n {α : Type} (f : α → Value) (w : World) (l : List α) (n : Nat) (cs : Array Value) (hcs : cs.toList = l.map f) (hn : l.length = n) (e : TypeId) :
    Row f (w.alloc (.cells cs e)) (w.alloc (.cells cs e)).heap.size (some ⟨w.heap.size, 0, none⟩) n l := hn ▸ Row.made f w l cs hcs e

theorem own_as {w : World} {B : Nat} {e : TypeId} {v : Value} {l m : List Nat} (h : Own w B e v (l.map wordV)) (hm : l = m) : Own w B e v (m.map wordV) := hm ▸ h

set_option maxRecDepth 1000000 in
set_option maxHeartbeats 4000000 in
theorem ref_of (A : Option Addr) (n c : Nat) (bs : List Nat) (w : World) (hr : Row byteV w w.heap.size A n bs) (hb : ∀ x ∈ bs, x < 256) (hn : n ≤ 100000) (dig : List Nat) (hdig : H.digest bs = dig) :
    Calls Tryd.prog 10 #[.slice A n c] w fun e w' => e = .returned (.agg (dig.map byteV).toArray) ∧ Below w.heap.size w w' := by
  have HR := kp hr
  have HN := kp hb
  have HDig := kp hdig
  clear hr hb hdig
  go_enter Tryd.func10, Tryd.ntmps10
  go_wp2_with ((with_reducible show wpList _ _ _ (⟨some 2, _, _, _, _, _⟩ :: _) _ _); go_must (refine wpList_alloc_zero rfl 31 rfl _ zero32r ?_); intro g2 w0 hg2 hk2 hw0; have HG2 := kp hg2; have HK2 := kp hk2; have HW0 := kp hw0; clear hg2 hk2 hw0)
  refine (ref_hex _ _ (by decide +kernel)).mono ?_
  rintro e w1 ⟨v1, rfl, hown1, hb1⟩
  have HO1 := kp (own_as (m := H.K) hown1 (by decide +kernel))
  have HB1 := kp hb1
  clear hown1 hb1
  go_wp2_with fail
  refine (ref_hex _ _ (by decide +kernel)).mono ?_
  rintro e w2 ⟨v2, rfl, hown2, hb2⟩
  have HO2 := kp (own_as (m := H.L0) hown2 (by decide +kernel))
  have HB2 := kp hb2
  clear hown2 hb2
  go_wp2_with fail
  have HR2 := kp ((((HR.out.below HW0.out).below (HB1.out.mono HW0.out.size)).below (HB2.out.mono (Nat.le_trans HW0.out.size HB1.out.size))).more (B' := w2.heap.size) (Nat.le_trans (Nat.le_trans HW0.out.size HB1.out.size) HB2.out.size))
  refine (ref_padded A n c bs _ HR2.out hn).mono ?_
  rintro e w3 ⟨v3, rfl, hown3, hb3⟩
  have hpl : (H.pad bs).length = 64 * ((H.pad bs).length / 64) := by have := H.pad_mod bs; omega
  generalize hnb : (H.pad bs).length / 64 = nb at *
  obtain ⟨A5, c5, rfl, _, _, hr5⟩ := hown3.bytesN hpl
  have hnb1 : nb ≤ 2000 := by
    have h1 := H.pad_len bs
    have h2 := HR.out.len
    have h3 : H.zeros bs.length < 64 := Nat.mod_lt _ (by omega)
    omega
  have HR5 := kp hr5
  have HB3 := kp hb3
  have HNB := kp hnb
  have HByte := kp (H.pad_byte bs HN.out)
  clear hown3 hr5 hb3 hnb hpl
  have hsz1 := HB1.out.size
  have hsz2 := HB2.out.size
  have hsz3 := HB3.out.size
  have hsz0 := HW0.out.size
  have HO13 := kp ((HO1.out.below HB2.out (Nat.le_refl _)).below HB3.out (by omega))
  have HO23 := kp (HO2.out.below HB3.out (Nat.le_refl _))
  go_wp2
  obtain ⟨A3, c3, rfl, _, _, hr3⟩ := HO13.out.readsN (n := 64) rfl
  have HR3 := kp hr3
  obtain ⟨A4, c4, rfl, _, _, hr4⟩ := HO23.out.readsN (n := 8) rfl
  have HR4 := kp hr4
  obtain ⟨ad3, _, rfl, _, _, _⟩ := HR3.out.get (k := 0) (by omega)
  clear hr3 hr4
  go_loopw [4, 6] (fun v4 v6 wr => ∃ (q : Nat) (l : List Nat) (A : Option Addr) (c : Nat), q ≤ nb ∧ v6 = .int .i64 ((64 * q : Nat) : Int) ∧ l = H.blocks (H.pad bs) q H.L0 ∧ v4 = .slice A 8 c ∧ Row wordV wr wr.heap.size A 8 l ∧ Below w3.heap.size w3 wr) (fun _ v6 _ => 64 * nb - (intOf v6).toNat)
  case atStart => exact ⟨0, H.L0, A4, c4, by omega, rfl, rfl, rfl, HR4.out, Below.refl _ _⟩
  case round =>
    obtain ⟨q, l, A4, c4, hq, rfl, hl, rfl, hrow4, hbl⟩ := hrel
    have HL := kp hl
    have HRow4 := kp hrow4
    have HBL := kp hbl
    clear hl hrow4 hbl
    by_cases hlt : q < nb
    · obtain ⟨ad5, _, rfl, _, _, _⟩ := HR5.out.get (k := 64 * q) (by omega)
      go_wp2
      have HRP := kp (HR5.out.below HBL.out)
      apply ref_words (B5 := w3.heap.size) (B := wr.heap.size) (bs := H.pad bs)
      case hr => exact HRP.out
      case hb => exact HByte.out
      case hq => omega
      case hn => omega
      case hB5 => exact HBL.out.size
      case hB => exact Nat.le_refl _
      case hexit =>
        intros
        rename_i W v7x hown hbw
        have HOW := kp hown
        have HBW := kp hbw
        clear hown hbw
        go_wp2
        apply ref_sched (B := wr.heap.size) (ws := H.words (((H.pad bs).drop (64 * q)).take 64) 16)
        case hws => exact H.words_len _ _
        case hlt => exact H.words_lt _ _
        case hown => exact HOW.out
        case hB => exact HBW.out.size
        case hexit =>
          intros
          rename_i W2 v7y hown2 hbw2
          obtain ⟨A7, c7, rfl, _, _, hr7⟩ := hown2.readsN (n := 64) (by rw [H.sched_len, H.words_len])
          obtain ⟨ad7, _, rfl, _, _, _⟩ := hr7.get (k := 0) (by omega)
          have hb2 : Below wr.heap.size wr W2 := HBW.out.trans hbw2
          have HB2 := kp hb2
          have HR7 := kp hr7
          have hr4 := HRow4.out.below hb2
          have hl32 : ∀ x ∈ l, x < 4294967296 := by rw [HL.out]; exact H.blocks_lt _ _
          obtain ⟨ad4, x0, rfl, hab4, h0, hc0⟩ := hr4.get (k := 0) (by omega)
          obtain ⟨_, x1, e1, _, h1, hc1⟩ := hr4.get (k := 1) (by omega); cases e1
          obtain ⟨_, x2, e2, _, h2, hc2⟩ := hr4.get (k := 2) (by omega); cases e2
          obtain ⟨_, x3, e3, _, h3, hc3⟩ := hr4.get (k := 3) (by omega); cases e3
          obtain ⟨_, x4, e4, _, h4, hc4⟩ := hr4.get (k := 4) (by omega); cases e4
          obtain ⟨_, x5, e5, _, h5, hc5⟩ := hr4.get (k := 5) (by omega); cases e5
          obtain ⟨_, x6, e6, _, h6, hc6⟩ := hr4.get (k := 6) (by omega); cases e6
          obtain ⟨_, x7, e7, _, h7, hc7⟩ := hr4.get (k := 7) (by omega); cases e7
          have hst : H.stOf l = ⟨x0, x1, x2, x3, x4, x5, x6, x7⟩ := by simp only [H.stOf, List.getD_eq_getElem?_getD, h0, h1, h2, h3, h4, h5, h6, h7, Option.getD_some]
          have HST := kp hst
          have HSM : Kept ((⟨x0, x1, x2, x3, x4, x5, x6, x7⟩ : H.St).Small) := kp <| by rw [← hst]; exact H.st_small l hl32
          obtain ⟨b4, o4, sp⟩ := ad4
          have hsp : sp = none := by simpa [Addr.add] using World.cell?_spot hc0
          subst hsp
          have ha : ∀ j, (⟨b4, o4, none⟩ : Addr).add j = ⟨b4, o4 + j, none⟩ := by intro j; unfold Addr.add; split <;> simp_all
          rw [ha] at hc0 hc1 hc2 hc3 hc4 hc5 hc6 hc7
          rw [Nat.add_zero] at hc0
          have HC := kp (And.intro hc0 (And.intro hc1 (And.intro hc2 (And.intro hc3 (And.intro hc4 (And.intro hc5 (And.intro hc6 hc7)))))))
          have HB4 : Kept (b4 < W2.heap.size) := kp <| Nat.lt_of_lt_of_le hab4 HB2.out.size
          rw [wordV_def] at hc0 hc1 hc2 hc3 hc4 hc5 hc6 hc7
          clear ha hab4
          have HR4 := kp hr4
          have HH := kp (And.intro h0 (And.intro h1 (And.intro h2 (And.intro h3 (And.intro h4 (And.intro h5 (And.intro h6 h7)))))))
          clear hown2 hbw2 hr7 hb2 hr4 hl32 hst h0 h1 h2 h3 h4 h5 h6 h7
          go_wp2
          go_quiet (fail)
          clear hc0 hc1 hc2 hc3 hc4 hc5 hc6 hc7
          go_wp2
          apply ref_rounds (B3 := w3.heap.size) (B7 := W2.heap.size) (s := ⟨x0, x1, x2, x3, x4, x5, x6, x7⟩) (ws := H.sched 48 (H.words (((H.pad bs).drop (64 * q)).take 64) 16))
          case hk => exact ((HR3.out.below HBL.out).below (below_draws (HB2.out.mono HBL.out.size) _))
          case hw => exact HR7.out.below (below_draws (Below.refl _ _) _)
          case hwl => exact H.sched_lt _ (H.words_lt _ _) _
          case hs => exact HSM.out
          case hexit =>
            intros
            rename_i W3 n3 hw3
            subst hw3
            go_wp2
            generalize hfin : H.rnds (H.sched 48 (H.words (((H.pad bs).drop (64 * q)).take 64) 16)) 64 ⟨x0, x1, x2, x3, x4, x5, x6, x7⟩ = fin
            have HBlk := kp (H.block_at l _ x0 x1 x2 x3 x4 x5 x6 x7 HH.out fin hfin.symm)
            clear hfin
            apply region_tail 40 (.is _ :: .is _ :: .is _ :: .is _ :: .is _ :: .is _ :: .is _ :: .is _ :: .is _ :: .is _ :: .is _ :: .is _ :: .is _ :: .is _ :: .is _ :: .is _ :: .is _ :: .is _ :: .is _ :: .is _ :: .is _ :: .is _ :: .is _ :: .is _ :: .is _ :: .is _ :: .is _ :: .is _ :: .is _ :: .is _ :: .is _ :: .is _ :: .is _ :: .is _ :: .is _ :: .is _ :: .is _ :: .is _ :: .is _ :: .is _ :: [])
              [[], [(0, 203)], [(1, 204)], [], [(2, 205), (3, 206)], [], [(5, 208)], [(6, 209)], [], [(7, 210), (8, 211)], [], [(10, 213)], [(11, 214)], [], [(12, 215), (13, 216)], [], [(15, 218)], [(16, 219)], [], [(17, 220), (18, 221)], [], [(20, 223)], [(21, 224)], [], [(22, 225), (23, 226)], [], [(25, 228)], [(26, 229)], [], [(27, 230), (28, 231)], [], [(30, 233)], [(31, 234)], [], [(32, 235), (33, 236)], [], [(35, 238)], [(36, 239)], [], [(37, 240), (38, 241)], [(4, 207), (9, 212), (14, 217), (19, 222), (24, 227), (29, 232), (34, 237), (39, 242)], [(40, 243)]]
              [(0, 203), (1, 204), (2, 205), (3, 206), (4, 207), (5, 208), (6, 209), (7, 210), (8, 211), (9, 212), (10, 213), (11, 214), (12, 215), (13, 216), (14, 217), (15, 218), (16, 219), (17, 220), (18, 221), (19, 222), (20, 223), (21, 224), (22, 225), (23, 226), (24, 227), (25, 228), (26, 229), (27, 230), (28, 231), (29, 232), (30, 233), (31, 234), (32, 235), (33, 236), (34, 237), (35, 238), (36, 239), (37, 240), (38, 241), (39, 242)] (by kernel_rfl) (by kernel_rfl) (by kernel_rfl) (by kernel_rfl) (by kernel_rfl)
            case hob =>
              refine ⟨?o0, ?o1, ?o2, ?o3, ?o4, ?o5, ?o6, ?o7, ?o8, ?o9, ?o10, ?o11, ?o12, ?o13, ?o14, ?o15, ?o16, ?o17, ?o18, ?o19, ?o20, ?o21, ?o22, ?o23, ?o24, ?o25, ?o26, ?o27, ?o28, ?o29, ?o30, ?o31, ?o32, ?o33, ?o34, ?o35, ?o36, ?o37, ?o38, ?o39, trivial⟩
              case o0 => intro W hW; change wpList _ _ _ _ _ _; go_wp2; exact pure_post rfl rfl rfl
              case o1 => intro W hW; rintro _ rfl; change wpList _ _ _ _ _ _; go_wp2; exact pure_post rfl rfl rfl
              case o2 =>
                intro W hW; rintro _ rfl; change wpList _ _ _ _ _ _
                have hc := (Below.cell hW (p := ⟨b4, o4, none⟩) HB4.out).trans HC.out.1
                rw [wordV_def] at hc
                go_wp2; exact pure_post rfl rfl rfl
              case o3 => intro W hW; change wpList _ _ _ _ _ _; go_wp2; exact pure_post rfl rfl rfl
              case o4 => intro W hW; rintro _ rfl; rintro _ rfl; change wpList _ _ _ _ _ _; go_wp2; exact pure_post rfl rfl rfl
              case o5 => intro W hW; change wpList _ _ _ _ _ _; go_wp2; exact pure_post rfl rfl rfl
              case o6 => intro W hW; rintro _ rfl; change wpList _ _ _ _ _ _; go_wp2; exact pure_post rfl rfl rfl
              case o7 =>
                intro W hW; rintro _ rfl; change wpList _ _ _ _ _ _
                have hc := (Below.cell hW (p := ⟨b4, o4 + 1, none⟩) HB4.out).trans HC.out.2.1
                rw [wordV_def] at hc
                go_wp2; exact pure_post rfl rfl rfl
              case o8 => intro W hW; change wpList _ _ _ _ _ _; go_wp2; exact pure_post rfl rfl rfl
              case o9 => intro W hW; rintro _ rfl; rintro _ rfl; change wpList _ _ _ _ _ _; go_wp2; exact pure_post rfl rfl rfl
              case o10 => intro W hW; change wpList _ _ _ _ _ _; go_wp2; exact pure_post rfl rfl rfl
              case o11 => intro W hW; rintro _ rfl; change wpList _ _ _ _ _ _; go_wp2; exact pure_post rfl rfl rfl
              case o12 =>
                intro W hW; rintro _ rfl; change wpList _ _ _ _ _ _
                have hc := (Below.cell hW (p := ⟨b4, o4 + 2, none⟩) HB4.out).trans HC.out.2.2.1
                rw [wordV_def] at hc
                go_wp2; exact pure_post rfl rfl rfl
              case o13 => intro W hW; change wpList _ _ _ _ _ _; go_wp2; exact pure_post rfl rfl rfl
              case o14 => intro W hW; rintro _ rfl; rintro _ rfl; change wpList _ _ _ _ _ _; go_wp2; exact pure_post rfl rfl rfl
              case o15 => intro W hW; change wpList _ _ _ _ _ _; go_wp2; exact pure_post rfl rfl rfl
              case o16 => intro W hW; rintro _ rfl; change wpList _ _ _ _ _ _; go_wp2; exact pure_post rfl rfl rfl
              case o17 =>
                intro W hW; rintro _ rfl; change wpList _ _ _ _ _ _
                have hc := (Below.cell hW (p := ⟨b4, o4 + 3, none⟩) HB4.out).trans HC.out.2.2.2.1
                rw [wordV_def] at hc
                go_wp2; exact pure_post rfl rfl rfl
              case o18 => intro W hW; change wpList _ _ _ _ _ _; go_wp2; exact pure_post rfl rfl rfl
              case o19 => intro W hW; rintro _ rfl; rintro _ rfl; change wpList _ _ _ _ _ _; go_wp2; exact pure_post rfl rfl rfl
              case o20 => intro W hW; change wpList _ _ _ _ _ _; go_wp2; exact pure_post rfl rfl rfl
              case o21 => intro W hW; rintro _ rfl; change wpList _ _ _ _ _ _; go_wp2; exact pure_post rfl rfl rfl
              case o22 =>
                intro W hW; rintro _ rfl; change wpList _ _ _ _ _ _
                have hc := (Below.cell hW (p := ⟨b4, o4 + 4, none⟩) HB4.out).trans HC.out.2.2.2.2.1
                rw [wordV_def] at hc
                go_wp2; exact pure_post rfl rfl rfl
              case o23 => intro W hW; change wpList _ _ _ _ _ _; go_wp2; exact pure_post rfl rfl rfl
              case o24 => intro W hW; rintro _ rfl; rintro _ rfl; change wpList _ _ _ _ _ _; go_wp2; exact pure_post rfl rfl rfl
              case o25 => intro W hW; change wpList _ _ _ _ _ _; go_wp2; exact pure_post rfl rfl rfl
              case o26 => intro W hW; rintro _ rfl; change wpList _ _ _ _ _ _; go_wp2; exact pure_post rfl rfl rfl
              case o27 =>
                intro W hW; rintro _ rfl; change wpList _ _ _ _ _ _
                have hc := (Below.cell hW (p := ⟨b4, o4 + 5, none⟩) HB4.out).trans HC.out.2.2.2.2.2.1
                rw [wordV_def] at hc
                go_wp2; exact pure_post rfl rfl rfl
              case o28 => intro W hW; change wpList _ _ _ _ _ _; go_wp2; exact pure_post rfl rfl rfl
              case o29 => intro W hW; rintro _ rfl; rintro _ rfl; change wpList _ _ _ _ _ _; go_wp2; exact pure_post rfl rfl rfl
              case o30 => intro W hW; change wpList _ _ _ _ _ _; go_wp2; exact pure_post rfl rfl rfl
              case o31 => intro W hW; rintro _ rfl; change wpList _ _ _ _ _ _; go_wp2; exact pure_post rfl rfl rfl
              case o32 =>
                intro W hW; rintro _ rfl; change wpList _ _ _ _ _ _
                have hc := (Below.cell hW (p := ⟨b4, o4 + 6, none⟩) HB4.out).trans HC.out.2.2.2.2.2.2.1
                rw [wordV_def] at hc
                go_wp2; exact pure_post rfl rfl rfl
              case o33 => intro W hW; change wpList _ _ _ _ _ _; go_wp2; exact pure_post rfl rfl rfl
              case o34 => intro W hW; rintro _ rfl; rintro _ rfl; change wpList _ _ _ _ _ _; go_wp2; exact pure_post rfl rfl rfl
              case o35 => intro W hW; change wpList _ _ _ _ _ _; go_wp2; exact pure_post rfl rfl rfl
              case o36 => intro W hW; rintro _ rfl; change wpList _ _ _ _ _ _; go_wp2; exact pure_post rfl rfl rfl
              case o37 =>
                intro W hW; rintro _ rfl; change wpList _ _ _ _ _ _
                have hc := (Below.cell hW (p := ⟨b4, o4 + 7, none⟩) HB4.out).trans HC.out.2.2.2.2.2.2.2
                rw [wordV_def] at hc
                go_wp2; exact pure_post rfl rfl rfl
              case o38 => intro W hW; change wpList _ _ _ _ _ _; go_wp2; exact pure_post rfl rfl rfl
              case o39 => intro W hW; rintro _ rfl; rintro _ rfl; change wpList _ _ _ _ _ _; go_wp2; exact pure_post rfl rfl rfl
            case hend =>
              intro W hW; rintro _ rfl; rintro _ rfl; rintro _ rfl; rintro _ rfl; rintro _ rfl; rintro _ rfl; rintro _ rfl; rintro _ rfl; rintro _ rfl; rintro _ rfl; rintro _ rfl; rintro _ rfl; rintro _ rfl; rintro _ rfl; rintro _ rfl; rintro _ rfl; rintro _ rfl; rintro _ rfl; rintro _ rfl; rintro _ rfl; rintro _ rfl; rintro _ rfl; rintro _ rfl; rintro _ rfl; rintro _ rfl; rintro _ rfl; rintro _ rfl; rintro _ rfl; rintro _ rfl; rintro _ rfl; rintro _ rfl; rintro _ rfl; rintro _ rfl; rintro _ rfl; rintro _ rfl; rintro _ rfl; rintro _ rfl; rintro _ rfl; rintro _ rfl; rintro _ rfl
              simp only [given, put_lit, List.set, List.drop]
              go_wp2
              have hsz : w3.heap.size ≤ W2.heap.size := Nat.le_trans HBL.out.size HB2.out.size
              have hb4 : Below w3.heap.size w3 W := (below_draws (below_draws (HBL.out.trans (HB2.out.mono HBL.out.size)) _) _).trans (Below.mono (w := (W2.drewN _).drewN _) hW hsz)
              go_roundw
              case rel =>
                refine ⟨q + 1, H.block l (((H.pad bs).drop (64 * q)).take 64), _, _, by omega, by congr 1, by rw [HL.out]; rfl, rfl, ?_, hb4.alloc hb4.size _⟩
                rw [HBlk.out]
                refine made_n wordV W _ _ _ ?_ ?_ _
                · rfl
                · rfl
              case measure => simp [intOf]; omega
    · have hq2 : nb ≤ q := by omega
      have HLE : Kept (l = H.blocks (H.pad bs) nb H.L0) := kp <| by rw [HL.out, show q = nb by omega]
      have HFl : Kept (l.flatMap (H.be 4) = dig) := kp <| by rw [HLE.out, ← HNB.out, ← HDig.out]; rfl
      have hl8 : l.length = 8 := by rw [HLE.out]; exact H.blocks_len _ _
      have HL8 := kp hl8
      have HLT : Kept (∀ x ∈ l, x < 4294967296) := kp <| by rw [HLE.out]; exact H.blocks_lt _ _
      have hBr : Below w.heap.size w wr := ((HW0.out.trans (HB1.out.mono hsz0)).trans (HB2.out.mono (Nat.le_trans hsz0 hsz1))).trans (HB3.out.mono (Nat.le_trans (Nat.le_trans hsz0 hsz1) hsz2)) |>.trans (HBL.out.mono (Nat.le_trans (Nat.le_trans (Nat.le_trans hsz0 hsz1) hsz2) hsz3))
      have hK2 : Blk wr g2 31 ((List.replicate 32 0).map byteV) := (((HK2.out.below HB1.out HK2.out.lt).below HB2.out (Nat.lt_of_lt_of_le HK2.out.lt hsz1)).below HB3.out (Nat.lt_of_lt_of_le HK2.out.lt (Nat.le_trans hsz1 hsz2))).below HBL.out (Nat.lt_of_lt_of_le HK2.out.lt (Nat.le_trans (Nat.le_trans hsz1 hsz2) hsz3))
      have HBr := kp hBr; have HK2r := kp hK2
      have hgw2 := HG2.out
      clear hl8 hBr hK2 hlt hq
      go_wp2_with ((with_reducible show wpList _ _ _ (⟨some 27, _, _, _, _, _⟩ :: _) _ _); go_must (refine wpList_alloc_zero rfl 31 rfl _ zero32r ?_); intro g7 w7 hg7 hk7 hw7; have HG7 := kp hg7; have HK7 := kp hk7; have HW7 := kp hw7; clear hg7 hk7 hw7)
      have hg27 : g2 < g7 := by have := HK2r.out.lt; have := HG7.out; omega
      have hB7 : Below w.heap.size w w7 := HBr.out.trans (HW7.out.mono HBr.out.size)
      have hwg7 : w.heap.size ≤ g7 := by omega
      have HB7 := kp hB7; have HK27 := kp (HK2r.out.below HW7.out HK2r.out.lt); have HR47 := kp (HRow4.out.below HW7.out)
      have hab7 : wr.heap.size ≤ g7 := HG7.out
      generalize wr.heap.size = BR at HR47 hab7
      clear hB7
      go_loopw [28] (fun v28 ws => ∃ i : Nat, i ≤ 8 ∧ v28 = .int .i64 i ∧ Blk ws g7 31 ((H.out l i).map byteV) ∧ Blk ws g2 31 ((List.replicate 32 0).map byteV) ∧ Row wordV ws BR A4 8 l ∧ Below w.heap.size w ws) (fun v28 _ => 8 - (intOf v28).toNat)
      case atStart => exact ⟨0, by omega, rfl, by rw [H.out_zero]; exact HK7.out, HK27.out, HR47.out, HB7.out⟩
      case round =>
        obtain ⟨i, hi, rfl, hb7, hb2, hr4, hbl⟩ := hrel
        have HBo := kp hb7; have HBz := kp hb2; have HRl := kp hr4; have HBw := kp hbl
        clear hb7 hb2 hr4 hbl
        by_cases hi8 : i < 8
        · obtain ⟨ad, x, rfl, hab, hx, hc⟩ := HRl.out.get hi8
          rw [wordV_def] at hc
          have HX := kp hx
          have hx32 : x < 4294967296 := HLT.out x (List.mem_of_getElem? hx)
          clear hx
          go_wp2
          clear hc
          go_loopw [29, 30] (fun v29 v30 wt => ∃ s : Nat, s ≤ 4 ∧ v30 = .int .i64 ((s : Int) - 1) ∧ v29 = .int .u32 ((x / 256 ^ (4 - s) : Nat) : Int) ∧ Blk wt g7 31 ((H.outS l i x s).map byteV) ∧ Blk wt g2 31 ((List.replicate 32 0).map byteV) ∧ Row wordV wt BR (some ad) 8 l ∧ Below w.heap.size w wt) (fun _ v30 _ => (intOf v30 + 1).toNat)
          case atStart => exact ⟨4, by omega, rfl, by simp, by rw [H.outS_four l i x hi8]; exact HBo.out, HBz.out, HRl.out, HBw.out⟩
          case round =>
            obtain ⟨s, hs, rfl, rfl, hb7, hb2, hr4, hbl⟩ := hrel
            have HBo2 := kp hb7; have HBz2 := kp hb2; have HRl2 := kp hr4; have HBw2 := kp hbl
            clear hb7 hb2 hr4 hbl
            rcases s with _ | s
            · rw [show ((0 : Nat) : Int) - 1 = -1 by omega]
              go_wp2
              go_roundw
              case rel => exact ⟨i + 1, by omega, by go_num, by rw [← H.outS_none l i x hi8 HX.out]; exact HBo2.out, HBz2.out, HRl2.out, HBw2.out⟩
              case measure => simp [intOf]; omega
            · rw [show ((s + 1 : Nat) : Int) - 1 = (s : Int) by omega]
              have hs4 : s < 4 := by omega
              have hcell : BR ≤ g7 := hab7
              have hc7 := (HBo2.out.cell (4 * i + s)).trans (show ((H.outS l i x (s + 1)).map byteV)[4 * i + s]? = some (.int .u8 0) by rw [List.getElem?_map, H.outS_at l i x s HL8.out hi8]; rfl)
              have hf7 := HBo2.out.frozen (4 * i + s)
              have HSet := kp (H.outS_set l i x s HL8.out hi8 hs4)
              have hdiv : x / 256 ^ (4 - (s + 1)) < 4294967296 := Nat.lt_of_le_of_lt (Nat.div_le_self _ _) hx32
              have HNx : Kept (x / 256 ^ (4 - (s + 1)) / 256 = x / 256 ^ (4 - s)) := kp <| by rw [Nat.div_div_eq_div_mul, ← Nat.pow_succ, show (4 - (s + 1)).succ = 4 - s by omega]
              have HNy : Kept (x / 256 ^ (4 - (s + 1)) = x / 256 ^ (3 - s)) := kp <| by rw [show 4 - (s + 1) = 3 - s by omega]
              generalize x / 256 ^ (4 - (s + 1)) = y at hdiv HNx HNy ⊢
              go_wp2
              go_roundw
              case rel =>
                refine ⟨s, by omega, by go_num, by rw [← HNx.out]; go_num, ?_, HBz2.out.other _ _ (by simp; omega), HRl2.out.keep (fun q hq => ?_), HBw2.out.setCell (by simp; omega) _⟩
                · have h := HBo2.out.set (4 * i + s) (byteV (y % 256))
                  rw [← List.map_set, HNy.out, HSet.out] at h
                  rw [← HNy.out] at h
                  exact h
                · exact World.cell?_setCell_other _ _ _ _ (by intro e; rw [← e] at hq; simp at hq; omega)
              case measure => simp [intOf]
        · have hi9 : 8 ≤ i := by omega
          have HI : Kept (H.out l i = dig) := kp <| by rw [show i = 8 by omega, H.out_end l HL8.out]; exact HFl.out
          have HDL : Kept (dig.length = 32) := kp <| by rw [← HI.out]; exact H.out_len l i HL8.out hi
          clear hi8 hi
          go_wp2_with (first
            | ((with_reducible show wpList _ _ _ (⟨some 266, _, _, _, _, _⟩ :: _) _ _); go_must (refine wpList_load_blk rfl 31 (.tmp 27) rfl g7 rfl 31 (dig.map byteV) _ (by have h := HBo.out; rw [HI.out] at h; exact h) Tryd.underlying31 rfl (size32r.trans (by rw [List.length_map, HDL.out])) ?_))
            | ((with_reducible refine wpList_store_blk rfl 31 (.tmp 2) (.tmp 266) rfl g2 _ rfl rfl 31 _ HBz.out (size32r.trans (by rw [List.length_map, HDL.out])) (by simp [HDL.out]) (ones _ one_byteV _) ?_); intro w9 hk9 hw9 hz9; have HK9 := kp hk9; have HW9 := kp hw9; clear hk9 hw9 hz9))
          refine bodyPost_ret (results_blk (P := Tryd.prog) (fn := Tryd.f10) rfl _ _ g2 31 (dig.map byteV) (.array 32 5) rfl HK9.out Tryd.underlying31 rfl (size32r.trans (by rw [List.length_map, HDL.out]))) rfl ⟨rfl, ?_⟩
          exact HBw.out.grown HW9.out HBw.out.size (by intro k e; cases e; exact hgw2)
end Go.Proofs.YtdnhfpphjpnklaaDoor
