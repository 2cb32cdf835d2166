/- What the statements of sha begin with, walked. -/
import Derived.Test.YtoagmmelklkoaaaDoorShaP8
import Derived.Test.YtoagmmelklkoaaaDoorStr
import Derived.Lib.SlBytesConst
import Derived.Deep.RegionWith
namespace Go.Proofs.YtoagmmelklkoaaaDoor
open Go.RowKit

/-- Bytes as digits. -/
def hexDigits : ByteArray := ⟨#[48, 49, 50, 51, 52, 53, 54, 55, 56, 57, 97, 98, 99, 100, 101, 102]⟩
def hexOne (s : ByteArray) (b : Nat) : ByteArray := (s ++ hexDigits.extract (b / 16) (b / 16 + 1)) ++ hexDigits.extract (b % 16) (b % 16 + 1)
def hexAll (l : List Nat) : ByteArray := l.foldl hexOne ⟨#[]⟩
theorem hexAll_snoc (l : List Nat) (b : Nat) : hexAll (l ++ [b]) = hexOne (hexAll l) b := by simp [hexAll]

set_option maxRecDepth 1000000 in
set_option maxHeartbeats 1600000 in
theorem text_any (dig : List Nat) (hl : dig.length = 32) (hb : ∀ x ∈ dig, x < 256) (w : World) :
    Calls Tryd.prog 13 #[.agg (dig.map byteV).toArray] w fun e w' => e = .returned (.string (hexAll dig)) ∧ Below w.heap.size w w' := by
  have HL := kp hl; have HB := kp hb; clear hl hb
  go_enter Tryd.func13, Tryd.ntmps13
  go_wp2_with ((with_reducible refine wpList_box_agg rfl 24 (.tmp 0) rfl (dig.map byteV) rfl ?_); intro g1 w1 hg1 hk1 hw1; have HK1 := kp hk1; have HW1 := kp hw1; clear hg1 hk1 hw1)
  go_loopw [3, 4] (fun v3 v4 wr => ∃ (i : Nat) (s : ByteArray), i ≤ 32 ∧ v4 = .int .i64 i ∧ v3 = .string s ∧ s = hexAll (dig.take i) ∧ s.size = 2 * i ∧ Blk wr g1 24 (dig.map byteV) ∧ Below w.heap.size w wr) (fun _ v4 _ => 32 - (intOf v4).toNat)
  case atStart => exact ⟨0, ⟨#[]⟩, by omega, rfl, rfl, rfl, rfl, HK1.out, HW1.out⟩
  case round =>
    clear HK1 HW1
    obtain ⟨i, s, hi, rfl, rfl, hs, hsz, hk, hbl⟩ := hrel
    have HS := kp hs; have HK := kp hk; have HBL := kp hbl; have HSZ := kp hsz
    have hsz2 : s.size ≤ 100 := by omega
    clear hs hk hbl hsz
    by_cases hlt : i < 32
    · obtain ⟨x, hx⟩ : ∃ x, dig[i]? = some x := ⟨_, List.getElem?_eq_getElem (by rw [HL.out]; omega)⟩
      have hx8 : x < 256 := HB.out x (List.mem_of_getElem? hx)
      have HX : Kept ((dig.map byteV)[i]? = some (.int .u8 (x : Int))) := kp <| map_at (f := byteV) hx
      have HN : Kept (hexAll (dig.take (i + 1)) = hexOne s x) := kp <| by rw [List.take_add_one, hx, HS.out]; exact hexAll_snoc _ _
      clear hx
      go_wp2
      have h1a : x / 16 + 1 ≤ hexDigits.size := by show x / 16 + 1 ≤ 16; omega
      have h2a : x % 16 + 1 ≤ hexDigits.size := by show x % 16 + 1 ≤ 16; omega
      obtain ⟨e1, he1⟩ : ∃ e1, hexDigits.extract (x / 16) (x / 16 + 1) = e1 := ⟨_, rfl⟩
      obtain ⟨e2, he2⟩ : ∃ e2, hexDigits.extract (x % 16) (x % 16 + 1) = e2 := ⟨_, rfl⟩
      have hz1 : e1.size = 1 := by rw [← he1, size_part _ _ _ (by omega) h1a]; omega
      have hz2 : e2.size = 1 := by rw [← he2, size_part _ _ _ (by omega) h2a]; omega
      have HE1 := kp he1; have HE2 := kp he2; have HZ1 := kp hz1; have HZ2 := kp hz2
      have hs1 : (e1.size : Int) ≤ 8388608 := by omega
      have hs2 : (e2.size : Int) ≤ 8388608 := by omega
      have hs0 : (s.size : Int) ≤ 8388608 := by omega
      have hs3 : ((s ++ e1).size : Int) ≤ 8388608 := by rw [ByteArray.size_append]; omega
      clear he1 he2 hz1 hz2
      apply region_list (.is _ :: .is _ :: .is _ :: .is _ :: .is _ :: .is _ :: .is _ :: .is _ :: .is _ :: .is _ :: .is (.string e1) :: .is (.string (s ++ e1)) :: .is _ :: .is _ :: .is _ :: .is _ :: .is _ :: .is _ :: .is _ :: .is _ :: .is _ :: .is (.string e2) :: .is (.string (s ++ e1 ++ e2)) :: .is _ :: [])
        [[], [], [(1, 10)], [(2, 11)], [(3, 12)], [], [(5, 14)], [(6, 15)], [(7, 16)], [(8, 17)], [(4, 13), (9, 18)], [(0, 9), (10, 19)], [], [(12, 21)], [(13, 22)], [(14, 23)], [], [(16, 25)], [(17, 26)], [(18, 27)], [(19, 28)], [(15, 24), (20, 29)], [(11, 20), (21, 30)], [(22, 31)]]
        [(0, 9), (1, 10), (2, 11), (3, 12), (4, 13), (5, 14), (6, 15), (7, 16), (8, 17), (9, 18), (10, 19), (11, 20), (12, 21), (13, 22), (14, 23), (15, 24), (16, 25), (17, 26), (18, 27), (19, 28), (20, 29), (21, 30), (22, 31), (23, 3)] (by kernel_rfl) (by kernel_rfl)
      case hob =>
        refine ⟨?o0, ?o1, ?o2, ?o3, ?o4, ?o5, ?o6, ?o7, ?o8, ?o9, ?o10, ?o11, ?o12, ?o13, ?o14, ?o15, ?o16, ?o17, ?o18, ?o19, ?o20, ?o21, ?o22, ?o23, trivial⟩
        case o0 => intro W hW; change wpList _ _ _ _ _ _; go_wp2; exact pure_post rfl rfl rfl
        case o1 => intro W hW; change wpList _ _ _ _ _ _; go_wp2; exact pure_post rfl rfl rfl
        case o2 => intro W hW; rintro _ rfl; change wpList _ _ _ _ _ _; go_wp2; exact pure_post rfl rfl rfl
        case o3 =>
          intro W hW; rintro _ rfl; change wpList _ _ _ _ _ _
          have hc := ((HK.out.below hW HK.out.lt).cell i).trans HX.out
          go_wp2; exact pure_post rfl rfl rfl
        case o4 => intro W hW; rintro _ rfl; change wpList _ _ _ _ _ _; go_wp2; exact pure_post rfl rfl rfl
        case o5 => intro W hW; change wpList _ _ _ _ _ _; go_wp2; exact pure_post rfl rfl rfl
        case o6 => intro W hW; rintro _ rfl; change wpList _ _ _ _ _ _; go_wp2; exact pure_post rfl rfl rfl
        case o7 =>
          intro W hW; rintro _ rfl; change wpList _ _ _ _ _ _
          have hc := ((HK.out.below hW HK.out.lt).cell i).trans HX.out
          go_wp2; exact pure_post rfl rfl rfl
        case o8 => intro W hW; rintro _ rfl; change wpList _ _ _ _ _ _; go_wp2; exact pure_post rfl rfl rfl
        case o9 => intro W hW; rintro _ rfl; change wpList _ _ _ _ _ _; go_wp2; exact pure_post rfl rfl rfl
        case o10 =>
          intro W hW; rintro _ rfl; rintro _ rfl; change wpList _ _ _ _ _ _
          refine wpList_slice_str rfl 9 (.const (.string hexDigits)) (.tmp 13) (.tmp 18) rfl Tryd.underlying9 hexDigits rfl .u8 .u8 (x / 16) (x / 16 + 1) rfl rfl (by omega) h1a e1 HE1.out ?_
          go_wp2; exact pure_post rfl rfl rfl
        case o11 => intro W hW; rintro _ rfl; rintro _ rfl; change wpList _ _ _ _ _ _; go_wp2; exact pure_post rfl rfl rfl
        case o12 => intro W hW; change wpList _ _ _ _ _ _; go_wp2; exact pure_post rfl rfl rfl
        case o13 => intro W hW; rintro _ rfl; change wpList _ _ _ _ _ _; go_wp2; exact pure_post rfl rfl rfl
        case o14 =>
          intro W hW; rintro _ rfl; change wpList _ _ _ _ _ _
          have hc := ((HK.out.below hW HK.out.lt).cell i).trans HX.out
          go_wp2; exact pure_post rfl rfl rfl
        case o15 => intro W hW; rintro _ rfl; change wpList _ _ _ _ _ _; go_wp2; exact pure_post rfl rfl rfl
        case o16 => intro W hW; change wpList _ _ _ _ _ _; go_wp2; exact pure_post rfl rfl rfl
        case o17 => intro W hW; rintro _ rfl; change wpList _ _ _ _ _ _; go_wp2; exact pure_post rfl rfl rfl
        case o18 =>
          intro W hW; rintro _ rfl; change wpList _ _ _ _ _ _
          have hc := ((HK.out.below hW HK.out.lt).cell i).trans HX.out
          go_wp2; exact pure_post rfl rfl rfl
        case o19 => intro W hW; rintro _ rfl; change wpList _ _ _ _ _ _; go_wp2; exact pure_post rfl rfl rfl
        case o20 => intro W hW; rintro _ rfl; change wpList _ _ _ _ _ _; go_wp2; exact pure_post rfl rfl rfl
        case o21 =>
          intro W hW; rintro _ rfl; rintro _ rfl; change wpList _ _ _ _ _ _
          refine wpList_slice_str rfl 9 (.const (.string hexDigits)) (.tmp 24) (.tmp 29) rfl Tryd.underlying9 hexDigits rfl .u8 .u8 (x % 16) (x % 16 + 1) rfl rfl (by omega) h2a e2 HE2.out ?_
          go_wp2; exact pure_post rfl rfl rfl
        case o22 => intro W hW; rintro _ rfl; rintro _ rfl; change wpList _ _ _ _ _ _; go_wp2; exact pure_post rfl rfl rfl
        case o23 => intro W hW; rintro _ rfl; change wpList _ _ _ _ _ _; go_wp2; exact pure_post rfl rfl rfl
      case hend =>
        intro W hW; rintro _ rfl; rintro _ rfl; rintro _ rfl; rintro _ rfl; rintro _ rfl; rintro _ rfl; rintro _ rfl; rintro _ rfl; rintro _ rfl; rintro _ rfl; rintro _ rfl; rintro _ rfl; rintro _ rfl; rintro _ rfl; rintro _ rfl; rintro _ rfl; rintro _ rfl; rintro _ rfl; rintro _ rfl; rintro _ rfl; rintro _ rfl; rintro _ rfl; rintro _ rfl; rintro _ rfl
        simp only [given, put_lit, List.set]
        go_wp2
        go_roundw
        case rel => exact ⟨i + 1, s ++ e1 ++ e2, by omega, by go_num, rfl, by rw [HN.out, hexOne, HE1.out, HE2.out], by rw [ByteArray.size_append, ByteArray.size_append, HZ1.out, HZ2.out, HSZ.out]; omega, HK.out.below hW HK.out.lt, HBL.out.trans (hW.mono HBL.out.size)⟩
        case measure => simp [intOf]; omega
    · have hi32 : 32 ≤ i := by omega
      have HI : Kept (s = hexAll dig) := kp <| by rw [HS.out, List.take_of_length_le (by rw [HL.out]; exact hi32)]
      clear hlt hi
      go_wp2
      go_ret
      exact ⟨congrArg (fun u => Ending.returned (Value.string u)) HI.out, HBL.out⟩
theorem text_as (dig : List Nat) (s : ByteArray) (hs : hexAll dig = s) (hl : dig.length = 32) (hb : ∀ x ∈ dig, x < 256) (w : World) :
    Calls Tryd.prog 13 #[.agg (dig.map byteV).toArray] w fun e w' => e = .returned (.string s) ∧ Below w.heap.size w w' := hs ▸ text_any dig hl hb w

def digNil : List Nat := [227, 176, 196, 66, 152, 252, 28, 20, 154, 251, 244, 200, 153, 111, 185, 36, 39, 174, 65, 228, 100, 155, 147, 76, 164, 149, 153, 27, 120, 82, 184, 85]
def digAbc : List Nat := [186, 120, 22, 191, 143, 1, 207, 234, 65, 65, 64, 222, 93, 174, 34, 35, 176, 3, 97, 163, 150, 23, 122, 156, 180, 16, 255, 97, 242, 0, 21, 173]
theorem nil_digest : H.digest [] = digNil := by decide +kernel
theorem abc_digest : H.digest [97, 98, 99] = digAbc := by decide +kernel

theorem hex_nil : hexAll digNil = ⟨#[101, 51, 98, 48, 99, 52, 52, 50, 57, 56, 102, 99, 49, 99, 49, 52, 57, 97, 102, 98, 102, 52, 99, 56, 57, 57, 54, 102, 98, 57, 50, 52, 50, 55, 97, 101, 52, 49, 101, 52, 54, 52, 57, 98, 57, 51, 52, 99, 97, 52, 57, 53, 57, 57, 49, 98, 55, 56, 53, 50, 98, 56, 53, 53]⟩ := by decide +kernel
theorem hex_abc : hexAll digAbc = ⟨#[98, 97, 55, 56, 49, 54, 98, 102, 56, 102, 48, 49, 99, 102, 101, 97, 52, 49, 52, 49, 52, 48, 100, 101, 53, 100, 97, 101, 50, 50, 50, 51, 98, 48, 48, 51, 54, 49, 97, 51, 57, 54, 49, 55, 55, 97, 57, 99, 98, 52, 49, 48, 102, 102, 54, 49, 102, 50, 48, 48, 49, 53, 97, 100]⟩ := by decide +kernel

theorem Row.madeF {α : Type} (f : α → Value) (w : World) (l : List α) (cs : Array Value) (hcs : cs.toList = l.map f) (e : TypeId) (fr : Nat × Nat) (g n : Nat) (hg : g = w.heap.size) (hn : n = l.length) : Row f (w.alloc (.cells cs e fr)) (w.alloc (.cells cs e fr)).heap.size (some ⟨g, 0, none⟩) n l := by
  subst hg; subst hn
  exact ⟨rfl, fun _ => ⟨_, rfl, by simp, fun k _ => by
    have hadd : (⟨w.heap.size, 0, none⟩ : Addr).add k = ⟨w.heap.size, k, none⟩ := by unfold Addr.add; split <;> simp_all
    rw [hadd, cell_of_row _ w.heap.size k cs e fr (heap_alloc_new w _), ← Array.getElem?_toList, hcs, List.getElem?_map]⟩⟩
theorem only_ok {p : Part} {w : World} {B : Nat} (h : p.Ok w B) : ∀ q ∈ [p], q.Ok w B := by
  intro q hq; rw [List.mem_singleton] at hq; subst hq; exact h

set_option maxRecDepth 1000000 in
set_option maxHeartbeats 1600000 in
theorem awake_any (w : World) (hk : Row wordV w 1 (some ⟨0, 0, none⟩) 64 H.K) : Calls Tryd.prog 7 #[] w fun e w' => e = .returned (.bool true) ∧ Below w.heap.size w w' := by
  have HK := kp hk
  have hw1 := keys_size hk
  clear hk
  go_enter Tryd.func7, Tryd.ntmps7
  go_wp2_with (first
    | (go_at_call_of 8 (Value.slice none 0 0); go_must (refine (of_any none 0 0 w.heap.size [] w (Row.none_ rfl rfl) (Nat.le_refl _) (by simp) HK.out (by omega) (by simp [joined]) digNil nil_digest).mono ?_); rintro e w1 ⟨rfl, hw1⟩; have HW1 := kp hw1; clear hw1)
    | (go_at_call_of 13 (Value.agg (digNil.map byteV).toArray); go_must (refine (text_as digNil _ hex_nil rfl (by decide +kernel) _).mono ?_); rintro e w2 ⟨rfl, hw2⟩
       have hcv := Go.Lib.run_convert_bytes_const (P := Tryd.prog) w2 22 5 #[.int .u8 97, .int .u8 98, .int .u8 99] 3 3 Tryd.underlying22 Tryd.underlying5
       have HB2 : Kept (Below w.heap.size w w2) := kp <| HW1.out.trans (hw2.mono HW1.out.size)
       clear hw2)
    | (go_at_call 8; go_must (
       clear hcv
       have hW3 : Below w.heap.size w ((w2.alloc (.cells #[.int .u8 97, .int .u8 98, .int .u8 99] 5 (3, 4))).alloc (.cells #[.slice (some ⟨w2.heap.size, 0, none⟩) 3 3] 22)) := (HB2.out.alloc HB2.out.size _).alloc (by simp; have := HB2.out.size; omega) _
       have HW3 := kp hW3
       have hrow := Row.madeF byteV w2 [97, 98, 99] #[.int .u8 97, .int .u8 98, .int .u8 99] rfl 5 (3, 4) _ 3 rfl rfl
       have hok : Part.Ok ⟨some ⟨w2.heap.size, 0, none⟩, 3, 3, [97, 98, 99]⟩ ((w2.alloc (.cells #[.int .u8 97, .int .u8 98, .int .u8 99] 5 (3, 4))).alloc (.cells #[.slice (some ⟨w2.heap.size, 0, none⟩) 3 3] 22)) _ := ⟨(hrow.below ((Below.refl _ _).alloc (Nat.le_refl _) _)).more (by simp : _ ≤ ((w2.alloc (.cells #[.int .u8 97, .int .u8 98, .int .u8 99] 5 (3, 4))).alloc (.cells #[.slice (some ⟨w2.heap.size, 0, none⟩) 3 3] 22)).heap.size), (show ∀ x ∈ [97, 98, 99], x < 256 by decide), (show 3 ≤ 3 by decide)⟩
       have HOk := kp hok
       clear hW3 hrow hok)
       go_must (refine (of_any _ 1 1 _ [⟨some ⟨w2.heap.size, 0, none⟩, 3, 3, [97, 98, 99]⟩] _ (Row.madeF partV _ _ _ rfl 22 (0, 0) _ 1 (by simp) rfl) (Nat.le_refl _) (only_ok HOk.out) (HK.out.below (HW3.out.mono (by omega))) (by omega) (by simp [joined]) digAbc abc_digest).mono ?_); rintro e w4 ⟨rfl, hw4⟩; have HW4 := kp (HW3.out.trans (hw4.mono HW3.out.size)); clear hw4)
    | (go_at_call 13; go_must (refine (text_as digAbc _ hex_abc rfl (by decide +kernel) _).mono ?_); rintro e w5 ⟨rfl, hw5⟩; have HW5 := kp (HW4.out.trans (hw5.mono HW4.out.size)); clear hw5))
  go_ret
  exact ⟨rfl, HW5.out⟩
end Go.Proofs.YtoagmmelklkoaaaDoor
