/- GraphP1, GraphP2, in one text. -/
import Derived.Test.YtfifnahcobjjdaaPk4
import Derived.Test.YtfifnahcobjjdaaPk7
import Derived.Test.YtfifnahcobjjdaaProgRef5
import Derived.Test.YtfifnahcobjjdaaPk14
import Derived.Laws.BitsAllLaws
import Derived.Test.YtfifnahcobjjdaaArr2
/- The program's small functions of layer 6, walked: among, named, setOf, Callees, Begun. -/
namespace Go.Proofs.Ytfifnahcobjjdaa
open Go.RowKit

set_option maxRecDepth 100000 in
set_option maxHeartbeats 800000 in
theorem graph_among (n c : Int) (b : Bool) (hb : (decide (0 ≤ n) && decide (n < c)) = b) (w : World) :
    Calls Try.prog 28 #[.int .i64 n, .int .i64 c] w fun e w' => e = .returned (.bool b) ∧ w = w' := by
  have HB := kp hb
  clear hb
  by_cases h0 : 0 ≤ n
  · have h0b : decide (0 ≤ n) = true := by simpa using h0
    by_cases h1 : n < c
    · have h1b : decide (n < c) = true := by simpa using h1
      have HE : Kept (true = b) := kp (by rw [← HB.out, h0b, h1b]; rfl)
      go_enter Try.func28, Try.ntmps28
      go_wp2
      go_ret
      exact ⟨ret_bool HE.out, rfl⟩
    · have h1b : decide (n < c) = false := by simpa using h1
      have HE : Kept (false = b) := kp (by rw [← HB.out, h1b, Bool.and_false])
      go_enter Try.func28, Try.ntmps28
      go_wp2
      go_ret
      exact ⟨ret_bool HE.out, rfl⟩
  · have h0b : decide (0 ≤ n) = false := by simpa using h0
    have HE : Kept (false = b) := kp (by rw [← HB.out, h0b, Bool.false_and])
    go_enter Try.func28, Try.ntmps28
    go_wp2
    go_ret
    exact ⟨ret_bool HE.out, rfl⟩

/-- What nodes of a kind name. -/
def argsL (l : List Nd) (kind : Int) : List Int := (l.filter fun x => x.kind == kind).map (·.arg)
theorem args_snoc {l : List Nd} {i : Nat} {x : Nd} (kind : Int) (h : l[i]? = some x) : argsL (l.take (i + 1)) kind = argsL (l.take i) kind ++ (if x.kind = kind then [x.arg] else []) := by
  unfold argsL
  rw [List.take_add_one, h, Option.toList_some, List.filter_append, List.map_append]
  by_cases hk : x.kind = kind
  · rw [if_pos hk]; simp [hk]
  · rw [if_neg hk]; simp [hk]
theorem args_len (l : List Nd) (kind : Int) : (argsL l kind).length ≤ l.length := by
  unfold argsL
  rw [List.length_map]
  exact List.length_filter_le _ _
theorem args_mem {l : List Nd} {kind y : Int} : y ∈ argsL l kind ↔ ∃ nd ∈ l, nd.kind = kind ∧ nd.arg = y := by
  unfold argsL
  rw [List.mem_map]
  constructor
  · rintro ⟨nd, h, rfl⟩
    obtain ⟨h1, h2⟩ := List.mem_filter.1 h
    exact ⟨nd, h1, by simpa using h2, rfl⟩
  · rintro ⟨nd, h1, h2, h3⟩
    exact ⟨nd, List.mem_filter.2 ⟨h1, by simpa using h2⟩, h3⟩
theorem args_names {l : List Nd} {kind : Int} (id : Nat) : (id : Int) ∈ argsL l kind ↔ Names l kind id := args_mem

set_option maxRecDepth 100000 in
set_option maxHeartbeats 1600000 in
theorem graph_named (B : Nat) (A : Option Addr) (n c : Nat) (l : List Nd) (kind : Int) (w : World) (hr : Nodes w B A n l) (hn : n ≤ 1000000) (hB : B ≤ w.heap.size) :
    Calls Try.prog 34 #[.slice A n c, .int .i64 kind] w fun e w' => ∃ v, e = .returned v ∧ Own w' w.heap.size 3 v ((argsL l kind).map intV) ∧ Below w.heap.size w w' := by
  have HR := kp hr
  have HLn := kp hr.1.len
  clear hr
  go_enter Try.func34, Try.ntmps34
  go_wp2
  go_loopw [5, 10] (fun v5 v10 wr => ∃ i : Nat, i ≤ n ∧ v10 = .int .i64 i ∧ Own wr w.heap.size 3 v5 ((argsL (l.take i) kind).map intV) ∧ Below w.heap.size w wr) (fun _ v10 _ => n - (intOf v10).toNat)
  case atStart => exact ⟨0, by omega, rfl, Own.nil _ _ _, Below.refl _ _⟩
  case round =>
    obtain ⟨i, hi, rfl, hown, hbw⟩ := hrel
    have HOwn := kp hown; have HBw := kp hbw
    have hsz := hbw.size
    have hal := args_len (l.take i) kind
    rw [List.length_take, HLn.out] at hal
    by_cases hlt : i < n
    · obtain ⟨ad, x, rfl, _, hx, _, hn0, hn1, hn2, hn3⟩ := (HR.out.keep (w' := wr) fun p hp => hbw.cell (by omega)).get hlt
      have HS := kp (args_snoc kind hx)
      clear hown hbw hx
      by_cases hk : x.kind = kind
      · have hkb : (x.kind == kind) = true := by simpa using hk
        have HE : Kept (argsL (l.take (i + 1)) kind = argsL (l.take i) kind ++ [x.arg]) := kp (by rw [HS.out, if_pos hk])
        clear hk HS
        go_wp2_with (first
          | ((with_reducible show wpList _ _ _ (⟨some 7, _, _, _, _, _⟩ :: _) _ _); go_must (refine wpList_alloc_zero rfl 39 rfl (ndC ⟨0, 0, 0, 0⟩) nd_zero ?_); intro g5 w6 hg5 hk6 hw6; have HG5 := kp hg5; have HK6 := kp hk6; have HW6 := kp hw6; clear hg5 hk6 hw6)
          | ((with_reducible show wpList _ _ _ (⟨none, _, _, _, _, _⟩ :: _) _ _); go_must (refine wpList_store_blk rfl 39 (.tmp 7) (.tmp 13) rfl g5 (ndC x) rfl rfl _ _ HK6.out nd_size rfl (nd_ones x) ?_); intro w7 hk7 hg7 hs7
             obtain ⟨hx0, hx1, hx2, hx3⟩ := nd_cells hk7
             have HBq7 := kp (HW6.out.grown hg7 HW6.out.size (fun k hk => by cases hk; exact HG5.out))
             have HO7 := kp (HOwn.out.below HBq7.out (Nat.le_refl _))
             have HB7 := kp (HBw.out.trans (HBq7.out.mono hsz))
             have hsz7 := HB7.out.size
             clear hk7 hg7 hs7 hn0 hn1 hn2 hn3)
          | (at_builtin; go_must (refine wpList_append_one rfl (.tmp 18) (.tmp 21) 27 rfl w.heap.size 3 _ _ Try.underlying27 int_info rfl _ _ _ _ rfl HO7.out _ 1 rfl rfl rfl (by simp [maxLen]; omega) (by simp; omega) hsz7 ?_); intro v1 w8 hown1 hg1; have HO8 := kp hown1; clear hown1; have HG8 := kp hg1; clear hg1))
        go_roundw
        case rel => exact ⟨i + 1, by omega, by go_num, by rw [HE.out, List.map_append]; exact HO8.out, HG8.out.below HB7.out HO7.out hsz7⟩
        case measure => simp [intOf]; omega
      · have hkb : (x.kind == kind) = false := by simpa using hk
        have HE : Kept (argsL (l.take (i + 1)) kind = argsL (l.take i) kind) := kp (by rw [HS.out, if_neg hk, List.append_nil])
        clear hk HS
        go_wp2_with (first
          | ((with_reducible show wpList _ _ _ (⟨some 7, _, _, _, _, _⟩ :: _) _ _); go_must (refine wpList_alloc_zero rfl 39 rfl (ndC ⟨0, 0, 0, 0⟩) nd_zero ?_); intro g5 w6 hg5 hk6 hw6; have HG5 := kp hg5; have HK6 := kp hk6; have HW6 := kp hw6; clear hg5 hk6 hw6)
          | ((with_reducible show wpList _ _ _ (⟨none, _, _, _, _, _⟩ :: _) _ _); go_must (refine wpList_store_blk rfl 39 (.tmp 7) (.tmp 13) rfl g5 (ndC x) rfl rfl _ _ HK6.out nd_size rfl (nd_ones x) ?_); intro w7 hk7 hg7 hs7
             obtain ⟨hx0, hx1, hx2, hx3⟩ := nd_cells hk7
             have HBq7 := kp (HW6.out.grown hg7 HW6.out.size (fun k hk => by cases hk; exact HG5.out))
             have HO7 := kp (HOwn.out.below HBq7.out (Nat.le_refl _))
             have HB7 := kp (HBw.out.trans (HBq7.out.mono hsz))
             clear hk7 hg7 hs7 hn0 hn1 hn2 hn3))
        go_roundw
        case rel => exact ⟨i + 1, by omega, by go_num, by rw [HE.out]; exact HO7.out, HB7.out⟩
        case measure => simp [intOf]; omega
    · have HE : Kept (argsL (l.take i) kind = argsL l kind) := kp (by rw [List.take_of_length_le (by rw [HLn.out]; omega)])
      have hge : n ≤ i := by omega
      clear hown hbw hlt
      go_wp2
      go_ret
      exact ⟨_, rfl, by rw [← HE.out]; exact HOwn.out, HBw.out⟩

theorem one_bits (x : Int) : BitsAre (S.one x) (fun id => (id : Int) = x) := by
  refine ⟨S.one_lt x, fun id hid => ?_⟩
  by_cases h : 0 ≤ x ∧ x ≤ 31
  · obtain ⟨k, rfl⟩ : ∃ k : Nat, x = (k : Int) := ⟨x.toNat, by omega⟩
    rw [S.one_nat k (by omega), Nat.testBit_two_pow, decide_eq_true_eq]
    omega
  · rw [S.one_out x (by omega), Nat.zero_testBit]
    constructor
    · intro h2; cases h2
    · intro h2; omega

set_option maxRecDepth 100000 in
set_option maxHeartbeats 800000 in
theorem graph_setOf (B : Nat) (A : Option Addr) (n c : Nat) (l : List Int) (w : World) (hr : Row intV w B A n l) (hl : ∀ x ∈ l, I64 x) (hn : n ≤ 1000000) :
    Calls Try.prog 33 #[.slice A n c] w fun e w' => ∃ m : Nat, e = .returned (.int .u32 (m : Int)) ∧ BitsAre m (fun id => (id : Int) ∈ l) ∧ w = w' := by
  have HR := kp hr; have HL := kp hl
  have HLn := kp hr.len
  clear hr hl
  go_enter Try.func33, Try.ntmps33
  go_wp2
  go_loop [3, 8] (fun v3 v8 => ∃ i q : Nat, i ≤ n ∧ v8 = .int .i64 i ∧ v3 = .int .u32 (q : Int) ∧ BitsAre q (fun id => (id : Int) ∈ l.take i)) (fun _ v8 => n - (intOf v8).toNat)
  case atStart => exact ⟨0, 0, by omega, rfl, rfl, bits_none.congr fun id _ => by simp⟩
  case round =>
    obtain ⟨i, q, hi, rfl, rfl, hq⟩ := hrel
    have HQ := kp hq
    have hqlt : q < 4294967296 := hq.1
    clear hq
    by_cases hlt : i < n
    · obtain ⟨ad, x, rfl, _, hx, hcx⟩ := HR.out.get hlt
      rw [intV_def] at hcx
      have HX := kp hx
      have HX64 := kp (HL.out x (List.mem_of_getElem? hx))
      obtain ⟨o, ho⟩ : ∃ o, S.one x = o := ⟨_, rfl⟩
      have holt : o < 4294967296 := by rw [← ho]; exact S.one_lt x
      have HBt : Kept (bits .or .u32 (q : Int) (o : Int) = ((q ||| o : Nat) : Int)) := kp <| u32_or_nat q o hqlt holt
      have HO := kp ho
      have HN : Kept (BitsAre (q ||| o) (fun id => (id : Int) ∈ l.take (i + 1))) := kp <| by
        rw [← ho]
        refine (bits_or HQ.out (one_bits x)).congr fun id _ => ?_
        rw [List.take_add_one, hx, Option.toList_some, List.mem_append, List.mem_singleton]
      clear ho hx
      go_wp2_with (go_at_call 21; go_must (refine (one_any x HX64.out o HO.out _).mono ?_); rintro e' w' ⟨rfl, rfl⟩)
      go_round
      case rel => exact ⟨i + 1, q ||| o, by omega, by go_num, by rw [HBt.out], HN.out⟩
      case measure => simp [intOf]; omega
    · have HE : Kept (l.take i = l) := kp (List.take_of_length_le (by rw [HLn.out]; omega))
      have hge : n ≤ i := by omega
      clear hlt
      go_wp2
      go_ret
      exact ⟨q, rfl, by rw [← HE.out]; exact HQ.out, rfl⟩
end Go.Proofs.Ytfifnahcobjjdaa

/- The program's Callees and Begun, walked. -/
namespace Go.Proofs.Ytfifnahcobjjdaa
open Go.RowKit

theorem small_nodes {p : Pg} (hs : Q.small p = true) {f : Nat} {fn : Fn} (h : p.fns[f]? = some fn) : fn.nodes.length ≤ 100 := by
  unfold Q.small at hs
  rw [Bool.and_eq_true] at hs
  simpa using List.all_eq_true.1 hs.2 fn (List.mem_of_getElem? h)
theorem args_i64 {l : List Nd} {kind : Int} (h : ∀ x ∈ l, x.Ok) : ∀ y ∈ argsL l kind, I64 y := fun y hy => by
  obtain ⟨nd, h1, _, rfl⟩ := args_mem.1 hy
  exact (h nd h1).arg
/-- The first i functions' sets. -/
def CalleesTo (p : Pg) (ms : List Nat) (i : Nat) : Prop := ms.length = p.len ∧ ∀ (f : Nat) (fn : Fn) (m : Nat), f < i → p.fns[f]? = some fn → ms[f]? = some m → BitsAre m (Names fn.nodes 7)
theorem CalleesTo.step {p : Pg} {ms : List Nat} {i m : Nat} {fn : Fn} (h : CalleesTo p ms i) (hf : p.fns[i]? = some fn) (hm : BitsAre m (Names fn.nodes 7)) : CalleesTo p (ms.set i m) (i + 1) := by
  refine ⟨by rw [List.length_set]; exact h.1, fun f fn' m' hfi hfn hm' => ?_⟩
  rw [List.getElem?_set] at hm'
  by_cases e : i = f
  · subst e
    rw [if_pos rfl] at hm'
    split at hm'
    · cases hm'
      rw [hf] at hfn; cases hfn
      exact hm
    · cases hm'
  · rw [if_neg e] at hm'
    exact h.2 f fn' m' (by omega) hfn hm'

set_option maxRecDepth 100000 in
set_option maxHeartbeats 1600000 in
theorem graph_callees (B : Nat) (p : Pg) (w : World) (hp : p.Ok w B) (hB : B ≤ w.heap.size) (hs : Q.small p = true) (_h32 : p.len ≤ 32) :
    Calls Try.prog 17 #[pgA p] w fun e w' => ∃ (v : Value) (ms : List Nat), e = .returned v ∧ ms.length = p.len ∧ (∀ (f : Nat) (fn : Fn) (m : Nat), p.fns[f]? = some fn → ms[f]? = some m → BitsAre m (Names fn.nodes 7)) ∧ Own w' w.heap.size 54 v (ms.map wordV) ∧ Below w.heap.size w w' := by
  have HP := kp hp; have HS := kp hs
  have hlen := hp.row.len
  have HLen := kp hlen
  have hlc := hp.lc; have hcm := hp.cm
  unfold maxLen at hcm
  have hcm9 : p.cap ≤ 9223372036854775807 := by omega
  clear hp hcm hs hlen
  rw [pgA_is]
  go_enter Try.func17, Try.ntmps17
  go_wp2_with (first
    | ((with_reducible refine wpList_box_agg rfl 24 (.tmp 0) rfl (pgC p) rfl ?_); intro g1 w1 hg1 hk1 hw1; have HK1 := kp hk1; obtain ⟨hc0, hc1, hc2, hc3⟩ := pg_cells hk1; have HW1 := kp hw1; have hs1 := hw1.size; clear hg1 hk1 hw1)
    | ((with_reducible show wpList _ _ _ (⟨some 9, _, _, _, _, _⟩ :: _) _ _); go_must (refine wpList_make_blk rfl 50 (.tmp 8) (.tmp 8) rfl 54 (.int .u32 0) 4 Try.underlying50 word_info rfl .i64 .i64 p.len p.len rfl rfl (Nat.le_refl _) (by omega) (by omega) ?_); intro r w2 hr2 hk2 hw2; have HR2 : Kept (w.heap.size ≤ r) := kp (Nat.le_trans hs1 hr2); have HK2 := kp hk2; have HB2 := kp (HW1.out.trans (hw2.mono hs1)); have HK1b := kp (HK1.out.below hw2 HK1.out.lt); clear hr2 hk2 hw2 hc0 hc1 hc2 hc3; obtain ⟨hc0, hc1, hc2, hc3⟩ := pg_cells HK1b.out))
  go_loopw [13] (fun v13 wr => ∃ (i : Nat) (ms : List Nat), i ≤ p.len ∧ v13 = .int .i64 i ∧ CalleesTo p ms i ∧ Blk wr r 54 (ms.map wordV) ∧ Below w.heap.size w wr) (fun v13 _ => p.len - (intOf v13).toNat)
  case atStart => exact ⟨0, List.replicate p.len 0, by omega, rfl, ⟨by simp, fun f fn m hf => by omega⟩, by rw [List.map_replicate]; exact HK2.out, HB2.out⟩
  case round =>
    clear HK1 HK1b HW1 HK2 HB2 hc0 hc1 hc2 hc3
    obtain ⟨i, ms, hi, rfl, hms, hk, hbw⟩ := hrel
    have HMs := kp hms; have HK := kp hk; have HBw := kp hbw
    have hsz := hbw.size
    by_cases hlt : i < p.len
    · obtain ⟨ad, fn, e0, _, hfn, hfok, hcf⟩ := (HP.out.below (hbw.mono hB)).fn hlt
      rw [e0]
      have HFn := kp hfn; have HFok := kp hfok
      have hfl100 := small_nodes HS.out hfn
      have hfl := hfok.nodes.1.len
      have hfl' : fn.len ≤ 1000000 := by omega
      have hfcm := hfok.cm
      have hflc := hfok.lc
      unfold maxLen at hfcm
      have hml := hms.1
      obtain ⟨q, hq⟩ : ∃ q, ms[i]? = some q := ⟨ms[i]'(by omega), List.getElem?_eq_getElem (by omega)⟩
      have HQ := kp hq
      have hBr : B ≤ wr.heap.size := Nat.le_trans hB hsz
      have HE0 := kp e0
      obtain ⟨n4, hn4⟩ : ∃ n4, (argsL fn.nodes 7).length = n4 := ⟨_, rfl⟩
      have hn4le : n4 ≤ 1000000 := by rw [← hn4]; have := args_len fn.nodes 7; omega
      have HN4 := kp hn4
      clear hms hk hbw hfn hfok hq hn4 e0 hfl hfl100
      go_wp2_with (first
        | (go_at_call 34; go_must (refine (graph_named B fn.A fn.len fn.cap fn.nodes 7 wr HFok.out.nodes hfl' hBr).mono ?_); rintro e w4 ⟨v4, rfl, hown4, hb4⟩
           obtain ⟨A4, c4, rfl, hc4, hm4, hr4⟩ := Own.readsN hown4 HN4.out
           have HR4 := kp hr4; have HB4 := kp hb4; have HKr := kp (HK.out.below hb4 HK.out.lt)
           clear hown4 hr4 hb4 hm4)
        | (go_at_call 33; go_must (refine (graph_setOf _ A4 n4 c4 _ w4 HR4.out (args_i64 HFok.out.nodes.2) hn4le).mono ?_); rintro e w5 ⟨m, rfl, hm, rfl⟩
           have HM := kp (hm.congr fun id _ => args_names id)
           have hcr := HKr.out.cell i
           rw [List.getElem?_map, HQ.out] at hcr
           have hfr := HKr.out.frozen i
           have hri : (i : Int) < (p.len : Int) := by omega
           clear hm))
      go_roundw
      case rel =>
        refine ⟨i + 1, ms.set i m, by omega, by go_num, HMs.out.step HFn.out HM.out, ?_, ?_⟩
        · rw [List.map_set]
          exact HKr.out.set i _
        · have hb5 := HBw.out.trans (HB4.out.mono hsz)
          exact ⟨hb5.os, hb5.tape, hb5.output, by simpa using hb5.size, fun k hk => (heap_setCell_other w4 _ k _ (by intro e; have := HR2.out; simp only at e; omega)).trans (hb5.block k hk)⟩
      case measure => simp [intOf]; omega
    · have hie : i = p.len := by omega
      have HE : Kept (∀ (f : Nat) (fn : Fn) (m : Nat), p.fns[f]? = some fn → ms[f]? = some m → BitsAre m (Names fn.nodes 7)) := kp fun f fn m hf hm => HMs.out.2 f fn m (by have := (List.getElem?_eq_some_iff.1 hf).1; rw [HLen.out] at this; omega) hf hm
      have HL : Kept (ms.length = p.len) := kp hms.1
      have hge : p.len ≤ i := by omega
      clear hms hk hbw hlt hie
      go_wp2
      go_ret
      refine ⟨_, ms, rfl, HL.out, HE.out, ?_, HBw.out⟩
      have h := Blk.own (xs := ms.map wordV) HK.out HR2.out (cap := p.len) (by rw [List.length_map, HL.out]) (by rw [List.length_map, HL.out]; exact Nat.le_refl _) (by unfold maxLen; omega) (List.take_length ..)
      rw [List.length_map, HL.out] at h
      exact h
end Go.Proofs.Ytfifnahcobjjdaa
