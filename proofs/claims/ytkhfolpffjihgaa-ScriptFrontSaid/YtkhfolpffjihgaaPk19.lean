/- SemPush, SemPa, SemPb, in one text. -/
import Derived.Test.YtkhfolpffjihgaaPk16
import Derived.Test.YtkhfolpffjihgaaPk18
import Derived.Test.YtkhfolpffjihgaaPk17
namespace Go.Proofs.Ytkhfolpffjihgaa
open Go.RowKit
section
variable {P : Program} {ops : Array Oper} {rest : List Oper} {o : Oper} {a : Act} {w : World} {Q : Exit → Act → World → Prop} {α : Type}
theorem jX (hgd : o.guard = none) (s x : Operand) (t : TypeId)
    (ho : o.op = .call { callee := .builtin .append, args := #[s, x], argTypes := #[t, t] })
    (B : Nat) (e : TypeId) (sz : Nat) (z : Value) (bytes : Nat) (ht : P.underlying t = some (.slice e)) (hi : (P.info? e).map (fun i => (i.zero, i.size, i.bytes)) = some (some z, sz, bytes)) (hzs : z.cells.size = sz) (hsz : 0 < sz)
    (f : α → Nat → Value) (hone : ∀ x j, (f x j).oneCell' = true)
    (q cap n : Nat) (l : List α) (hn : l.length = n) (u : α) (hs : a.eval s = .slice (some ⟨q, 0, none⟩) n cap) (hown : OwnR sz f w B e (.slice (some ⟨q, 0, none⟩) n cap) l) (hroom : n + 1 ≤ cap)
    (gn c : Nat) (hx : a.eval x = .slice (some ⟨gn, 0, none⟩) 1 c) (hbk : Blk w gn e ((List.range sz).map (f u))) (hbytes : (n + 1) * bytes ≤ 140737488355328)
    (h : ∀ w', OwnR sz f w' B e (.slice (some ⟨q, 0, none⟩) (n + 1) cap) (l ++ [u]) → w.grownBy w' (some q) → wpList P ops Q rest (a.put o.dst (.slice (some ⟨q, 0, none⟩) (n + 1) cap)) w') : wpList P ops Q (o :: rest) a w := by
  subst hn
  exact zJ hgd s x t ho B e sz z bytes ht hi hzs hsz f hone q cap l u hs hown hroom gn c hx hbk hbytes h
theorem qW (hgd : o.guard = none) (s x : Operand) (t : TypeId)
    (ho : o.op = .call { callee := .builtin .append, args := #[s, x], argTypes := #[t, t] })
    (B : Nat) (e : TypeId) (sz : Nat) (z : Value) (bytes : Nat) (ht : P.underlying t = some (.slice e)) (hi : (P.info? e).map (fun i => (i.zero, i.size, i.bytes)) = some (some z, sz, bytes)) (hzs : z.cells.size = sz) (hsz : 0 < sz)
    (f : α → Nat → Value) (hone : ∀ x j, (f x j).oneCell' = true)
    (q cap n : Nat) (l : List α) (hn : l.length = n) (u : α) (hs : a.eval s = .slice (some ⟨q, 0, none⟩) n cap) (hown : OwnR sz f w B e (.slice (some ⟨q, 0, none⟩) n cap) l) (hfull : cap = n)
    (gn c : Nat) (hx : a.eval x = .slice (some ⟨gn, 0, none⟩) 1 c) (hbk : Blk w gn e ((List.range sz).map (f u))) (h63 : n + 1 ≤ maxLen) (hbytes : (n + 1) * bytes ≤ 140737488355328) (hB : B ≤ w.heap.size)
    (h : ∀ g c' w', OwnR sz f w' B e (.slice (some ⟨g, 0, none⟩) (n + 1) c') (l ++ [u]) → Below w.heap.size w w' → w.heap.size ≤ g → wpList P ops Q rest (a.put o.dst (.slice (some ⟨g, 0, none⟩) (n + 1) c')) w') : wpList P ops Q (o :: rest) a w := by
  subst hn
  subst hfull
  refine xB hgd s x t ho B e sz z bytes ht hi hzs hsz f hone _ l u hs hown (.inr ⟨q, rfl⟩) gn c hx hbk h63 hbytes hB fun v' w' h1 h2 h3 => ?_
  obtain ⟨A', c', rfl, _⟩ := h1.form
  rw [List.length_append, List.length_singleton] at h1 h3 ⊢
  cases A' with
  | none => cases h3
  | some ad =>
    have e1 : ad.block = w.heap.size := by injection h3
    obtain ⟨g, cur, hA, _⟩ := h1.blk (by omega)
    injection hA with hA
    subst hA
    exact h g c' w' h1 h2 (by rw [← e1]; exact Nat.le_refl _)
end
def GFact.elem (G : Nat → Prop) (e : TypeId) (cs : List Value) (K : Nat) : GFact G :=
  ⟨fun v W => ∃ gn, v = .slice (some ⟨gn, 0, none⟩) 1 1 ∧ Blk W gn e cs ∧ ¬ G gn ∧ K ≤ gn, fun _ _ _ ho ⟨gn, h1, h2, h3, h4⟩ => ⟨gn, h1, ho.blk h2 h3, h3, h4⟩⟩
def Fact.elem (e : TypeId) (cs : List Value) : Fact :=
  ⟨fun v W => ∃ gn, v = .slice (some ⟨gn, 0, none⟩) 1 1 ∧ Blk W gn e cs, fun _ _ _ hb ⟨gn, h1, h2⟩ => ⟨gn, h1, h2.below hb h2.lt⟩⟩
def Fact.ownR {α : Type} (sz : Nat) (f : α → Nat → Value) (B : Nat) (e : TypeId) (K n : Nat) (l : List α) : Fact :=
  ⟨fun v W => ∃ g c, v = .slice (some ⟨g, 0, none⟩) n c ∧ OwnR sz f W B e v l ∧ K ≤ g, fun _ _ _ hb ⟨g, c, h1, h2, h3⟩ => ⟨g, c, h1, h2.below hb (Nat.le_refl _), h3⟩⟩
def newT (a g : Nat) : Tv := ⟨⟨some ⟨g, 0, none⟩, 1, 1, [(a, 0)]⟩, List.replicate 8 0⟩
theorem Fam.add {e : TypeId} {w : World} {B : Nat} {S : Nat → Prop} {l : List Sv} (h : Fam e w B S l) {x : Sv} (ho : OwnR 2 frV w B e (svV x) x.stack) (hS : ∀ b, (svV x).ownBlock = some b → ¬ S b)
    (hne : ∀ (k : Nat) (y : Sv) (b : Nat), l[k]? = some y → (svV x).ownBlock = some b → (svV y).ownBlock ≠ some b) : Fam e w B S (l ++ [x]) := by
  have key : ∀ (j : Nat) (y : Sv), (l ++ [x])[j]? = some y → (j = l.length ∧ y = x) ∨ (j < l.length ∧ l[j]? = some y) := fun j y hy => by
    rcases Nat.lt_or_ge j l.length with h1 | h1
    · rw [List.getElem?_append_left h1] at hy
      exact .inr ⟨h1, hy⟩
    · have h2 := (List.getElem?_eq_some_iff.1 hy).1
      simp only [List.length_append, List.length_singleton] at h2
      have e1 : j = l.length := by omega
      subst e1
      rw [List.getElem?_append_right (Nat.le_refl _), Nat.sub_self] at hy
      exact .inl ⟨rfl, by simpa using hy.symm⟩
  refine ⟨fun j y hy => ?_, fun j y b hy hb1 => ?_, fun i j y z b hy hz hb1 hb2 => ?_⟩
  · rcases key j y hy with ⟨_, rfl⟩ | ⟨_, hy⟩
    · exact ho
    · exact h.own j y hy
  · rcases key j y hy with ⟨_, rfl⟩ | ⟨_, hy⟩
    · exact hS b hb1
    · exact h.out j y b hy hb1
  · rcases key i y hy with ⟨e1, e2⟩ | ⟨h1, hy'⟩
    · rcases key j z hz with ⟨e3, _⟩ | ⟨h2, hz'⟩
      · rw [e1, e3]
      · rw [e2] at hb1
        exact absurd hb2 (hne j z b hz' hb1)
    · rcases key j z hz with ⟨_, e4⟩ | ⟨h2, hz'⟩
      · rw [e4] at hb2
        exact absurd hb1 (hne i y b hy' hb2)
      · exact h.apart i j y z b hy' hz' hb1 hb2
theorem St.push {w2 W W' : World} {B gN gU g gT gV a c : Nat} {q : Pc} (h : St w2 B gN gU q) (hA : q.A = some ⟨gT, 0, none⟩) (hg0 : w2.grownBy W (some gT)) (hrow : OwnR 9 tvV W B 89 (.slice (some ⟨gV, 0, none⟩) (q.len + 1) c) (q.tvs ++ [newT a g]))
    (hV : gV = gT ∨ (w2.heap.size ≤ gV ∧ gV ≠ g)) (ho : OwnR 2 frV W B 90 (.slice (some ⟨g, 0, none⟩) 1 1) [(a, 0)]) (hgg : w2.heap.size ≤ g)
    (hb : Blk W' gN 43 ((pcC q).set 0 (.slice (some ⟨gV, 0, none⟩) (q.len + 1) c))) (hg : W.grownBy W' (some gN)) (hz : W'.heap.size = W.heap.size) : St W' B gN gU ⟨some ⟨gV, 0, none⟩, q.len + 1, c, q.tvs ++ [newT a g], q.ow⟩ := by
  have hbT : (Value.slice q.A q.len q.cap).ownBlock = some gT := by rw [hA]; rfl
  have hneT := h.ne gT hbT
  have hTl := (h.row.block gT hbT).2
  have hNl := h.conf.lt
  have hUl := h.low.2
  have hVN : gV ≠ gN := by rcases hV with rfl | hV <;> omega
  have hVU : gV ≠ gU := by rcases hV with rfl | hV <;> omega
  have hVg : gV ≠ g := by rcases hV with rfl | hV <;> omega
  refine ⟨hb, hrow.far hg (.inr fun e => hVN (by cases e; rfl)), ?_, fun b e => by cases e; exact ⟨hVN, hVU⟩, h.low.1, by have := hg0.size; rw [hz]; omega⟩
  have e1 : (q.tvs ++ [newT a g]).map (·.sv) = q.tvs.map (·.sv) ++ [(newT a g).sv] := by rw [List.map_append]; rfl
  show Fam _ W' B _ ((q.tvs ++ [newT a g]).map (·.sv))
  rw [e1]
  have f1 : Fam 90 w2 B (fun b => (b = gN ∨ b = gU ∨ (Value.slice q.A q.len q.cap).ownBlock = some b) ∨ b = gV) (q.tvs.map (·.sv)) := h.fam.less fun b hb => by
    rcases hb with hb | hb
    · exact .inl hb
    · rcases hV with hV | hV
      · subst hb; subst hV; exact .inl (.inr (.inr hbT))
      · right; omega
  have f2 := f1.turn hg0 (fun b e => by cases e; exact .inl (.inr (.inr hbT)))
  have f3 := f2.add (x := (newT a g).sv) ho (fun b e => by
    have e2 : g = b := by injection e
    subst e2
    rintro ((e | e | e) | e)
    · omega
    · omega
    · rw [hbT] at e; cases e; omega
    · exact hVg e.symm) (fun k y b hy e e3 => by
    have e2 : g = b := by injection e
    subst e2
    have := (f1.block hy e3).2
    omega)
  have f4 := f3.turn hg (fun b e => by cases e; exact .inl (.inl rfl))
  refine f4.less fun b hb => ?_
  rcases hb with rfl | rfl | hb
  · exact .inl (.inl (.inl rfl))
  · exact .inl (.inl (.inr (.inl rfl)))
  · cases hb; exact .inl (.inr rfl)
theorem frame_one : (Try.prog.info? 90).map (fun i => (i.zero.map (·.cells.size), i.size)) = some (some 2, 2) := by kernel_rfl
theorem thread_ones (A : Option Addr) (n c : Nat) : ∀ u ∈ Value.slice A n c :: zeros 8, u.oneCell' = true := by
  intro u hu
  rcases List.mem_cons.1 hu with rfl | hu
  · rfl
  · rw [List.eq_of_mem_replicate hu]; rfl
set_option maxRecDepth 100000 in
set_option maxHeartbeats 1600000 in
theorem vN (f : Nat) (w : World) :
    Calls Try.prog 43 #[.int .i64 (f : Int)] w fun e w' => ∃ g, e = .returned (.agg (Value.slice (some ⟨g, 0, none⟩) 1 1 :: zeros 8).toArray) ∧ OwnR 2 frV w' w.heap.size 90 (.slice (some ⟨g, 0, none⟩) 1 1) [(f, 0)] ∧ w.heap.size ≤ g ∧ Below w.heap.size w w' := by
  go_enter Try.func43, Try.ntmps43
  go_wp2_with (first
    | ((with_reducible show Sl 2); go_must (refine j3 rfl 89 rfl _ yI ?_); intro g1 w1 hg1 hk1 hw1; have HK1 := kp hk1; have HW1 := kp hw1; have hs1 := hw1.size; have hl1 := hk1.lt; clear hk1 hw1)
    | ((with_reducible show Sl 5); go_must (refine jF rfl 87 90 (.tmp 4) rfl 2 Try.underlying87 frame_one (by omega) (by omega) _ [.int .i64 (f : Int), .int .i64 0] rfl rfl rfl ?_); intro g2 w2 hg2 hk2 hw2
       have HK2 := kp hk2; have HK12 := kp (HK1.out.below hw2 hl1); have HW2 := kp (HW1.out.trans (hw2.mono hs1)); have hs2 := HW2.out.size; have hl2 := hk2.lt; clear hk2 hw2)
    | ((with_reducible show Sl 6); go_must (refine qK rfl 89 0 (.tmp 5) rfl (.slice (some ⟨g2, 0, none⟩) 1 1) rfl (Value.slice (some ⟨g2, 0, none⟩) 1 1 :: zeros 8) (built_thread (some ⟨g2, 0, none⟩) 1 1) ?_))
    | ((with_reducible show Sn); go_must (refine j4 rfl 89 (.tmp 2) (.tmp 6) rfl g1 (Value.slice (some ⟨g2, 0, none⟩) 1 1 :: zeros 8) rfl rfl _ _ HK12.out lQ rfl (thread_ones _ _ _) ?_); intro w3 hk3 hg3 hs3
       have HK3 := kp hk3; have HK23 := kp (HK2.out.grown hg3 (fun e => by cases e; omega)); have HW3 := kp (HW2.out.grown hg3 hs2 (fun k e => by cases e; omega)); clear hk3 hg3)
    | ((with_reducible show bodyPost _ _ _ _ _ _); exact bodyPost_ret (jJ (P := Try.prog) (fn := Try.f43) rfl _ _ g1 89 _ _ rfl HK3.out Try.underlying89 rfl lQ) rfl ⟨g2, rfl, OwnR.of_blk HK23.out (by omega) rfl (Nat.le_refl _) (by unfold maxLen; omega) rfl rfl, by omega, HW3.out⟩))
theorem yB : (Try.prog.info? 87).map (·.size) = some 1 := by kernel_rfl
set_option maxRecDepth 100000 in
set_option maxHeartbeats 1600000 in
theorem sem_call (B gN gU k : Nat) (q : Pc) (x : Nd) (way : Bool) (th : Tv) (w : World) (hst : St w B gN gU q) (hu : Blk w gU 109 (turnC gN k way x)) (hkl : k < q.len) (hth : q.tvs[k]? = some th) (hs0 : 0 < th.sv.len) (hlen16 : th.sv.len ≤ 1000) (h8 : q.len ≤ 8) (nx : Nat) (hnx : x.next = (nx : Int)) (a : Nat) (ha : x.arg = (a : Int)) (hk7 : x.kind = 7) :
    Calls Try.prog 73 #[.pointer (some ⟨gU, 0, none⟩)] w fun e w' => e = .returned (.tuple #[]) ∧ ∃ q', St w' B gN gU q' ∧ q'.cf = M.act q.cf k x way ∧ Below B w w' := by
  go_enter Try.func73, Try.ntmps73
  go_wp2_with fail
  refine (qN B gN gU k q x way th w hst hu hkl hth hs0 hlen16 h8 nx hnx).mono ?_
  rintro e w1 ⟨rfl, hst1, hu1, hb1⟩
  have hw1s := hb1.size
  have hth1 : (q.put k (tvGo th nx)).tvs[k]? = some (tvGo th nx) := by
    show (q.tvs.set k (tvGo th nx))[k]? = _
    rw [List.getElem?_set, if_pos rfl, if_pos (List.getElem?_eq_some_iff.1 hth).1]
  have hcf1 : M.th q.cf k = tvT th := Pc.th_of hth
  have HCf := kp (Pc.put_cf q k (tvGo th nx))
  have HCf0 := kp hcf1
  have hs01 : 0 < (tvGo th nx).sv.len := hs0
  have hlen161 : (tvGo th nx).sv.len ≤ 1000 := hlen16
  have hkl1 : k < (q.put k (tvGo th nx)).len := hkl
  have h81 : (q.put k (tvGo th nx)).len ≤ 8 := h8
  have how1 : (q.put k (tvGo th nx)).ow = q.ow := rfl
  have HQlen : Kept ((q.put k (tvGo th nx)).len = q.len) := kp rfl
  have HTvs : Kept ((q.put k (tvGo th nx)).tvs = q.tvs.set k (tvGo th nx)) := kp rfl
  have HTh1 : Kept (tvT (tvGo th nx) = ⟨M.goOn th.sv.stack nx, th.slots⟩) := kp rfl
  obtain ⟨q1, hq1⟩ : ∃ q1, q.put k (tvGo th nx) = q1 := ⟨_, rfl⟩
  obtain ⟨th1, ht1⟩ : ∃ th1, tvGo th nx = th1 := ⟨_, rfl⟩
  rw [ht1] at hq1 hth1 hs01 hlen161 HCf HTh1 HTvs hst1 hkl1 h81 how1 HQlen
  rw [hq1] at hst1 hth1 hkl1 h81 how1 HCf HQlen HTvs
  clear hst hu hq1 ht1 hcf1 hs0 hlen16
  obtain ⟨gT, curT, thx, hA, hbT, hthx, hcT0, hcTj, hTN, hTU, hBT, hsl, hthc, hcTl⟩ := hst1.thread hkl1
  rw [hth1] at hthx
  cases hthx
  obtain ⟨gS, cur, hSA, hbS, hlen, hSN, hSU, hBS, hput⟩ := hst1.goes hth1 hs01
  have hbound := hst1.ok
  have hqc := hbound.lc; have hqm := hbound.cm
  unfold maxLen at hqm
  have HE : Kept (pcC q1 = .slice (some ⟨gT, 0, none⟩) q1.len q1.cap :: q1.ow.map natV) := kp (by unfold pcC; rw [hA])
  have hgN := hst1.conf.lt; have hgU := hu1.lt; have hgT := hbT.lt; have hgS := hbS.lt
  have HSt := kp hst1; have HK := kp hu1; have HT := kp hbT; have HS := kp hbS; have HPut := kp hput
  have hxc := hbound.svs th1 (List.mem_of_getElem? hth1)
  have hxc2 := hxc.lc; have hxm := hxc.cm
  unfold maxLen at hxm
  rw [hSA] at hcT0
  have HC0 := kp hcT0
  have hlow := hst1.low.1
  have hBw : B ≤ w1.heap.size := by omega
  have HLow := kp hst1.low
  obtain ⟨n, hn⟩ : ∃ n, th1.sv.len = n := ⟨_, rfl⟩
  obtain ⟨cp, hcp⟩ : ∃ cp, th1.sv.cap = cp := ⟨_, rfl⟩
  have HThl := kp hn
  rw [hn] at HC0 hs01 hlen161 hxc2 hlen HPut
  rw [hcp] at HC0 hxc2 hxm
  have HA := kp hA; have HTh := kp hth1
  have HOwn : Kept (∀ W, St W B gN gU q1 → OwnR 2 frV W B 90 (.slice (some ⟨gS, 0, none⟩) n cp) th1.sv.stack) := kp (fun W hW => by
    have h := hW.fam.own k th1.sv (by rw [List.getElem?_map, hth1]; rfl)
    unfold svV at h
    rw [hSA, hn, hcp] at h
    exact h)
  have HLen : Kept (th1.sv.stack.length = n) := kp (by rw [hsl, hn])
  have HBk1 : Kept ((svV th1.sv).ownBlock = some gS) := kp (by unfold svV; rw [hSA]; rfl)
  have HGoal : Kept (∀ A' c', (q1.put k ⟨⟨A', n + 1, c', th1.sv.stack ++ [(a, 0)]⟩, th1.slots⟩).cf = M.act q.cf k x way) := kp (fun A' c' => by
    unfold M.act
    rw [Pc.put_cf, HCf.out, how1, HCf0.out, if_neg (show ¬ x.kind = 9 by omega), if_neg (show ¬ x.kind = 3 by omega), if_neg (show ¬ x.kind = 4 by omega), if_neg (show ¬ x.kind = 5 by omega), if_pos hk7, hnx, ha, Int.toNat_natCast, Int.toNat_natCast, List.set_set]
    have h1 : th1.sv.stack = M.goOn th.sv.stack nx := congrArg M.Th.stack HTh1.out
    have h2 : th1.slots = th.slots := congrArg M.Th.slots HTh1.out
    have e : tvT ⟨⟨A', n + 1, c', th1.sv.stack ++ [(a, 0)]⟩, th1.slots⟩ = ⟨M.goOn th.sv.stack nx ++ [(a, 0)], th.slots⟩ := by
      show (⟨th1.sv.stack ++ [(a, 0)], th1.slots⟩ : M.Th) = _
      rw [h1, h2]
    rw [e]; rfl)
  have hTlen : k * 9 < curT.length := by omega
  have hTS : gT ≠ gS := by
    have h := hst1.fam.out k th1.sv gS (by rw [List.getElem?_map, hth1]; rfl) HBk1.out
    intro e
    exact h (.inr (.inr (by rw [hA, ← e]; rfl)))
  have HB1 := kp hb1
  have hCu := hu1
  have hCn := hst1.conf.cell 0
  rw [HE.out, List.getElem?_cons_zero] at hCn
  have HC := kp (xC gU gN gT k q1.len q1.cap way x w1 hCu hCn hkl1)
  clear hst1 hu1 hth1 hput hbT hbS hcT0 hcTj hthc hcTl hsl hbound hxc hn hcp hSA hA hCu hCn hb1
  go_wp2_with fail
  refine HC.out.mono ?_
  rintro e w9 ⟨rfl, m, rfl⟩
  obtain ⟨w2, hw2⟩ : ∃ y, w1.drewN m = y := ⟨_, rfl⟩
  have HT2 : Kept (Blk w2 gT 89 curT) := kp (by rw [← hw2]; exact HT.out.drewN m)
  have HK2 : Kept (Blk w2 gU 109 (turnC gN k way x)) := kp (by rw [← hw2]; exact HK.out.drewN m)
  have HSt2 : Kept (St w2 B gN gU q1) := kp (by rw [← hw2]; exact HSt.out.drewN m)
  have HB2 : Kept (Below B w w2) := kp (by rw [← hw2]; exact jE HB1.out m)
  have hBw2 : B ≤ w2.heap.size := by rw [← hw2]; exact hBw
  have hgT2 := HT2.out.lt; have hgU2 := HK2.out.lt
  have hgS2 : gS < w2.heap.size := by rw [← hw2]; exact hgS
  rw [hw2]
  clear hw2
  go_wp2
  by_cases hroom : n + 1 ≤ cp
  · have hx1 := hroom
    apply lU (fun k => k = gS ∨ k = gT) [12, 15] [1, 2, 3, 4, 5, 6, 7, 8, 9, 10, 11] (phs ([fun W => Below w2.heap.size w2 W, fun W => ∃ W0, Below w2.heap.size w2 W0 ∧ W0.grownBy W (some gS) ∧ OwnR 2 frV W B 90 (.slice (some ⟨gS, 0, none⟩) (n + 1) cp) (th1.sv.stack ++ [(a, 0)]), fun W => St W B gN gU (q1.put k ⟨⟨some ⟨gS, 0, none⟩, n + 1, cp, th1.sv.stack ++ [(a, 0)]⟩, th1.slots⟩)] : List (World → Prop))) (.is _ :: .is _ :: .is _ :: .is _ :: .is _ :: .is _ :: .is _ :: .is _ :: .is _ :: .is _ :: .is (.agg #[.int .i64 (a : Int), .int .i64 0]) :: GFact.elem _ 90 [.int .i64 (a : Int), .int .i64 0] w2.heap.size :: .is _ :: .is _ :: .is _ :: .any _ :: [])
      [[], [], [(1, 8)], [(2, 9)], [(3, 10)], [], [(5, 12)], [(6, 13)], [(7, 14)], [(8, 15)], [(9, 16)], [(10, 17)], [(4, 11), (11, 18)], [(0, 7)], [(13, 20)], [(14, 21), (12, 19)]]
      [(0, 7), (1, 8), (2, 9), (3, 10), (4, 11), (5, 12), (6, 13), (7, 14), (8, 15), (9, 16), (10, 17), (11, 18), (12, 19), (13, 20), (14, 21)] (by kernel_rfl) (by kernel_rfl) (by kernel_rfl) (by kernel_rfl) (by decide)
    case h0 => exact (⟨rfl, rfl, rfl, Nat.le_refl _, fun _ _ => rfl⟩ : Below w2.heap.size w2 w2.drew)
    case hob =>
      refine lA rfl rfl ?o0 (j9 rfl rfl ?o1 (j9 rfl rfl ?o2 (j9 rfl rfl ?o3 (j9 rfl rfl ?o4 (j9 rfl rfl ?o5 (j9 rfl rfl ?o6 (j9 rfl rfl ?o7 (j9 rfl rfl ?o8 (j9 rfl rfl ?o9 (j9 rfl rfl ?o10 (j9 rfl rfl ?o11 (lL 0 rfl rfl ?o12 (lA rfl rfl ?o13 (lA rfl rfl ?o14 (lL 1 rfl rfl ?o15 (xI))))))))))))))))
      case o0 => intro p W hO hJ; change wpList _ _ _ _ _ _; go_wp2; exact jA rfl rfl rfl hJ
      case o1 => intro W hO hJ; change wpList _ _ _ _ _ _; go_wp2; exact jA rfl rfl rfl hJ
      case o2 => intro W hO hJ; rintro _ rfl; change wpList _ _ _ _ _ _; go_wp2; exact jA rfl rfl rfl hJ
      case o3 => intro W hO hJ; rintro _ rfl; change wpList _ _ _ _ _ _; go_wp2; exact jA rfl rfl rfl hJ
      case o4 =>
        intro W hO hJ; rintro _ rfl; change wpList _ _ _ _ _ _
        have hb : Below w2.heap.size w2 W := hJ
        have hc := (HT2.out.below hb hgT2).cell (k * 9)
        rw [HC0.out] at hc
        clear hb
        go_wp2; exact jA rfl rfl rfl hJ
      case o5 => intro W hO hJ; change wpList _ _ _ _ _ _; go_wp2; exact jA rfl rfl rfl hJ
      case o6 => intro W hO hJ; rintro _ rfl; change wpList _ _ _ _ _ _; go_wp2; exact jA rfl rfl rfl hJ
      case o7 => intro W hO hJ; rintro _ rfl; change wpList _ _ _ _ _ _; go_wp2; exact jA rfl rfl rfl hJ
      case o8 => intro W hO hJ; rintro _ rfl; change wpList _ _ _ _ _ _; go_wp2; exact jA rfl rfl rfl hJ
      case o9 =>
        intro W hO hJ; rintro _ rfl; change wpList _ _ _ _ _ _
        have hb : Below w2.heap.size w2 W := hJ
        have hc := (HK2.out.below hb hgU2).cell 4
        simp only [turnC, List.getElem?_cons_zero, List.getElem?_cons_succ] at hc
        rw [ha] at hc
        clear hb
        go_wp2; exact jA rfl rfl rfl hJ
      case o10 => intro W hO hJ; rintro _ rfl; change wpList _ _ _ _ _ _; go_wp2; exact jA rfl rfl rfl hJ
      case o11 =>
        intro W hO hJ; rintro _ rfl; change wpList _ _ _ _ _ _
        have hb : Below w2.heap.size w2 W := hJ
        have HBw := kp hb
        have hbs := hb.size
        clear hJ hb hO
        have HB5 := kp ((Below.refl W.heap.size W).alloc (Nat.le_refl _) (.cells #[Value.int .i64 (a : Int), .int .i64 0] 90))
        go_wp2
        exact l9 rfl rfl rfl (Only.of_below HB5.out) (HBw.out.trans (HB5.out.mono hbs)) ⟨W.heap.size, rfl, Blk.newA W _ _ [.int .i64 (a : Int), .int .i64 0] rfl, by omega, by omega⟩
      case o12 =>
        intro W hO hJ; rintro _ rfl; rintro _ ⟨gn, rfl, hbk, hng, hgk⟩; change wpList _ _ _ _ _ _
        have hb : Below w2.heap.size w2 W := hJ
        have HBw := kp hb; have HBk := kp hbk
        have hOw := HOwn.out W (HSt2.out.below hb (Nat.le_refl _))
        clear hJ hO hb hbk
        go_wp2_with (at_builtin; go_must (refine jX rfl (.tmp 11) (.tmp 18) 87 rfl B 90 2 _ 16 Try.underlying87 zN rfl (by omega) frV x9 gS cp n th1.sv.stack HLen.out (a, 0) rfl hOw hroom gn 1 rfl HBk.out (by omega) ?_); intro w6 hown6 hgr6)
        exact l9 rfl rfl rfl (Only.of_grown hgr6 (.inl rfl)) ⟨W, HBw.out, hgr6, hown6⟩ rfl
      case o13 => intro p W hO hJ; rintro _ rfl; change wpList _ _ _ _ _ _; go_wp2; exact jA rfl rfl rfl hJ
      case o14 => intro p W hO hJ; rintro _ rfl; change wpList _ _ _ _ _ _; go_wp2; exact jA rfl rfl rfl hJ
      case o15 =>
        intro W hO hJ; rintro _ rfl; rintro _ rfl; change wpList _ _ _ _ _ _
        have hJ1 : ∃ W0, Below w2.heap.size w2 W0 ∧ W0.grownBy W (some gS) ∧ OwnR 2 frV W B 90 (.slice (some ⟨gS, 0, none⟩) (n + 1) cp) (th1.sv.stack ++ [(a, 0)]) := hJ
        obtain ⟨W0, hb0, hg0, hown0⟩ := hJ1
        have HT0 := kp (HT2.out.below hb0 hgT2)
        have HKw := kp (HT0.out.grown hg0 (fun e => hTS (by cases e; rfl)))
        have HSt0 := kp (HSt2.out.below hb0 (Nat.le_refl _))
        have HG0 := kp hg0; have HOw0 := kp hown0
        clear hJ hO hb0 hg0 hown0
        go_wp2_with ((with_reducible show Sn); go_must (refine j7 rfl 87 (.tmp 21) (.tmp 19) rfl gT (k * 9) (.slice (some ⟨gS, 0, none⟩) (n + 1) cp) rfl rfl rfl rfl _ _ HKw.out hTlen yB ?_); intro w7 hk7 hg7 hs7; have HFin := kp (HSt0.out.stack (sv := ⟨some ⟨gS, 0, none⟩, n + 1, cp, th1.sv.stack ++ [(a, 0)]⟩) HA.out HT0.out HTh.out (by rw [HBk1.out]; exact HG0.out) HOw0.out (.inl (by rw [HBk1.out]; rfl)) hk7 hg7 hs7); have HOn := kp (Only.of_grown (G := fun k => k = gS ∨ k = gT) hg7 (.inr rfl)); clear hk7 hg7)
        exact qU rfl HOn.out HFin.out
    case hend =>
      intro W hO hJ; rintro _ rfl; rintro _ rfl; rintro _ rfl; rintro _ rfl; rintro _ rfl; rintro _ rfl; rintro _ rfl; rintro _ rfl; rintro _ rfl; rintro _ rfl; rintro _ rfl; rintro _ ⟨gn, rfl, hbk, hng, hgk⟩; rintro _ rfl; rintro _ rfl; rintro _ rfl
      simp only [ggiven, jI, List.set]
      have hJ2 : St W B gN gU (q1.put k ⟨⟨some ⟨gS, 0, none⟩, n + 1, cp, th1.sv.stack ++ [(a, 0)]⟩, th1.slots⟩) := hJ
      have HFin := kp hJ2
      have HBe := kp (HB2.out.trans (hO.below (B := B) hBw2 (fun k hk => by rcases hk with rfl | rfl <;> omega)))
      clear hJ hJ2 hO hbk
      go_wp2
      go_end0
      exact ⟨rfl, _, HFin.out, HGoal.out _ _, HBe.out⟩
  · have HFull : Kept (cp = n) := kp (by omega)
    clear hroom
    apply jD 15 (.is _ :: .is _ :: .is _ :: .is _ :: .is _ :: .is _ :: .is _ :: .is _ :: .is _ :: .is _ :: .is (.agg #[.int .i64 (a : Int), .int .i64 0]) :: Fact.elem 90 [.int .i64 (a : Int), .int .i64 0] :: Fact.ownR 2 frV B 90 w2.heap.size (n + 1) (th1.sv.stack ++ [(a, 0)]) :: .is _ :: .is _ :: [])
      [[], [], [(1, 8)], [(2, 9)], [(3, 10)], [], [(5, 12)], [(6, 13)], [(7, 14)], [(8, 15)], [(9, 16)], [(10, 17)], [(4, 11), (11, 18)], [(0, 7)], [(13, 20)], [(14, 21), (12, 19)]]
      [(0, 7), (1, 8), (2, 9), (3, 10), (4, 11), (5, 12), (6, 13), (7, 14), (8, 15), (9, 16), (10, 17), (11, 18), (12, 19), (13, 20), (14, 21)] (by kernel_rfl) (by kernel_rfl) (by kernel_rfl) (by kernel_rfl) (by kernel_rfl)
    case hob =>
      refine ⟨?o0, ?o1, ?o2, ?o3, ?o4, ?o5, ?o6, ?o7, ?o8, ?o9, ?o10, ?o11, ?o12, ?o13, ?o14, trivial⟩
      case o0 => intro W hW; change wpList _ _ _ _ _ _; go_wp2; exact j0 rfl rfl rfl
      case o1 => intro W hW; change wpList _ _ _ _ _ _; go_wp2; exact j0 rfl rfl rfl
      case o2 => intro W hW; rintro _ rfl; change wpList _ _ _ _ _ _; go_wp2; exact j0 rfl rfl rfl
      case o3 => intro W hW; rintro _ rfl; change wpList _ _ _ _ _ _; go_wp2; exact j0 rfl rfl rfl
      case o4 =>
        intro W hW; rintro _ rfl; change wpList _ _ _ _ _ _
        have hc := (HT2.out.below hW hgT2).cell (k * 9)
        rw [HC0.out] at hc
        go_wp2; exact j0 rfl rfl rfl
      case o5 => intro W hW; change wpList _ _ _ _ _ _; go_wp2; exact j0 rfl rfl rfl
      case o6 => intro W hW; rintro _ rfl; change wpList _ _ _ _ _ _; go_wp2; exact j0 rfl rfl rfl
      case o7 => intro W hW; rintro _ rfl; change wpList _ _ _ _ _ _; go_wp2; exact j0 rfl rfl rfl
      case o8 => intro W hW; rintro _ rfl; change wpList _ _ _ _ _ _; go_wp2; exact j0 rfl rfl rfl
      case o9 =>
        intro W hW; rintro _ rfl; change wpList _ _ _ _ _ _
        have hc := (HK2.out.below hW hgU2).cell 4
        simp only [turnC, List.getElem?_cons_zero, List.getElem?_cons_succ] at hc
        rw [ha] at hc
        go_wp2; exact j0 rfl rfl rfl
      case o10 => intro W hW; rintro _ rfl; change wpList _ _ _ _ _ _; go_wp2; exact j0 rfl rfl rfl
      case o11 =>
        intro W hW; rintro _ rfl; change wpList _ _ _ _ _ _
        clear hW
        have HB5 := kp ((Below.refl W.heap.size W).alloc (Nat.le_refl _) (.cells #[Value.int .i64 (a : Int), .int .i64 0] 90))
        go_wp2
        exact jC rfl rfl rfl HB5.out ⟨W.heap.size, rfl, Blk.newA W _ _ [.int .i64 (a : Int), .int .i64 0] rfl⟩
      case o12 =>
        intro W hW; rintro _ rfl; rintro _ ⟨gn, rfl, hbk⟩; change wpList _ _ _ _ _ _
        have HBk := kp hbk
        have hOw := HOwn.out W (HSt2.out.below hW (Nat.le_refl _))
        have hWs := hW.size
        clear hW hbk
        go_wp2_with (at_builtin; go_must (refine qW rfl (.tmp 11) (.tmp 18) 87 rfl B 90 2 _ 16 Try.underlying87 zN rfl (by omega) frV x9 gS cp n th1.sv.stack HLen.out (a, 0) rfl hOw HFull.out gn 1 rfl HBk.out (by unfold maxLen; omega) (by omega) (by omega) ?_); intro g6 c6 w6 hown6 hb6 hg6)
        exact jC rfl rfl rfl hb6 ⟨g6, c6, rfl, hown6, by omega⟩
      case o13 => intro W hW; rintro _ rfl; change wpList _ _ _ _ _ _; go_wp2; exact j0 rfl rfl rfl
      case o14 => intro W hW; rintro _ rfl; change wpList _ _ _ _ _ _; go_wp2; exact j0 rfl rfl rfl
    case hend =>
      intro W hW; rintro _ rfl; rintro _ rfl; rintro _ rfl; rintro _ rfl; rintro _ rfl; rintro _ rfl; rintro _ rfl; rintro _ rfl; rintro _ rfl; rintro _ rfl; rintro _ rfl; rintro _ ⟨gn, rfl, hbk⟩; rintro _ ⟨g6, c6, rfl, hown6, hg6⟩; rintro _ rfl; rintro _ rfl
      simp only [given, jI, List.set, List.drop]
      have HKw := kp (HT2.out.below hW hgT2)
      have HStw := kp (HSt2.out.below hW (Nat.le_refl _))
      have HBw := kp (HB2.out.trans (hW.mono hBw2))
      have HOw6 := kp hown6
      have hWs := hW.size
      have HGr := kp (jM hW (svV th1.sv).ownBlock)
      have hW2 := HB2.out.size
      clear hW hbk hown6
      go_wp2_with ((with_reducible show Sn); go_must (refine j7 rfl 87 (.tmp 21) (.tmp 19) rfl gT (k * 9) (.slice (some ⟨g6, 0, none⟩) (n + 1) c6) rfl rfl rfl rfl _ _ HKw.out hTlen yB ?_); intro w7 hk7 hg7 hs7; have HFin := kp (HSt2.out.stack (sv := ⟨some ⟨g6, 0, none⟩, n + 1, c6, th1.sv.stack ++ [(a, 0)]⟩) HA.out HT2.out HTh.out HGr.out HOw6.out (.inr (fun b e => by cases e; exact hg6)) hk7 hg7 hs7); have HB7 := kp (HBw.out.grown hg7 (by omega) (fun k e => by cases e; exact hBT)); clear hk7 hg7)
      go_end0
      exact ⟨rfl, _, HFin.out, HGoal.out _ _, HB7.out⟩
theorem zS : (Try.prog.info? 40).map (·.size) = some 1 := by kernel_rfl
theorem OwnR.only {α : Type} {sz : Nat} {f : α → Nat → Value} {w w' : World} {B : Nat} {e : TypeId} {v : Value} {l : List α} {G : Nat → Prop} (h : OwnR sz f w B e v l) (ho : Only G w w') (hg : ∀ b, v.ownBlock = some b → ¬ G b) : OwnR sz f w' B e v l := by
  have hb := h.block
  rcases h.2 with h1 | ⟨g, cap, cur, hv, hB1, hh, rest⟩
  · exact ⟨h.1, .inl h1⟩
  · have e1 : v.ownBlock = some g := by rw [hv]; rfl
    exact ⟨h.1, .inr ⟨g, cap, cur, hv, hB1, by rw [ho.block g (hb g e1).2 (hg g e1)]; exact hh, rest⟩⟩
def Fact.begun (B a K : Nat) : Fact :=
  ⟨fun v W => ∃ g, v = .agg (Value.slice (some ⟨g, 0, none⟩) 1 1 :: zeros 8).toArray ∧ OwnR 2 frV W B 90 (.slice (some ⟨g, 0, none⟩) 1 1) [(a, 0)] ∧ K ≤ g, fun _ _ _ hb ⟨g, h1, h2, h3⟩ => ⟨g, h1, h2.below hb (Nat.le_refl _), h3⟩⟩
def GFact.begun (G : Nat → Prop) (B a K : Nat) : GFact G :=
  ⟨fun v W => ∃ g, v = .agg (Value.slice (some ⟨g, 0, none⟩) 1 1 :: zeros 8).toArray ∧ OwnR 2 frV W B 90 (.slice (some ⟨g, 0, none⟩) 1 1) [(a, 0)] ∧ ¬ G g ∧ K ≤ g, fun _ _ _ ho ⟨g, h1, h2, h3, h4⟩ => ⟨g, h1, h2.only ho (fun b e => by cases e; exact h3), h3, h4⟩⟩
def Fact.thread (B a K : Nat) : Fact :=
  ⟨fun v W => ∃ gn g, v = .slice (some ⟨gn, 0, none⟩) 1 1 ∧ Blk W gn 89 (Value.slice (some ⟨g, 0, none⟩) 1 1 :: zeros 8) ∧ OwnR 2 frV W B 90 (.slice (some ⟨g, 0, none⟩) 1 1) [(a, 0)] ∧ K ≤ g, fun _ _ _ hb ⟨gn, g, h1, h2, h3, h4⟩ => ⟨gn, g, h1, h2.below hb h2.lt, h3.below hb (Nat.le_refl _), h4⟩⟩
def GFact.thread (G : Nat → Prop) (B a K : Nat) : GFact G :=
  ⟨fun v W => ∃ gn g, v = .slice (some ⟨gn, 0, none⟩) 1 1 ∧ Blk W gn 89 (Value.slice (some ⟨g, 0, none⟩) 1 1 :: zeros 8) ∧ ¬ G gn ∧ OwnR 2 frV W B 90 (.slice (some ⟨g, 0, none⟩) 1 1) [(a, 0)] ∧ ¬ G g ∧ K ≤ g, fun _ _ _ ho ⟨gn, g, h1, h2, h3, h4, h5, h6⟩ => ⟨gn, g, h1, ho.blk h2 h3, h3, h4.only ho (fun b e => by cases e; exact h5), h5, h6⟩⟩
def Fact.threads (B a K n : Nat) (l : List Tv) : Fact :=
  ⟨fun v W => ∃ g gV c, v = .slice (some ⟨gV, 0, none⟩) n c ∧ OwnR 9 tvV W B 89 (.slice (some ⟨gV, 0, none⟩) n c) (l ++ [newT a g]) ∧ OwnR 2 frV W B 90 (.slice (some ⟨g, 0, none⟩) 1 1) [(a, 0)] ∧ K ≤ g ∧ K ≤ gV ∧ gV ≠ g, fun _ _ _ hb ⟨g, gV, c, h1, h2, h3, h4⟩ => ⟨g, gV, c, h1, h2.below hb (Nat.le_refl _), h3.below hb (Nat.le_refl _), h4⟩⟩
def Spawned (w3 W : World) (B a gT n cap : Nat) (l : List Tv) : Prop :=
  ∃ g, w3.grownBy W (some gT) ∧ OwnR 9 tvV W B 89 (.slice (some ⟨gT, 0, none⟩) (n + 1) cap) (l ++ [newT a g]) ∧ OwnR 2 frV W B 90 (.slice (some ⟨g, 0, none⟩) 1 1) [(a, 0)] ∧ w3.heap.size ≤ g
def StCf (W : World) (B gN gU : Nat) (c : M.Cf) : Prop := ∃ q3, St W B gN gU q3 ∧ q3.cf = c
set_option maxRecDepth 100000 in
set_option maxHeartbeats 1600000 in
theorem sem_spawn (B gN gU k : Nat) (q : Pc) (x : Nd) (way : Bool) (th : Tv) (w : World) (hst : St w B gN gU q) (hu : Blk w gU 109 (turnC gN k way x)) (hkl : k < q.len) (hth : q.tvs[k]? = some th) (hs0 : 0 < th.sv.len) (hlen16 : th.sv.len ≤ 1000) (h8 : q.len ≤ 8) (nx : Nat) (hnx : x.next = (nx : Int)) (a : Nat) (ha : x.arg = (a : Int)) (al : Nat) (hal : x.alt = (al : Int)) (hal8 : al < 8) (h8s : th.slots.length = 8) (hk5 : x.kind = 5) :
    Calls Try.prog 72 #[.pointer (some ⟨gU, 0, none⟩)] w fun e w' => e = .returned (.tuple #[]) ∧ ∃ q', St w' B gN gU q' ∧ q'.cf = M.act q.cf k x way ∧ Below B w w' := by
  have hst_len : q.len = q.cf.ths.length := by rw [q.ths_len]; exact hst.row.len_is.1.symm
  go_enter Try.func72, Try.ntmps72
  go_wp2_with fail
  refine (qN B gN gU k q x way th w hst hu hkl hth hs0 hlen16 h8 nx hnx).mono ?_
  rintro e w1 ⟨rfl, hst1, hu1, hb1⟩
  have hw1s := hb1.size
  have hth1 : (q.put k (tvGo th nx)).tvs[k]? = some (tvGo th nx) := by
    show (q.tvs.set k (tvGo th nx))[k]? = _
    rw [List.getElem?_set, if_pos rfl, if_pos (List.getElem?_eq_some_iff.1 hth).1]
  have hcf1 : M.th q.cf k = tvT th := Pc.th_of hth
  have HCf := kp (Pc.put_cf q k (tvGo th nx))
  have HCf0 := kp hcf1
  have hs01 : 0 < (tvGo th nx).sv.len := hs0
  have hlen161 : (tvGo th nx).sv.len ≤ 1000 := hlen16
  have hkl1 : k < (q.put k (tvGo th nx)).len := hkl
  have h81 : (q.put k (tvGo th nx)).len ≤ 8 := h8
  have how1 : (q.put k (tvGo th nx)).ow = q.ow := rfl
  have HQlen : Kept ((q.put k (tvGo th nx)).len = q.len) := kp rfl
  have HTvs : Kept ((q.put k (tvGo th nx)).tvs = q.tvs.set k (tvGo th nx)) := kp rfl
  have HTh1 : Kept (tvT (tvGo th nx) = ⟨M.goOn th.sv.stack nx, th.slots⟩) := kp rfl
  obtain ⟨q1, hq1⟩ : ∃ q1, q.put k (tvGo th nx) = q1 := ⟨_, rfl⟩
  obtain ⟨th1, ht1⟩ : ∃ th1, tvGo th nx = th1 := ⟨_, rfl⟩
  rw [ht1] at hq1 hth1 hs01 hlen161 HCf HTh1 HTvs hst1 hkl1 h81 how1 HQlen
  rw [hq1] at hst1 hth1 hkl1 h81 how1 HCf HQlen HTvs
  clear hst hu hq1 ht1 hcf1 hs0 hlen16
  obtain ⟨gT, curT, thx, hA, hbT, hthx, hcT0, hcTj, hTN, hTU, hBT, hsl, hthc, hcTl⟩ := hst1.thread hkl1
  rw [hth1] at hthx
  cases hthx
  obtain ⟨gS, cur, hSA, hbS, hlen, hSN, hSU, hBS, hput⟩ := hst1.goes hth1 hs01
  have hbound := hst1.ok
  have hqc := hbound.lc; have hqm := hbound.cm
  unfold maxLen at hqm
  have HE : Kept (pcC q1 = .slice (some ⟨gT, 0, none⟩) q1.len q1.cap :: q1.ow.map natV) := kp (by unfold pcC; rw [hA])
  have hgN := hst1.conf.lt; have hgU := hu1.lt; have hgT := hbT.lt; have hgS := hbS.lt
  have HSt := kp hst1; have HK := kp hu1; have HT := kp hbT; have HS := kp hbS; have HPut := kp hput
  have hxc := hbound.svs th1 (List.mem_of_getElem? hth1)
  have hxc2 := hxc.lc; have hxm := hxc.cm
  unfold maxLen at hxm
  rw [hSA] at hcT0
  have HC0 := kp hcT0
  have hlow := hst1.low.1
  have hBw : B ≤ w1.heap.size := by omega
  have HLow := kp hst1.low
  obtain ⟨n, hn⟩ : ∃ n, th1.sv.len = n := ⟨_, rfl⟩
  obtain ⟨cp, hcp⟩ : ∃ cp, th1.sv.cap = cp := ⟨_, rfl⟩
  have HThl := kp hn
  rw [hn] at HC0 hs01 hlen161 hxc2 hlen HPut
  rw [hcp] at HC0 hxc2 hxm
  have HA := kp hA; have HTh := kp hth1
  have h81s : th1.slots.length = 8 := by have h2 : th1.slots = th.slots := congrArg M.Th.slots HTh1.out; rw [h2]; exact h8s
  have H8s := kp h81s
  have HLen : Kept ((q1.tvs.set k ⟨th1.sv, th1.slots.set al (q1.len + 1)⟩).length = q1.len) := kp (by rw [List.length_set]; exact hst1.row.len_is.1)
  have HE2 : Kept (pcC (q1.put k ⟨th1.sv, th1.slots.set al (q1.len + 1)⟩) = .slice (some ⟨gT, 0, none⟩) q1.len q1.cap :: q1.ow.map natV) := HE
  have HAdd : Kept (k * 9 + 1 + al = k * 9 + (al + 1)) := kp (by omega)
  have hSlen : k * 9 + 1 + al < curT.length := by omega
  have HGoal : Kept (∀ gV g c, (⟨some ⟨gV, 0, none⟩, q1.len + 1, c, (q1.put k ⟨th1.sv, th1.slots.set al (q1.len + 1)⟩).tvs ++ [newT a g], q1.ow⟩ : Pc).cf = M.act q.cf k x way) := kp (fun gV g c => by
    unfold M.act
    have h1 : th1.sv.stack = M.goOn th.sv.stack nx := congrArg M.Th.stack HTh1.out
    have h2 : th1.slots = th.slots := congrArg M.Th.slots HTh1.out
    have hlq : q1.len = q.cf.ths.length := by rw [HQlen.out, hst_len]
    have e1 : (q1.put k ⟨th1.sv, th1.slots.set al (q1.len + 1)⟩).tvs.map tvT = q.cf.ths.set k ⟨M.goOn th.sv.stack nx, th.slots.set al (q.cf.ths.length + 1)⟩ := by
      have h := congrArg M.Cf.ths (Pc.put_cf q1 k ⟨th1.sv, th1.slots.set al (q1.len + 1)⟩)
      rw [HCf.out] at h
      have h5 : ((q1.put k ⟨th1.sv, th1.slots.set al (q1.len + 1)⟩).cf.ths) = ((q.cf.ths.set k (tvT th1)).set k (tvT ⟨th1.sv, th1.slots.set al (q1.len + 1)⟩)) := h
      rw [List.set_set] at h5
      refine Eq.trans h5 ?_
      show q.cf.ths.set k ⟨th1.sv.stack, th1.slots.set al (q1.len + 1)⟩ = _
      rw [h1, h2, hlq]
    rw [if_neg (show ¬ x.kind = 9 by omega), if_neg (show ¬ x.kind = 3 by omega), if_neg (show ¬ x.kind = 4 by omega), if_pos hk5, HCf0.out, hnx, ha, hal, Int.toNat_natCast, Int.toNat_natCast, Int.toNat_natCast]
    show (⟨((q1.put k ⟨th1.sv, th1.slots.set al (q1.len + 1)⟩).tvs ++ [newT a g]).map tvT, q1.ow⟩ : M.Cf) = _
    rw [List.map_append, e1, how1]
    rfl)
  have hu0 := HK.out.cell 0
  simp only [turnC, List.getElem?_cons_zero] at hu0
  clear hst1 hu1 hth1 hput hbT hbS hcT0 hcTj hthc hcTl hsl hbound hxc hn hcp hSA hA
  go_wp2
  clear hu0
  apply jD 16 (.is _ :: .is _ :: .is _ :: .is _ :: .is _ :: .is _ :: .is _ :: .is _ :: .is _ :: .is _ :: .is _ :: .is _ :: .is _ :: .is _ :: .is _ :: .is _ :: [])
    [[], [(0, 9)], [], [(2, 11)], [(3, 12)], [(4, 13)], [(5, 14)], [], [(7, 16)], [(8, 17)], [(9, 18)], [(10, 19)], [(11, 20)], [(1, 10)], [(13, 22)], [(14, 23), (6, 15)], [(15, 24), (12, 21)]]
    [(0, 9), (1, 10), (2, 11), (3, 12), (4, 13), (5, 14), (6, 15), (7, 16), (8, 17), (9, 18), (10, 19), (11, 20), (12, 21), (13, 22), (14, 23), (15, 24)] (by kernel_rfl) (by kernel_rfl) (by kernel_rfl) (by kernel_rfl) (by kernel_rfl)
  case hob =>
    refine ⟨?o0, ?o1, ?o2, ?o3, ?o4, ?o5, ?o6, ?o7, ?o8, ?o9, ?o10, ?o11, ?o12, ?o13, ?o14, ?o15, trivial⟩
    case o0 => intro W hW; change wpList _ _ _ _ _ _; go_wp2; exact j0 rfl rfl rfl
    case o1 =>
      intro W hW; rintro _ rfl; change wpList _ _ _ _ _ _
      have hCu := (HK.out.below hW hgU)
      have hCn := ((HSt.out.conf.below hW hgN).cell 0)
      rw [HE.out, List.getElem?_cons_zero] at hCn
      have HC := kp (xC gU gN gT k q1.len q1.cap way x W hCu hCn hkl1)
      clear hCu hCn
      go_wp2_with fail
      refine (HC.out).mono ?_
      rintro e w2 ⟨rfl, m, rfl⟩
      go_wp2
      exact jC rfl rfl rfl (jE (Below.refl _ _) m) rfl
    case o2 => intro W hW; change wpList _ _ _ _ _ _; go_wp2; exact j0 rfl rfl rfl
    case o3 => intro W hW; rintro _ rfl; change wpList _ _ _ _ _ _; go_wp2; exact j0 rfl rfl rfl
    case o4 => intro W hW; rintro _ rfl; change wpList _ _ _ _ _ _; go_wp2; exact j0 rfl rfl rfl
    case o5 => intro W hW; rintro _ rfl; change wpList _ _ _ _ _ _; go_wp2; exact j0 rfl rfl rfl
    case o6 =>
      intro W hW; rintro _ rfl; change wpList _ _ _ _ _ _
      have hc := (HK.out.below hW hgU).cell 6
      simp only [turnC, List.getElem?_cons_zero, List.getElem?_cons_succ] at hc
      rw [hal] at hc
      go_wp2; exact j0 rfl rfl rfl
    case o7 => intro W hW; change wpList _ _ _ _ _ _; go_wp2; exact j0 rfl rfl rfl
    case o8 => intro W hW; rintro _ rfl; change wpList _ _ _ _ _ _; go_wp2; exact j0 rfl rfl rfl
    case o9 => intro W hW; rintro _ rfl; change wpList _ _ _ _ _ _; go_wp2; exact j0 rfl rfl rfl
    case o10 =>
      intro W hW; rintro _ rfl; change wpList _ _ _ _ _ _
      have hc := (HSt.out.conf.below hW hgN).cell 0
      rw [HE.out, List.getElem?_cons_zero] at hc
      go_wp2; exact j0 rfl rfl rfl
    case o11 => intro W hW; rintro _ rfl; change wpList _ _ _ _ _ _; go_wp2; exact j0 rfl rfl rfl
    case o12 =>
      intro W hW; rintro _ rfl; change wpList _ _ _ _ _ _
      go_wp2_with fail
      refine (sem_mark q1.len (by omega) W).mono ?_
      rintro e w2 ⟨rfl, rfl⟩
      go_wp2
      exact j0 rfl rfl rfl
    case o13 => intro W hW; rintro _ rfl; change wpList _ _ _ _ _ _; go_wp2; exact j0 rfl rfl rfl
    case o14 => intro W hW; rintro _ rfl; change wpList _ _ _ _ _ _; go_wp2; exact j0 rfl rfl rfl
    case o15 => intro W hW; rintro _ rfl; rintro _ rfl; change wpList _ _ _ _ _ _; go_wp2; exact j0 rfl rfl rfl
  case hend =>
    intro W hW; rintro _ rfl; rintro _ rfl; rintro _ rfl; rintro _ rfl; rintro _ rfl; rintro _ rfl; rintro _ rfl; rintro _ rfl; rintro _ rfl; rintro _ rfl; rintro _ rfl; rintro _ rfl; rintro _ rfl; rintro _ rfl; rintro _ rfl; rintro _ rfl
    simp only [given, jI, List.set, List.drop]
    have HKw := kp (HT.out.below hW hgT)
    have HStw := kp (HSt.out.below hW (Nat.le_refl _))
    have HBw := kp (hb1.trans (hW.mono hBw))
    have HKu := kp (HK.out.below hW hgU)
    have hWs := hW.size
    clear hW
    go_wp2_with (first
      | ((with_reducible show Sn); go_must (refine j7 rfl 3 (.tmp 24) (.tmp 21) rfl gT (k * 9 + 1 + al) (.int .i64 ((q1.len + 1 : Nat) : Int)) rfl rfl rfl rfl _ _ HKw.out hSlen l5 ?_); intro w3 hk3 hg3 hs3
         rw [HAdd.out] at hk3
         have HSt3 := kp (HStw.out.slot HA.out HKw.out HTh.out H8s.out hal8 hk3 hg3 hs3)
         have HK3 := kp (HKu.out.grown hg3 (fun e => hTU (by cases e; rfl)))
         have HB3 := kp (HBw.out.grown hg3 (by omega) (fun k e => by cases e; exact hBT)); have hs31 : w1.heap.size ≤ w3.heap.size := by omega
         clear hk3 hg3 hs3))
    have hBw3 : B ≤ w3.heap.size := by omega
    have hgU3 := HK3.out.lt; have hgN3 := HSt3.out.conf.lt
    have HCn3 : Kept (w3.cell? ⟨gN, 0, none⟩ = some (.slice (some ⟨gT, 0, none⟩) q1.len q1.cap)) := kp (by have h := HSt3.out.conf.cell 0; rw [HE2.out, List.getElem?_cons_zero] at h; exact h)
    simp only [y9]
    by_cases hroom : q1.len + 1 ≤ q1.cap
    · have hx1 := hroom
      apply lU (fun k => k = gT ∨ k = gN) [12, 15] [1, 2, 3, 4, 5, 6, 7, 8, 9, 10, 11] (phs ([fun W => Below w3.heap.size w3 W, fun W => Spawned w3 W B a gT q1.len q1.cap (q1.tvs.set k ⟨th1.sv, th1.slots.set al (q1.len + 1)⟩), fun W => StCf W B gN gU (M.act q.cf k x way)] : List (World → Prop))) (.is _ :: .is _ :: .is _ :: .is _ :: .is _ :: .is _ :: .is _ :: .is _ :: .is _ :: .is _ :: GFact.begun _ B a w3.heap.size :: GFact.thread _ B a w3.heap.size :: .is _ :: .is _ :: .is _ :: .any _ :: [])
        [[], [], [(1, 26)], [(2, 27)], [(3, 28)], [], [(5, 30)], [(6, 31)], [(7, 32)], [(8, 33)], [(9, 34)], [(10, 35)], [(4, 29), (11, 36)], [(0, 25)], [(13, 38)], [(14, 39), (12, 37)]]
        [(0, 25), (1, 26), (2, 27), (3, 28), (4, 29), (5, 30), (6, 31), (7, 32), (8, 33), (9, 34), (10, 35), (11, 36), (12, 37), (13, 38), (14, 39)] (by kernel_rfl) (by kernel_rfl) (by kernel_rfl) (by kernel_rfl) (by decide)
      case h0 => exact (⟨rfl, rfl, rfl, Nat.le_refl _, fun _ _ => rfl⟩ : Below w3.heap.size w3 w3.drew)
      case hob =>
        refine lA rfl rfl ?o0 (j9 rfl rfl ?o1 (j9 rfl rfl ?o2 (j9 rfl rfl ?o3 (j9 rfl rfl ?o4 (j9 rfl rfl ?o5 (j9 rfl rfl ?o6 (j9 rfl rfl ?o7 (j9 rfl rfl ?o8 (j9 rfl rfl ?o9 (j9 rfl rfl ?o10 (j9 rfl rfl ?o11 (lL 0 rfl rfl ?o12 (lA rfl rfl ?o13 (lA rfl rfl ?o14 (lL 1 rfl rfl ?o15 (xI))))))))))))))))
        case o0 => intro p W hO hJ; change wpList _ _ _ _ _ _; go_wp2; exact jA rfl rfl rfl hJ
        case o1 => intro W hO hJ; change wpList _ _ _ _ _ _; go_wp2; exact jA rfl rfl rfl hJ
        case o2 => intro W hO hJ; rintro _ rfl; change wpList _ _ _ _ _ _; go_wp2; exact jA rfl rfl rfl hJ
        case o3 => intro W hO hJ; rintro _ rfl; change wpList _ _ _ _ _ _; go_wp2; exact jA rfl rfl rfl hJ
        case o4 =>
          intro W hO hJ; rintro _ rfl; change wpList _ _ _ _ _ _
          have hb : Below w3.heap.size w3 W := hJ
          have hc := (hb.cell (p := ⟨gN, 0, none⟩) hgN3).trans HCn3.out
          clear hb
          go_wp2; exact jA rfl rfl rfl hJ
        case o5 => intro W hO hJ; change wpList _ _ _ _ _ _; go_wp2; exact jA rfl rfl rfl hJ
        case o6 => intro W hO hJ; rintro _ rfl; change wpList _ _ _ _ _ _; go_wp2; exact jA rfl rfl rfl hJ
        case o7 => intro W hO hJ; rintro _ rfl; change wpList _ _ _ _ _ _; go_wp2; exact jA rfl rfl rfl hJ
        case o8 => intro W hO hJ; rintro _ rfl; change wpList _ _ _ _ _ _; go_wp2; exact jA rfl rfl rfl hJ
        case o9 =>
          intro W hO hJ; rintro _ rfl; change wpList _ _ _ _ _ _
          have hb : Below w3.heap.size w3 W := hJ
          have hc := (HK3.out.below hb hgU3).cell 4
          simp only [turnC, List.getElem?_cons_zero, List.getElem?_cons_succ] at hc
          rw [ha] at hc
          clear hb
          go_wp2; exact jA rfl rfl rfl hJ
        case o10 =>
          intro W hO hJ; rintro _ rfl; change wpList _ _ _ _ _ _
          have hb : Below w3.heap.size w3 W := hJ
          have HBw := kp hb
          have hbs := hb.size
          clear hJ hb hO
          go_wp2_with fail
          refine (vN a W).mono ?_
          rintro e w5 ⟨g5, rfl, hown5, hg5, hb5⟩
          have HOw5 := kp (hown5.less (B' := B) (by omega)); have HB5 := kp hb5; have hl5 := (hown5.block g5 rfl).2
          clear hown5 hb5
          go_wp2
          exact l9 rfl rfl rfl (Only.of_below HB5.out) (HBw.out.trans (HB5.out.mono hbs)) ⟨g5, rfl, HOw5.out, by omega, by omega⟩
        case o11 =>
          intro W hO hJ; rintro _ ⟨g5, rfl, hown5, hng5, hgk5⟩; change wpList _ _ _ _ _ _
          have hb : Below w3.heap.size w3 W := hJ
          have HBw := kp hb; have HOw5 := kp hown5; have hl5 := (hown5.block g5 rfl).2
          have hbs := hb.size
          clear hJ hb hO hown5
          go_wp2_with ((with_reducible show Sl 36); go_must (refine jF rfl 40 89 (.tmp 35) rfl 9 Try.underlying40 zK (by omega) (by omega) _ (Value.slice (some ⟨g5, 0, none⟩) 1 1 :: zeros 8) rfl rfl rfl ?_); intro g6 w6 hg6 hk6 hb6; have HK6 := kp hk6; have HB6 := kp hb6; clear hk6 hb6)
          exact l9 rfl rfl rfl (Only.of_below HB6.out) (HBw.out.trans (HB6.out.mono hbs)) ⟨g6, g5, rfl, HK6.out, by omega, HOw5.out.below HB6.out (Nat.le_refl _), hng5, hgk5⟩
        case o12 =>
          intro W hO hJ; rintro _ rfl; rintro _ ⟨gn, g5, rfl, hbk, hng, hown5, hng5, hgk5⟩; change wpList _ _ _ _ _ _
          have hb : Below w3.heap.size w3 W := hJ
          have HBw := kp hb; have HBk := kp hbk; have HOw5 := kp hown5
          have HOw := kp (HSt3.out.below hb (Nat.le_refl _)).row
          have hOw : OwnR 9 tvV W B 89 (.slice (some ⟨gT, 0, none⟩) q1.len q1.cap) (q1.tvs.set k ⟨th1.sv, th1.slots.set al (q1.len + 1)⟩) := by have h := HOw.out; rw [show (q1.put k ⟨th1.sv, th1.slots.set al (q1.len + 1)⟩).A = some ⟨gT, 0, none⟩ from HA.out] at h; exact h
          clear hJ hO hb hbk hown5
          go_wp2_with (at_builtin; go_must (refine jX rfl (.tmp 29) (.tmp 36) 40 rfl B 89 9 _ 88 Try.underlying40 yJ rfl (by omega) tvV tvV_one gT q1.cap q1.len _ HLen.out (newT a g5) rfl hOw hroom gn 1 rfl HBk.out (by omega) ?_); intro w6 hown6 hgr6)
          exact l9 rfl rfl rfl (Only.of_grown hgr6 (.inl rfl)) ⟨g5, l2 (jM HBw.out _) hgr6, hown6, HOw5.out.far hgr6 (.inr (fun e => hng5 (.inl (by cases e; rfl)))), hgk5⟩ rfl
        case o13 => intro p W hO hJ; rintro _ rfl; change wpList _ _ _ _ _ _; go_wp2; exact jA rfl rfl rfl hJ
        case o14 => intro p W hO hJ; rintro _ rfl; change wpList _ _ _ _ _ _; go_wp2; exact jA rfl rfl rfl hJ
        case o15 =>
          intro W hO hJ; rintro _ rfl; rintro _ rfl; change wpList _ _ _ _ _ _
          have hJ1 : ∃ g, w3.grownBy W (some gT) ∧ OwnR 9 tvV W B 89 (.slice (some ⟨gT, 0, none⟩) (q1.len + 1) q1.cap) ((q1.tvs.set k ⟨th1.sv, th1.slots.set al (q1.len + 1)⟩) ++ [newT a g]) ∧ OwnR 2 frV W B 90 (.slice (some ⟨g, 0, none⟩) 1 1) [(a, 0)] ∧ w3.heap.size ≤ g := hJ
          obtain ⟨g, hg0, hrow0, hown0, hgk⟩ := hJ1
          have HKw := kp (HSt3.out.conf.grown hg0 (fun e => hTN (by cases e; rfl)))
          have HG0 := kp hg0; have HRow0 := kp hrow0; have HOw0 := kp hown0
          clear hJ hO hg0 hrow0 hown0
          go_wp2_with ((with_reducible show Sn); go_must (refine j7 rfl 40 (.tmp 39) (.tmp 37) rfl gN 0 (.slice (some ⟨gT, 0, none⟩) (q1.len + 1) q1.cap) rfl rfl rfl rfl _ _ HKw.out (by rw [HE2.out]; simp) zS ?_); intro w7 hk7 hg7 hs7; have HFin := kp (HSt3.out.push HA.out HG0.out HRow0.out (.inl rfl) HOw0.out hgk hk7 hg7 hs7); have HOn := kp (Only.of_grown (G := fun k => k = gT ∨ k = gN) hg7 (.inr rfl)); clear hk7 hg7)
          exact qU rfl HOn.out ⟨_, HFin.out, HGoal.out _ _ _⟩
      case hend =>
        intro W hO hJ; rintro _ rfl; rintro _ rfl; rintro _ rfl; rintro _ rfl; rintro _ rfl; rintro _ rfl; rintro _ rfl; rintro _ rfl; rintro _ rfl; rintro _ rfl; rintro _ ⟨g5, rfl, hown5, hng5, hgk5⟩; rintro _ ⟨gn, g5b, rfl, hbk, hng, hown5b, hng5b, hgk5b⟩; rintro _ rfl; rintro _ rfl; rintro _ rfl
        simp only [ggiven, jI, List.set]
        have hJ2 : ∃ q3, St W B gN gU q3 ∧ q3.cf = M.act q.cf k x way := hJ
        obtain ⟨q3, h3, h4⟩ := hJ2
        have HFin := kp h3; have HCf3 := kp h4
        have HBe := kp (HB3.out.trans (hO.below (B := B) hBw3 (fun k hk => by rcases hk with rfl | rfl <;> omega)))
        clear hJ hO hbk hown5 hown5b h3 h4
        go_wp2
        go_end0
        exact ⟨rfl, _, HFin.out, HCf3.out, HBe.out⟩
    · have HFull : Kept (q1.cap = q1.len) := kp (by omega)
      clear hroom
      apply jD 15 (.is _ :: .is _ :: .is _ :: .is _ :: .is _ :: .is _ :: .is _ :: .is _ :: .is _ :: .is _ :: Fact.begun B a w3.heap.size :: Fact.thread B a w3.heap.size :: Fact.threads B a w3.heap.size (q1.len + 1) (q1.tvs.set k ⟨th1.sv, th1.slots.set al (q1.len + 1)⟩) :: .is _ :: .is _ :: [])
        [[], [], [(1, 26)], [(2, 27)], [(3, 28)], [], [(5, 30)], [(6, 31)], [(7, 32)], [(8, 33)], [(9, 34)], [(10, 35)], [(4, 29), (11, 36)], [(0, 25)], [(13, 38)], [(14, 39), (12, 37)]]
        [(0, 25), (1, 26), (2, 27), (3, 28), (4, 29), (5, 30), (6, 31), (7, 32), (8, 33), (9, 34), (10, 35), (11, 36), (12, 37), (13, 38), (14, 39)] (by kernel_rfl) (by kernel_rfl) (by kernel_rfl) (by kernel_rfl) (by kernel_rfl)
      case hob =>
        refine ⟨?o0, ?o1, ?o2, ?o3, ?o4, ?o5, ?o6, ?o7, ?o8, ?o9, ?o10, ?o11, ?o12, ?o13, ?o14, trivial⟩
        case o0 => intro W hW; change wpList _ _ _ _ _ _; go_wp2; exact j0 rfl rfl rfl
        case o1 => intro W hW; change wpList _ _ _ _ _ _; go_wp2; exact j0 rfl rfl rfl
        case o2 => intro W hW; rintro _ rfl; change wpList _ _ _ _ _ _; go_wp2; exact j0 rfl rfl rfl
        case o3 => intro W hW; rintro _ rfl; change wpList _ _ _ _ _ _; go_wp2; exact j0 rfl rfl rfl
        case o4 =>
          intro W hW; rintro _ rfl; change wpList _ _ _ _ _ _
          have hc := (hW.cell (p := ⟨gN, 0, none⟩) hgN3).trans HCn3.out
          go_wp2; exact j0 rfl rfl rfl
        case o5 => intro W hW; change wpList _ _ _ _ _ _; go_wp2; exact j0 rfl rfl rfl
        case o6 => intro W hW; rintro _ rfl; change wpList _ _ _ _ _ _; go_wp2; exact j0 rfl rfl rfl
        case o7 => intro W hW; rintro _ rfl; change wpList _ _ _ _ _ _; go_wp2; exact j0 rfl rfl rfl
        case o8 => intro W hW; rintro _ rfl; change wpList _ _ _ _ _ _; go_wp2; exact j0 rfl rfl rfl
        case o9 =>
          intro W hW; rintro _ rfl; change wpList _ _ _ _ _ _
          have hc := (HK3.out.below hW hgU3).cell 4
          simp only [turnC, List.getElem?_cons_zero, List.getElem?_cons_succ] at hc
          rw [ha] at hc
          go_wp2; exact j0 rfl rfl rfl
        case o10 =>
          intro W hW; rintro _ rfl; change wpList _ _ _ _ _ _
          have hbs := hW.size
          clear hW
          go_wp2_with fail
          refine (vN a W).mono ?_
          rintro e w5 ⟨g5, rfl, hown5, hg5, hb5⟩
          have HOw5 := kp (hown5.less (B' := B) (by omega)); have HB5 := kp hb5; have hl5 := (hown5.block g5 rfl).2
          clear hown5 hb5
          go_wp2
          exact jC rfl rfl rfl HB5.out ⟨g5, rfl, HOw5.out, by omega⟩
        case o11 =>
          intro W hW; rintro _ ⟨g5, rfl, hown5, hgk5⟩; change wpList _ _ _ _ _ _
          have HOw5 := kp hown5; have hl5 := (hown5.block g5 rfl).2
          clear hW hown5
          go_wp2_with ((with_reducible show Sl 36); go_must (refine jF rfl 40 89 (.tmp 35) rfl 9 Try.underlying40 zK (by omega) (by omega) _ (Value.slice (some ⟨g5, 0, none⟩) 1 1 :: zeros 8) rfl rfl rfl ?_); intro g6 w6 hg6 hk6 hb6; have HK6 := kp hk6; have HB6 := kp hb6; clear hk6 hb6)
          exact jC rfl rfl rfl HB6.out ⟨g6, g5, rfl, HK6.out, HOw5.out.below HB6.out (Nat.le_refl _), hgk5⟩
        case o12 =>
          intro W hW; rintro _ rfl; rintro _ ⟨gn, g5, rfl, hbk, hown5, hgk5⟩; change wpList _ _ _ _ _ _
          have HBk := kp hbk; have HOw5 := kp hown5; have hl5 := (hown5.block g5 rfl).2
          have HOw := kp (HSt3.out.below hW (Nat.le_refl _)).row
          have hOw : OwnR 9 tvV W B 89 (.slice (some ⟨gT, 0, none⟩) q1.len q1.cap) (q1.tvs.set k ⟨th1.sv, th1.slots.set al (q1.len + 1)⟩) := by have h := HOw.out; rw [show (q1.put k ⟨th1.sv, th1.slots.set al (q1.len + 1)⟩).A = some ⟨gT, 0, none⟩ from HA.out] at h; exact h
          have hWs := hW.size
          clear hW hbk hown5
          go_wp2_with (at_builtin; go_must (refine qW rfl (.tmp 29) (.tmp 36) 40 rfl B 89 9 _ 88 Try.underlying40 yJ rfl (by omega) tvV tvV_one gT q1.cap q1.len _ HLen.out (newT a g5) rfl hOw HFull.out gn 1 rfl HBk.out (by unfold maxLen; omega) (by omega) (by omega) ?_); intro g6 c6 w6 hown6 hb6 hg6)
          exact jC rfl rfl rfl hb6 ⟨g5, g6, c6, rfl, hown6, HOw5.out.below hb6 (Nat.le_refl _), hgk5, by omega, by omega⟩
        case o13 => intro W hW; rintro _ rfl; change wpList _ _ _ _ _ _; go_wp2; exact j0 rfl rfl rfl
        case o14 => intro W hW; rintro _ rfl; change wpList _ _ _ _ _ _; go_wp2; exact j0 rfl rfl rfl
      case hend =>
        intro W hW; rintro _ rfl; rintro _ rfl; rintro _ rfl; rintro _ rfl; rintro _ rfl; rintro _ rfl; rintro _ rfl; rintro _ rfl; rintro _ rfl; rintro _ rfl; rintro _ ⟨g5, rfl, hown5, hgk5⟩; rintro _ ⟨gn, g5b, rfl, hbk, hown5b, hgk5b⟩; rintro _ ⟨g5c, g6, c6, rfl, hrow6, hown6, hgk6, hg6, hne6⟩; rintro _ rfl; rintro _ rfl
        simp only [given, jI, List.set, List.drop]
        have HKw := kp (HSt3.out.conf.below hW hgN3)
        have HBw := kp (HB3.out.trans (hW.mono hBw3))
        have HRow6 := kp hrow6; have HOw6 := kp hown6
        have hWs := hW.size
        have HGr := kp (jM hW (some gT))
        clear hW hbk hown5 hown5b hown6 hrow6
        go_wp2_with ((with_reducible show Sn); go_must (refine j7 rfl 40 (.tmp 39) (.tmp 37) rfl gN 0 (.slice (some ⟨g6, 0, none⟩) (q1.len + 1) c6) rfl rfl rfl rfl _ _ HKw.out (by rw [HE2.out]; simp) zS ?_); intro w7 hk7 hg7 hs7; have HFin := kp (HSt3.out.push HA.out HGr.out HRow6.out (.inr ⟨hg6, hne6⟩) HOw6.out hgk6 hk7 hg7 hs7); have HB7 := kp (HBw.out.grown hg7 (by omega) (fun k e => by cases e; exact hlow)); clear hk7 hg7)
        go_end0
        exact ⟨rfl, _, HFin.out, HGoal.out _ _ _, HB7.out⟩
end Go.Proofs.Ytkhfolpffjihgaa
