/- SemSt, SemBuild, TextStep, SemPush. -/
import Derived.Test.YtcbfghcdbmlneaaPk8
import Derived.Test.YtcbfghcdbmlneaaPk4
import Derived.Maps.AppendAt
import Derived.Test.YtcbfghcdbmlneaaPk9
namespace Go.Proofs.Ytcbfghcdbmlneaa
open Go.RowKit
theorem OwnR.congr {α : Type} {sz : Nat} {f : α → Nat → Value} {w : World} {B : Nat} {e : TypeId} {v : Value} {l l' : List α} (h : OwnR sz f w B e v l) (hl : l'.length = l.length) (hc : cellsR sz f l' = cellsR sz f l) : OwnR sz f w B e v l':=by
  unfold OwnR
  rw [hl,hc];exact h
theorem LB {α : Type} {sz : Nat} {f : α → Nat → Value} {x x' : α} {l : List α} {k : Nat} (hx : l[k]? = some x) (hf : f x' = f x) : cellsR sz f (l.set k x') = cellsR sz f l:=by
  unfold cellsR
  rw [List.flatMap_def,List.flatMap_def,List.map_set,hf]
  congr 1
  apply List.ext_getElem?
  intro i
  rw [List.getElem?_set]
  by_cases e : k = i
  · subst e
    have hk : k < l.length:=(List.getElem?_eq_some_iff.1 hx).1
    rw [if_pos rfl,List.getElem?_map,hx,if_pos (by simpa using hk)];rfl
  · rw [if_neg e]
def Pc.put (q : Pc) (k : Nat) (x : Tv) : Pc:=⟨q.A,q.len,q.cap,q.tvs.set k x,q.ow⟩
theorem Pc.put_cf (q : Pc) (k : Nat) (x : Tv) : (q.put k x).cf = ⟨q.cf.ths.set k (tvT x),q.ow⟩:=by unfold Pc.put Pc.cf;simp [List.map_set]
def tvGo (x : Tv) (n : Nat) : Tv:=⟨⟨x.sv.A,x.sv.len,x.sv.cap,M.goOn x.sv.stack n⟩,x.slots⟩
theorem frV_go {f : Nat × Nat} {n : Nat} : ∀ i,i < 2 → frV (f.1,n) i = if i = 1 then .int .i64 (n : Int) else frV f i:=by
  intro i hi
  match i,hi with
  | 0,_ => rfl
  | 1,_ => rfl
theorem St.goes {w : World} {B gN gU k : Nat} {q : Pc} {x : Tv} (h : St w B gN gU q) (hx : q.tvs[k]? = some x) (h0 : 0 < x.sv.len) :
    ∃ gS cur,x.sv.A = some ⟨gS,0,none⟩ ∧ Blk w gS 175 cur ∧ (x.sv.len - 1) * 2 + 1 < cur.length ∧ gS ≠ gN ∧ gS ≠ gU ∧ B ≤ gS ∧
      ∀ W w' n,Below w.heap.size w W → Blk w' gS 175 (cur.set ((x.sv.len - 1) * 2 + 1) (.int .i64 ((n : Nat) : Int))) → W.grownBy w' (some gS) → w'.heap.size = W.heap.size → St w' B gN gU (q.put k (tvGo x n)):=by
  have hxs : (q.tvs.map (·.sv))[k]? = some x.sv:=by rw [List.getElem?_map,hx];rfl
  have ho:=h.fam.own k _ hxs
  obtain ⟨gS,cur,hA,hb,hs,ht,hB,hn,hm,hl⟩:=ho.blk h0
  have hbk : (svV x.sv).ownBlock = some gS:=by unfold svV;rw [hA];rfl
  have hout:=h.fam.out k _ gS hxs hbk
  have hlen : (x.sv.len - 1) * 2 + 1 < cur.length:=by rw [hs];omega
  have hgl:=hb.lt
  refine ⟨gS,cur,hA,hb,hlen,fun e => hout (.inl e),fun e => hout (.inr (.inl e)),hB,fun W w' n hW hb' hg hz => ?_⟩
  replace hb:=hb.below hW hgl
  replace h:=h.below hW (Nat.le_refl _)
  replace ho:=h.fam.own k _ hxs
  have htop : x.sv.stack[x.sv.len - 1]? = some (M.top x.sv.stack):=by rw [← hl];exact M.top_at (by omega)
  have hown : OwnR 2 frV w' B 175 (svV (tvGo x n).sv) (tvGo x n).sv.stack:=by
    have hv : svV (tvGo x n).sv = .slice (some ⟨gS,0,none⟩) x.sv.len x.sv.cap:=by unfold svV tvGo;simp only;rw [hA]
    have hst : (tvGo x n).sv.stack = x.sv.stack.set (x.sv.len - 1) ((M.top x.sv.stack).1,n):=by unfold tvGo M.goOn;simp only;rw [hl]
    rw [hv,hst]
    have ho2:=ho
    unfold svV at ho2
    rw [hA] at ho2
    exact ho2.set htop (by omega) frV_go hb rfl hb'
  have hown' : (svV (tvGo x n).sv).ownBlock = (svV x.sv).ownBlock:=rfl
  refine ⟨h.conf.grown hg (fun e => hout (.inl (by cases e;rfl))),?_,?_,h.ne,h.low.1,by rw [hz];exact h.low.2⟩
  · refine (h.row.far hg ?_).congr (by unfold Pc.put;simp) (LB hx ?_)
    · cases hv : (Value.slice q.A q.len q.cap).ownBlock with
      | none => exact .inl rfl
      | some b => exact .inr fun e => hout (.inr (.inr (by cases e;exact hv)))
    · funext j
      cases j <;> rfl
  · have e : (q.put k (tvGo x n)).tvs.map (·.sv) = (q.tvs.map (·.sv)).set k (tvGo x n).sv:=by unfold Pc.put;rw [List.map_set]
    rw [e]
    refine h.fam.set hxs (by rw [hbk];exact hg) hown (.inl hown') fun b hb2 => ?_
    rcases hb2 with rfl | rfl | hb2
    · exact h.conf.lt
    · exact h.low.2
    · exact (h.row.block b hb2).2
def Pc.own (q : Pc) (a o : Nat) : Pc:=⟨q.A,q.len,q.cap,q.tvs,q.ow.set a o⟩
theorem St.owns {w w' : World} {B gN gU a o : Nat} {q : Pc} (h : St w B gN gU q) (hb : Blk w' gN 91 ((pcC q).set (1 + a) (.int .i64 (o : Int)))) (hg : w.grownBy w' (some gN)) (hz : w'.heap.size = w.heap.size) : St w' B gN gU (q.own a o):=by
  refine ⟨?_,?_,?_,h.ne,h.low.1,by rw [hz];exact h.low.2⟩
  · have e : pcC (q.own a o) = (pcC q).set (1 + a) (.int .i64 (o : Int)):=by
      unfold pcC Pc.own
      rw [show 1 + a = a + 1 by omega,List.set_cons_succ,List.map_set];rfl
    rw [e];exact hb
  · refine h.row.far hg ?_
    cases hv : (Value.slice q.A q.len q.cap).ownBlock with
    | none => exact .inl rfl
    | some b => exact .inr fun e => (h.ne b hv).1 (by cases e;rfl)
  · exact h.fam.turn hg fun b e => .inl (by cases e;rfl)
theorem St.field {w w' : World} {B gN gU k gT : Nat} {q : Pc} {x x' : Tv} {cur : List Value} {j : Nat} {v : Value} (hconf : Blk w gN 91 (pcC q)) (hrow : OwnR 9 tvV w B 155 (.slice q.A q.len q.cap) q.tvs)
    (hne : ∀ b,(Value.slice q.A q.len q.cap).ownBlock = some b → b ≠ gN ∧ b ≠ gU) (hlow : B ≤ gN ∧ gU < w.heap.size) (hA : q.A = some ⟨gT,0,none⟩) (hc : Blk w gT 155 cur) (hx : q.tvs[k]? = some x) (hj : j < 9)
    (hf : ∀ i,i < 9 → tvV x' i = if i = j then v else tvV x i) (hb : Blk w' gT 155 (cur.set (k * 9 + j) v)) (hg : w.grownBy w' (some gT)) (hz : w'.heap.size = w.heap.size)
    (hfam : Fam 175 w B (fun b => b = gN ∨ b = gU ∨ (Value.slice q.A q.len q.cap).ownBlock = some b) ((q.tvs.map (·.sv)).set k x'.sv)) : St w' B gN gU (q.put k x'):=by
  have hbk : (Value.slice q.A q.len q.cap).ownBlock = some gT:=by rw [hA];rfl
  refine ⟨hconf.grown hg (fun e => (hne gT hbk).1 (by cases e;rfl)),?_,?_,hne,hlow.1,by rw [hz];exact hlow.2⟩
  · have hr:=hrow
    show OwnR 9 tvV w' B _ (.slice q.A q.len q.cap) (q.tvs.set k x')
    rw [hA] at hr ⊢
    exact hr.set hx hj hf hc rfl hb
  · have e : (q.put k x').tvs.map (·.sv) = (q.tvs.map (·.sv)).set k x'.sv:=by unfold Pc.put;rw [List.map_set]
    rw [e]
    exact hfam.turn hg fun b eb => .inr (.inr (by cases eb;exact hbk))
theorem fam_same {e : TypeId} {w : World} {B : Nat} {S : Nat → Prop} {l : List Sv} {k : Nat} {x : Sv} (h : Fam e w B S l) (hx : l[k]? = some x) : Fam e w B S (l.set k x):=by
  have es : l.set k x = l:=by
    apply List.ext_getElem?
    intro i
    rw [List.getElem?_set]
    by_cases e1 : k = i
    · subst e1
      rw [if_pos rfl,if_pos (List.getElem?_eq_some_iff.1 hx).1,hx]
    · rw [if_neg e1]
  rw [es];exact h
theorem St.slot {w w' : World} {B gN gU k gT j o : Nat} {q : Pc} {x : Tv} {cur : List Value} (h : St w B gN gU q) (hA : q.A = some ⟨gT,0,none⟩) (hc : Blk w gT 155 cur) (hx : q.tvs[k]? = some x) (h8 : x.slots.length = 8) (hj : j < 8)
    (hb : Blk w' gT 155 (cur.set (k * 9 + (j + 1)) (.int .i64 (o : Int)))) (hg : w.grownBy w' (some gT)) (hz : w'.heap.size = w.heap.size) : St w' B gN gU (q.put k ⟨x.sv,x.slots.set j o⟩):=by
  refine St.field (x':=⟨x.sv,x.slots.set j o⟩) h.conf h.row h.ne h.low hA hc hx (j:=j + 1) (by omega) (fun i hi => ?_) hb hg hz (fam_same h.fam (by rw [List.getElem?_map,hx];rfl))
  match i,hi with
  | 0,_ => rfl
  | i + 1,hi =>
    show Value.int .i64 (((x.slots.set j o).getD i 0 : Nat) : Int) = if i + 1 = j + 1 then _ else .int .i64 ((x.slots.getD i 0 : Nat) : Int)
    rw [List.getD_eq_getElem?_getD,List.getElem?_set,List.getD_eq_getElem?_getD]
    by_cases e : j = i
    · subst e
      rw [if_pos rfl,if_pos (by omega),if_pos rfl];rfl
    · rw [if_neg e,if_neg (by omega)]
theorem St.stack {w0 w w' : World} {B gN gU k gT : Nat} {q : Pc} {x : Tv} {sv : Sv} {cur : List Value} (h : St w0 B gN gU q) (hA : q.A = some ⟨gT,0,none⟩) (hc : Blk w0 gT 155 cur) (hx : q.tvs[k]? = some x)
    (hg0 : w0.grownBy w (svV x.sv).ownBlock) (ho : OwnR 2 frV w B 175 (svV sv) sv.stack) (hbk : (svV sv).ownBlock = (svV x.sv).ownBlock ∨ ∀ b,(svV sv).ownBlock = some b → w0.heap.size ≤ b)
    (hb : Blk w' gT 155 (cur.set (k * 9) (svV sv))) (hg : w.grownBy w' (some gT)) (hz : w'.heap.size = w.heap.size) : St w' B gN gU (q.put k ⟨sv,x.slots⟩):=by
  have hxs : (q.tvs.map (·.sv))[k]? = some x.sv:=by rw [List.getElem?_map,hx];rfl
  have hout : ∀ b,(svV x.sv).ownBlock = some b → ¬ (b = gN ∨ b = gU ∨ (Value.slice q.A q.len q.cap).ownBlock = some b):=fun b hb => h.fam.out k _ b hxs hb
  have hAb : (Value.slice q.A q.len q.cap).ownBlock = some gT:=by rw [hA];rfl
  have hnT : some gT ≠ (svV x.sv).ownBlock:=fun e => hout gT e.symm (.inr (.inr hAb))
  have hnN : some gN ≠ (svV x.sv).ownBlock:=fun e => hout gN e.symm (.inl rfl)
  refine St.field (x':=⟨sv,x.slots⟩) (h.conf.grown hg0 hnN) (h.row.far hg0 ?_) h.ne ⟨h.low.1,Nat.lt_of_lt_of_le h.low.2 hg0.size⟩ hA (hc.grown hg0 hnT) hx (j:=0) (by omega) (fun i hi => ?_) hb hg hz ?_
  · rw [hAb];exact .inr hnT
  · match i,hi with
    | 0,_ => rfl
    | i + 1,_ => rfl
  · refine h.fam.set hxs hg0 ho hbk fun b hb2 => ?_
    rcases hb2 with rfl | rfl | hb2
    · exact h.conf.lt
    · exact h.low.2
    · exact (h.row.block b hb2).2
theorem uI {P : Program} {ops : Array Oper} {rest : List Oper} {o : Oper} {a : Act} {w : World} {Q : Exit → Act → World → Prop} (hgd : o.guard = none) (ty : TypeId) (x hi : Operand) (ho : o.op = .slice ty x none (some hi) none)
    (e : TypeId) (sz : Nat) (hu : P.underlying ty = some (.slice e)) (hsz : (P.info? e).map (·.size) = some sz) (A : Option Addr) (n c : Nat) (hx : a.eval x = .slice A n c) (k : IntKind) (m : Nat) (hl : a.eval hi = .int k (m : Int)) (hmc : m ≤ c)
    (h : wpList P ops Q rest (a.put o.dst (.slice A m c)) w) : wpList P ops Q (o :: rest) a w:=by
  refine wpList_plain hgd fun K hK => ?_
  have hel : P.elem ty = e:=by simp [Program.elem,hu]
  have h1:=run_slice_h (P:=P) w ty A n c (by rw [hel];exact hu) k (m : Int) (by omega) (by omega)
  have h2:=run_sliceAt_slice (P:=P) w ty (.slice A n c) none (some (.int k (m : Int))) none (by rw [hel];exact hu)
  rw [h1] at h2
  cases hq : P.info? e with
  | none => simp [hq] at hsz
  | some ie =>
    have hs : ie.size = sz:=by simpa [hq] using hsz
    have hso : (sizeOf e).run P w = .ok sz w:=by simp [sizeOf,typeInfo,hq,hs]
    have hk:=hK _ _ h
    have e0 : (if c = 0 then A else Option.map (fun x => x.add 0) A) = A:=by
      split
      · rfl
      · cases A <;> simp [Addr.add]
    unfold Oper.wp execOp
    simp only [ho,hx,hl,Option.map_some,Option.map_none,h2,Sem.run_bind,Sem.run_pure,hel,hso,sliced,Result.andThen_ok,Int.toNat_natCast,Nat.zero_mul,Nat.sub_zero,e0]
    exact hk
theorem OwnR.front {α : Type} {sz : Nat} {f : α → Nat → Value} {w : World} {B : Nat} {e : TypeId} {l : List α} {A : Option Addr} {n c m : Nat} (h : OwnR sz f w B e (.slice A n c) l) (hm : m ≤ n) : OwnR sz f w B e (.slice A m c) (l.take m):=by
  obtain ⟨hln,hnc,hcm⟩:=h.len_is
  rcases Nat.eq_zero_or_pos n with h0 | h0
  · have hm0 : m = 0:=by omega
    subst hm0
    have hl0 : l = []:=List.eq_nil_of_length_eq_zero (by omega)
    subst hl0
    rw [h0] at h
    exact h
  · obtain ⟨g,cur,hA,hb,hs,ht,hB,_,_,_⟩:=h.blk h0
    rw [hA]
    have e1 : cellsR sz f l = cellsR sz f (l.take m) ++ cellsR sz f (l.drop m):=by rw [← yC,List.take_append_drop]
    have e2 : (cellsR sz f (l.take m)).length = m * sz:=by rw [qJ,List.length_take,Nat.min_eq_left (by omega)]
    refine OwnR.of_blk hb hB (by rw [List.length_take,Nat.min_eq_left (by omega)]) (by omega) hcm hs ?_
    have h3 : m * sz ≤ n * sz:=Nat.mul_le_mul_right sz hm
    have h4 : cur.take (m * sz) = (cur.take (n * sz)).take (m * sz):=by rw [List.take_take,Nat.min_eq_left h3]
    rw [h4,ht,e1,← e2,List.take_left]
def zeros (n : Nat) : List Value:=List.replicate n (.int .i64 0)
theorem YC (A : Option Addr) (n c : Nat) : Try.prog.built 155 [(0,.slice A n c)] = some (Value.slice A n c :: zeros 8).toArray:=by kernel_rfl
theorem built_conf (A : Option Addr) (n c : Nat) : Try.prog.built 91 [(0,.slice A n c)] = some (Value.slice A n c :: zeros 16).toArray:=by kernel_rfl
theorem QV (a0 a1 a2 a3 a4 a5 a6 a7 a8 a9 a10 a11 a12 a13 a14 a15 : Nat) : Try.prog.built 63 [(2,.agg ([a0,a1,a2,a3,a4,a5,a6,a7,a8,a9,a10,a11,a12,a13,a14,a15].map natV).toArray)] = some (Value.slice none 0 0 :: .slice none 0 0 :: [a0,a1,a2,a3,a4,a5,a6,a7,a8,a9,a10,a11,a12,a13,a14,a15].map natV).toArray:=by kernel_rfl
theorem YE (o : List Nat) (h : o.length = 16) : Try.prog.built 63 [(2,.agg (o.map natV).toArray)] = some (Value.slice none 0 0 :: .slice none 0 0 :: o.map natV).toArray:=by
  match o,h with
  | [a0,a1,a2,a3,a4,a5,a6,a7,a8,a9,a10,a11,a12,a13,a14,a15],_ => exact QV a0 a1 a2 a3 a4 a5 a6 a7 a8 a9 a10 a11 a12 a13 a14 a15
theorem JR : (Try.prog.info? 155).map (·.zero) = some (some (.agg (Value.slice none 0 0 :: zeros 8).toArray)):=by kernel_rfl
theorem vV : (Try.prog.info? 155).map (fun i => (i.zero.map (·.cells.size),i.size)) = some (some 9,9):=by kernel_rfl
theorem yH : (Try.prog.info? 155).map (·.size) = some 9:=by kernel_rfl
theorem l7 : (Try.prog.info? 91).map (·.zero) = some (some (.agg (Value.slice none 0 0 :: zeros 16).toArray)):=by kernel_rfl
theorem lB : (Try.prog.info? 63).map (·.zero) = some (some (.agg (Value.slice none 0 0 :: .slice none 0 0 :: zeros 16).toArray)):=by kernel_rfl
theorem jA : (Try.prog.info? 63).map (·.size) = some 18:=by kernel_rfl
theorem zK : (Try.prog.info? 155).map (fun i => (i.zero,i.size,i.bytes)) = some (some (.agg (Value.slice none 0 0 :: zeros 8).toArray),9,88):=by kernel_rfl
theorem uF : (Try.prog.info? 175).map (fun i => (i.zero,i.size,i.bytes)) = some (some (.agg #[.int .i64 0,.int .i64 0]),2,16):=by kernel_rfl
theorem xP : (Try.prog.info? 147).map (fun i => (i.zero,i.size,i.bytes)) = some (some (.agg #[.int .i64 0,.int .i64 0]),2,16):=by kernel_rfl
theorem xZ : (Try.prog.info? 149).map (fun i => (i.zero,i.size,i.bytes)) = some (some (.agg (zeros 8).toArray),8,64):=by kernel_rfl
theorem xV : (Try.prog.info? 149).map (fun i => (i.zero.map (·.cells.size),i.size)) = some (some 8,8):=by kernel_rfl
theorem yZ : (Try.prog.info? 149).map (·.size) = some 8:=by kernel_rfl
theorem zA : (Try.prog.info? 148).map (fun i => (i.zero,i.size,i.bytes)) = some (some (.slice none 0 0),1,24):=by kernel_rfl
theorem YF (n : Nat) : zeros n = (List.replicate n 0).map natV:=by unfold zeros;rw [List.map_replicate];rfl
theorem yL (x : Nat × Nat) (j : Nat) : (frV x j).oneCell' = true:=by unfold frV;split <;> rfl
theorem XP (x : Tv) (j : Nat) : (tvV x j).oneCell' = true:=by unfold tvV;split <;> rfl
section
variable {P : Program} {ops : Array Oper} {rest : List Oper} {o : Oper} {a : Act} {w : World} {Q : Exit → Act → World → Prop} {α : Type}
theorem vE {e : TypeId} {gn : Nat} {vs : List Value} (h : Blk w gn e vs) : ∀ j y,vs[j]? = some y → w.cell? ((⟨gn,0,none⟩ : Addr).add j) = some y:=fun j y hy => by
  have hadd : (⟨gn,0,none⟩ : Addr).add j = ⟨gn,j,none⟩:=by unfold Addr.add;split <;> simp_all
  rw [hadd,h.cell j];exact hy
theorem vT (hgd : o.guard = none) (s x : Operand) (t : TypeId)
    (ho : o.op = .call { callee:=.builtin .append,args:=#[s,x],argTypes:=#[t,t] })
    (B : Nat) (e : TypeId) (sz : Nat) (z : Value) (bytes : Nat) (ht : P.underlying t = some (.slice e)) (hi : (P.info? e).map (fun i => (i.zero,i.size,i.bytes)) = some (some z,sz,bytes)) (hzs : z.cells.size = sz) (hsz : 0 < sz)
    (f : α → Nat → Value) (hone : ∀ x j,(f x j).oneCell' = true)
    (q cap : Nat) (l : List α) (u : α) (hs : a.eval s = .slice (some ⟨q,0,none⟩) l.length cap) (hown : OwnR sz f w B e (.slice (some ⟨q,0,none⟩) l.length cap) l) (hroom : l.length + 1 ≤ cap)
    (gn c : Nat) (hx : a.eval x = .slice (some ⟨gn,0,none⟩) 1 c) (hbk : Blk w gn e ((List.range sz).map (f u))) (hbytes : (l.length + 1) * bytes ≤ 140737488355328)
    (h : ∀ w',OwnR sz f w' B e (.slice (some ⟨q,0,none⟩) (l.length + 1) cap) (l ++ [u]) → w.grownBy w' (some q) → wpList P ops Q rest (a.put o.dst (.slice (some ⟨q,0,none⟩) (l.length + 1) cap)) w') : wpList P ops Q (o :: rest) a w:=by
  obtain ⟨i,hi0,hzz⟩:=Option.map_eq_some_iff.1 hi
  simp only [Prod.mk.injEq] at hzz
  obtain ⟨hz,hsize,hby⟩:=hzz
  have hone' : ∀ y ∈ (List.range sz).map (f u),y.oneCell' = true:=fun y hy => by
    obtain ⟨j,_,rfl⟩:=List.mem_map.1 hy
    exact hone u j
  rcases hown.2 with ⟨hv,_⟩ | ⟨q',cap',cur,hv,hBq,hg,hn,hm,hcs,ht2⟩
  · cases hv
  injection hv with e1 _ e3
  cases e1
  subst e3
  have hlt : q < w.heap.size:=(Array.getElem?_eq_some_iff.1 hg).1
  obtain ⟨v',w',hr,h2,h3,_⟩:=run_append_own_at (P:=P) w B t o.type e i z sz bytes ht hi0 hz hsize hby hzs hsz _ l.length (cellsR sz f l) hown ⟨gn,0,none⟩ 1 c ((List.range sz).map (f u)) (by simp) (vE hbk) hone'
    (by omega) hbytes (by omega)
  have hr2:=run_append_room (P:=P) w t o.type e i ht hi0 q l.length cap cur hg ⟨gn,0,none⟩ 1 c ((List.range sz).map (f u)) (by rw [hsize];simp) (vE hbk) hone' hroom (by
    rw [hsize,hcs]
    have h9:=Nat.mul_le_mul_right sz hroom
    simp [Nat.add_mul] at h9 ⊢;omega)
  rw [hr] at hr2
  injection hr2 with e1 e2
  subst e1
  refine wpList_plain hgd fun K hK => ?_
  unfold Oper.wp execOp
  simp only [ho,resolve,invoke,builtin,Sem.run_bind,Sem.run_pure,Result.andThen_ok,List.map_toArray,List.map_cons,List.map_nil,hs,hx,hr]
  refine hK _ _ (h w' ?_ h3)
  unfold OwnR
  rw [List.length_append,List.length_singleton,yC]
  have e1 : cellsR sz f [u] = (List.range sz).map (f u):=by simp [cellsR]
  rw [e1]
  exact h2
theorem qO (hgd : o.guard = none) (s x : Operand) (t : TypeId)
    (ho : o.op = .call { callee:=.builtin .append,args:=#[s,x],argTypes:=#[t,t] })
    (B : Nat) (e : TypeId) (sz : Nat) (z : Value) (bytes : Nat) (ht : P.underlying t = some (.slice e)) (hi : (P.info? e).map (fun i => (i.zero,i.size,i.bytes)) = some (some z,sz,bytes)) (hzs : z.cells.size = sz) (hsz : 0 < sz)
    (f : α → Nat → Value) (hone : ∀ x j,(f x j).oneCell' = true)
    (v : Value) (l : List α) (u : α) (hs : a.eval s = v) (hown : OwnR sz f w B e v l) (hfull : v = .slice none 0 0 ∨ ∃ q,v = .slice (some ⟨q,0,none⟩) l.length l.length)
    (gn c : Nat) (hx : a.eval x = .slice (some ⟨gn,0,none⟩) 1 c) (hbk : Blk w gn e ((List.range sz).map (f u))) (h63 : l.length + 1 ≤ maxLen) (hbytes : (l.length + 1) * bytes ≤ 140737488355328) (hB : B ≤ w.heap.size)
    (h : ∀ v' w',OwnR sz f w' B e v' (l ++ [u]) → Below w.heap.size w w' → v'.ownBlock = some w.heap.size → wpList P ops Q rest (a.put o.dst v') w') : wpList P ops Q (o :: rest) a w:=by
  obtain ⟨i,hi0,hzz⟩:=Option.map_eq_some_iff.1 hi
  simp only [Prod.mk.injEq] at hzz
  obtain ⟨hz,hsize,hby⟩:=hzz
  have hone' : ∀ y ∈ (List.range sz).map (f u),y.oneCell' = true:=fun y hy => by
    obtain ⟨j,_,rfl⟩:=List.mem_map.1 hy
    exact hone u j
  obtain ⟨v',w',hr,h2,h3,_,h5⟩:=run_append_own_at (P:=P) w B t o.type e i z sz bytes ht hi0 hz hsize hby hzs hsz v l.length (cellsR sz f l) hown ⟨gn,0,none⟩ 1 c ((List.range sz).map (f u)) (by simp) (vE hbk) hone'
    h63 hbytes hB
  have hsm : l.length + 1 ≤ 9223372036854775807:=by unfold maxLen at h63;omega
  have hnew : ∃ cs k,w' = w.drew.alloc (.cells cs e) ∧ v' = .slice (some ⟨w.heap.size,0,none⟩) (l.length + 1) k:=by
    rcases hfull with rfl | ⟨q,rfl⟩
    · have hl0 : l.length = 0:=by
        rcases hown.2 with ⟨_,h0⟩ | ⟨q',cap',cur,hv,_⟩
        · exact h0
        · cases hv
      have hr2:=run_append_nil (P:=P) w t o.type e i z ht hi0 hz ⟨gn,0,none⟩ 1 c ((List.range sz).map (f u)) (by rw [hsize];simp) (vE hbk) (by omega) (by omega) (by rw [hby];have:=hbytes;rw [hl0] at this;omega)
      rw [hr] at hr2
      injection hr2 with e1 e2
      exact ⟨_,_,e2,by rw [e1,hl0]⟩
    · have holds : ∀ j y,(cellsR sz f l)[j]? = some y → w.cell? ((⟨q,0,none⟩ : Addr).add j) = some y:=World.ownsRow.cells hown (g:=q) rfl
      have hr2:=run_append_grow (P:=P) w t o.type e i z ht hi0 hz ⟨q,0,none⟩ l.length l.length (cellsR sz f l) (by rw [hsize,qJ]) holds ⟨gn,0,none⟩ 1 c ((List.range sz).map (f u)) (by rw [hsize];simp) (vE hbk) (by omega) (by omega) (by rw [hby];exact growslice_fits (by omega) (by omega))
      rw [hr] at hr2
      injection hr2 with e1 e2
      exact ⟨_,_,e2,e1⟩
  obtain ⟨cs,k,rfl,rfl⟩:=hnew
  refine wpList_plain hgd fun K hK => ?_
  unfold Oper.wp execOp
  simp only [ho,resolve,invoke,builtin,Sem.run_bind,Sem.run_pure,Result.andThen_ok,List.map_toArray,List.map_cons,List.map_nil,hs,hx,hr]
  refine hK _ _ (h _ _ ?_ ?_ rfl)
  · unfold OwnR
    rw [List.length_append,List.length_singleton,yC]
    have e1 : cellsR sz f [u] = (List.range sz).map (f u):=by simp [cellsR]
    rw [e1]
    exact h2
  · exact ⟨rfl,rfl,rfl,by simp,fun k hk => Below.heap_alloc w.drew _ k hk⟩
end
section
variable {P : Program} {ops : Array Oper} {rest : List Oper} {o : Oper} {a : Act} {w : World} {Q : Exit → Act → World → Prop} {α : Type}
theorem jZ (hgd : o.guard = none) (s x : Operand) (t : TypeId)
    (ho : o.op = .call { callee:=.builtin .append,args:=#[s,x],argTypes:=#[t,t] })
    (B : Nat) (e : TypeId) (sz : Nat) (z : Value) (bytes : Nat) (ht : P.underlying t = some (.slice e)) (hi : (P.info? e).map (fun i => (i.zero,i.size,i.bytes)) = some (some z,sz,bytes)) (hzs : z.cells.size = sz) (hsz : 0 < sz)
    (f : α → Nat → Value) (hone : ∀ x j,(f x j).oneCell' = true)
    (q cap n : Nat) (l : List α) (hn : l.length = n) (u : α) (hs : a.eval s = .slice (some ⟨q,0,none⟩) n cap) (hown : OwnR sz f w B e (.slice (some ⟨q,0,none⟩) n cap) l) (hroom : n + 1 ≤ cap)
    (gn c : Nat) (hx : a.eval x = .slice (some ⟨gn,0,none⟩) 1 c) (hbk : Blk w gn e ((List.range sz).map (f u))) (hbytes : (n + 1) * bytes ≤ 140737488355328)
    (h : ∀ w',OwnR sz f w' B e (.slice (some ⟨q,0,none⟩) (n + 1) cap) (l ++ [u]) → w.grownBy w' (some q) → wpList P ops Q rest (a.put o.dst (.slice (some ⟨q,0,none⟩) (n + 1) cap)) w') : wpList P ops Q (o :: rest) a w:=by
  subst hn
  exact vT hgd s x t ho B e sz z bytes ht hi hzs hsz f hone q cap l u hs hown hroom gn c hx hbk hbytes h
theorem qC (hgd : o.guard = none) (s x : Operand) (t : TypeId)
    (ho : o.op = .call { callee:=.builtin .append,args:=#[s,x],argTypes:=#[t,t] })
    (B : Nat) (e : TypeId) (sz : Nat) (z : Value) (bytes : Nat) (ht : P.underlying t = some (.slice e)) (hi : (P.info? e).map (fun i => (i.zero,i.size,i.bytes)) = some (some z,sz,bytes)) (hzs : z.cells.size = sz) (hsz : 0 < sz)
    (f : α → Nat → Value) (hone : ∀ x j,(f x j).oneCell' = true)
    (q cap n : Nat) (l : List α) (hn : l.length = n) (u : α) (hs : a.eval s = .slice (some ⟨q,0,none⟩) n cap) (hown : OwnR sz f w B e (.slice (some ⟨q,0,none⟩) n cap) l) (hfull : cap = n)
    (gn c : Nat) (hx : a.eval x = .slice (some ⟨gn,0,none⟩) 1 c) (hbk : Blk w gn e ((List.range sz).map (f u))) (h63 : n + 1 ≤ maxLen) (hbytes : (n + 1) * bytes ≤ 140737488355328) (hB : B ≤ w.heap.size)
    (h : ∀ g c' w',OwnR sz f w' B e (.slice (some ⟨g,0,none⟩) (n + 1) c') (l ++ [u]) → Below w.heap.size w w' → w.heap.size ≤ g → wpList P ops Q rest (a.put o.dst (.slice (some ⟨g,0,none⟩) (n + 1) c')) w') : wpList P ops Q (o :: rest) a w:=by
  subst hn
  subst hfull
  refine qO hgd s x t ho B e sz z bytes ht hi hzs hsz f hone _ l u hs hown (.inr ⟨q,rfl⟩) gn c hx hbk h63 hbytes hB fun v' w' h1 h2 h3 => ?_
  obtain ⟨A',c',rfl,_⟩:=h1.form
  rw [List.length_append,List.length_singleton] at h1 h3 ⊢
  cases A' with
  | none => cases h3
  | some ad =>
    have e1 : ad.block = w.heap.size:=by injection h3
    obtain ⟨g,cur,hA,_⟩:=h1.blk (by omega)
    injection hA with hA
    subst hA
    exact h g c' w' h1 h2 (by rw [← e1];exact Nat.le_refl _)
end
def GFact.elem (G : Nat → Prop) (e : TypeId) (cs : List Value) (K : Nat) : GFact G :=
  ⟨fun v W => ∃ gn,v = .slice (some ⟨gn,0,none⟩) 1 1 ∧ Blk W gn e cs ∧ ¬ G gn ∧ K ≤ gn,fun _ _ _ ho ⟨gn,h1,h2,h3,h4⟩ => ⟨gn,h1,ho.blk h2 h3,h3,h4⟩⟩
def Fact.elem (e : TypeId) (cs : List Value) : Fact :=
  ⟨fun v W => ∃ gn,v = .slice (some ⟨gn,0,none⟩) 1 1 ∧ Blk W gn e cs,fun _ _ _ hb ⟨gn,h1,h2⟩ => ⟨gn,h1,h2.below hb h2.lt⟩⟩
def Fact.ownR {α : Type} (sz : Nat) (f : α → Nat → Value) (B : Nat) (e : TypeId) (K n : Nat) (l : List α) : Fact :=
  ⟨fun v W => ∃ g c,v = .slice (some ⟨g,0,none⟩) n c ∧ OwnR sz f W B e v l ∧ K ≤ g,fun _ _ _ hb ⟨g,c,h1,h2,h3⟩ => ⟨g,c,h1,h2.below hb (Nat.le_refl _),h3⟩⟩
def newT (a g : Nat) : Tv:=⟨⟨some ⟨g,0,none⟩,1,1,[(a,0)]⟩,List.replicate 8 0⟩
theorem Fam.add {e : TypeId} {w : World} {B : Nat} {S : Nat → Prop} {l : List Sv} (h : Fam e w B S l) {x : Sv} (ho : OwnR 2 frV w B e (svV x) x.stack) (hS : ∀ b,(svV x).ownBlock = some b → ¬ S b)
    (hne : ∀ (k : Nat) (y : Sv) (b : Nat),l[k]? = some y → (svV x).ownBlock = some b → (svV y).ownBlock ≠ some b) : Fam e w B S (l ++ [x]):=by
  have key : ∀ (j : Nat) (y : Sv),(l ++ [x])[j]? = some y → (j = l.length ∧ y = x) ∨ (j < l.length ∧ l[j]? = some y):=fun j y hy => by
    rcases Nat.lt_or_ge j l.length with h1 | h1
    · rw [List.getElem?_append_left h1] at hy
      exact .inr ⟨h1,hy⟩
    · have h2:=(List.getElem?_eq_some_iff.1 hy).1
      simp only [List.length_append,List.length_singleton] at h2
      have e1 : j = l.length:=by omega
      subst e1
      rw [List.getElem?_append_right (Nat.le_refl _),Nat.sub_self] at hy
      exact .inl ⟨rfl,by simpa using hy.symm⟩
  refine ⟨fun j y hy => ?_,fun j y b hy hb1 => ?_,fun i j y z b hy hz hb1 hb2 => ?_⟩
  · rcases key j y hy with ⟨_,rfl⟩ | ⟨_,hy⟩
    · exact ho
    · exact h.own j y hy
  · rcases key j y hy with ⟨_,rfl⟩ | ⟨_,hy⟩
    · exact hS b hb1
    · exact h.out j y b hy hb1
  · rcases key i y hy with ⟨e1,e2⟩ | ⟨h1,hy'⟩
    · rcases key j z hz with ⟨e3,_⟩ | ⟨h2,hz'⟩
      · rw [e1,e3]
      · rw [e2] at hb1
        exact absurd hb2 (hne j z b hz' hb1)
    · rcases key j z hz with ⟨_,e4⟩ | ⟨h2,hz'⟩
      · rw [e4] at hb2
        exact absurd hb1 (hne i y b hy' hb2)
      · exact h.apart i j y z b hy' hz' hb1 hb2
theorem St.push {w2 W W' : World} {B gN gU g gT gV a c : Nat} {q : Pc} (h : St w2 B gN gU q) (hA : q.A = some ⟨gT,0,none⟩) (hg0 : w2.grownBy W (some gT)) (hrow : OwnR 9 tvV W B 155 (.slice (some ⟨gV,0,none⟩) (q.len + 1) c) (q.tvs ++ [newT a g]))
    (hV : gV = gT ∨ (w2.heap.size ≤ gV ∧ gV ≠ g)) (ho : OwnR 2 frV W B 175 (.slice (some ⟨g,0,none⟩) 1 1) [(a,0)]) (hgg : w2.heap.size ≤ g)
    (hb : Blk W' gN 91 ((pcC q).set 0 (.slice (some ⟨gV,0,none⟩) (q.len + 1) c))) (hg : W.grownBy W' (some gN)) (hz : W'.heap.size = W.heap.size) : St W' B gN gU ⟨some ⟨gV,0,none⟩,q.len + 1,c,q.tvs ++ [newT a g],q.ow⟩:=by
  have hbT : (Value.slice q.A q.len q.cap).ownBlock = some gT:=by rw [hA];rfl
  have hneT:=h.ne gT hbT
  have hTl:=(h.row.block gT hbT).2
  have hNl:=h.conf.lt
  have hUl:=h.low.2
  have hVN : gV ≠ gN:=by rcases hV with rfl | hV <;> omega
  have hVU : gV ≠ gU:=by rcases hV with rfl | hV <;> omega
  have hVg : gV ≠ g:=by rcases hV with rfl | hV <;> omega
  refine ⟨hb,hrow.far hg (.inr fun e => hVN (by cases e;rfl)),?_,fun b e => by cases e;exact ⟨hVN,hVU⟩,h.low.1,by have:=hg0.size;rw [hz];omega⟩
  have e1 : (q.tvs ++ [newT a g]).map (·.sv) = q.tvs.map (·.sv) ++ [(newT a g).sv]:=by rw [List.map_append];rfl
  show Fam _ W' B _ ((q.tvs ++ [newT a g]).map (·.sv))
  rw [e1]
  have f1 : Fam 175 w2 B (fun b => (b = gN ∨ b = gU ∨ (Value.slice q.A q.len q.cap).ownBlock = some b) ∨ b = gV) (q.tvs.map (·.sv)):=h.fam.less fun b hb => by
    rcases hb with hb | hb
    · exact .inl hb
    · rcases hV with hV | hV
      · subst hb;subst hV;exact .inl (.inr (.inr hbT))
      · right;omega
  have f2:=f1.turn hg0 (fun b e => by cases e;exact .inl (.inr (.inr hbT)))
  have f3:=f2.add (x:=(newT a g).sv) ho (fun b e => by
    have e2 : g = b:=by injection e
    subst e2
    rintro ((e | e | e) | e)
    · omega
    · omega
    · rw [hbT] at e;cases e;omega
    · exact hVg e.symm) (fun k y b hy e e3 => by
    have e2 : g = b:=by injection e
    subst e2
    have:=(f1.block hy e3).2
    omega)
  have f4:=f3.turn hg (fun b e => by cases e;exact .inl (.inl rfl))
  refine f4.less fun b hb => ?_
  rcases hb with rfl | rfl | hb
  · exact .inl (.inl (.inl rfl))
  · exact .inl (.inl (.inr (.inl rfl)))
  · cases hb;exact .inl (.inr rfl)
end Go.Proofs.Ytcbfghcdbmlneaa
