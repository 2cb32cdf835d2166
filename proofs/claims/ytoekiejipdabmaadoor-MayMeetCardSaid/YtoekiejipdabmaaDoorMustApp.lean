/- append where there is room, and where there is none. -/
import Derived.Test.YtoekiejipdabmaaDoorPk17
namespace Go.Proofs.YtoekiejipdabmaaDoor
open Go.RowKit
theorem xV {P : Program} {ops : Array Oper} {rest : List Oper} {o : Oper} {a : Act} {Q : Exit → Act → World → Prop} (hgd : o.guard = none) (s x : Operand) (t : TypeId)
    (ho : o.op = .call { callee:=.builtin .append,args:=#[s,x],argTypes:=#[t,t] })
    (B : Nat) (e : TypeId) (z : Value) (bytes : Nat) (ht : P.underlying t = some (.slice e)) (hi : (P.info? e).map (fun i => (i.zero,i.size,i.bytes)) = some (some z,1,bytes)) (hzs : z.cells.size = 1)
    (w : World) (g n cap : Nat) (xs : List Value) (hs : a.eval s = .slice (some ⟨g,0,none⟩) n cap) (hown : Own w B e (.slice (some ⟨g,0,none⟩) n cap) xs) (hn : xs.length = n) (hroom : n + 1 ≤ cap) (gn c : Nat) (u : Value) (hx : a.eval x = .slice (some ⟨gn,0,none⟩) 1 c) (hbk : Blk w gn e [u])
    (h1 : u.oneCell' = true) (hbytes : (n + 1) * bytes ≤ 140737488355328) (hB : B ≤ w.heap.size)
    (h : ∀ w',Own w' B e (.slice (some ⟨g,0,none⟩) (n + 1) cap) (xs ++ [u]) → w.grownBy w' (some g) → wpList P ops Q rest (a.put o.dst (.slice (some ⟨g,0,none⟩) (n + 1) cap)) w') : wpList P ops Q (o :: rest) a w:=by
  subst hn
  refine wpList_plain hgd fun K hK => ?_
  have hrow : Row (fun u => u) w w.heap.size (some ⟨gn,0,none⟩) 1 [u]:=Blk.row (f:=fun u => u) (l:=[u]) (by simpa using hbk) rfl (Nat.le_refl _)
  have hcm : cap ≤ maxLen:=by
    rcases hown.2 with ⟨h2,_⟩ | ⟨_,_,_,h2,_,_,_,h3,_⟩
    · cases h2
    · injection h2 with _ _ h2;subst h2;exact h3
  obtain ⟨v',w',hr,h2,h3⟩:=uZ (P:=P) t o.type B e z bytes ht hi hzs w _ xs hown (some ⟨gn,0,none⟩) 1 c w.heap.size [u] hrow (by simpa using h1) (by omega) hbytes hB
  have hv : v' = .slice (some ⟨g,0,none⟩) (xs.length + 1) cap:=by
    obtain ⟨i,hi0,hz,hsize,hby⟩:=info_parts hi
    rcases hown.2 with ⟨h4,_⟩ | ⟨g2,cap2,cur,h4,_,hg,_,_,hcs,_⟩
    · cases h4
    · injection h4 with h4 _ h5
      injection h4 with h4
      injection h4 with h4
      subst h4;subst h5
      have h6:=run_append_room (P:=P) w t o.type e i ht hi0 g xs.length cap cur hg ⟨gn,0,none⟩ 1 c [u] (by rw [hsize];rfl) (fun j y hy => by
        rw [show (⟨gn,0,none⟩ : Addr).add j = ⟨gn,j,none⟩ from q5 _ _,hbk.cell j];exact hy) (by simpa using h1) hroom (by rw [hsize,hcs];simp;omega)
      rw [hr] at h6
      injection h6 with h6 _
  subst hv
  have hg : w.grownBy w' (some g):=h3.1
  unfold Oper.wp execOp
  simp only [ho,resolve,invoke,builtin,Sem.run_bind,Sem.run_pure,Result.andThen_ok,List.map_toArray,List.map_cons,List.map_nil,hs,hx,hr]
  exact hK _ _ (h w' h2 hg)
theorem lE {P : Program} {ops : Array Oper} {rest : List Oper} {o : Oper} {a : Act} {Q : Exit → Act → World → Prop} (hgd : o.guard = none) (s x : Operand) (t : TypeId)
    (ho : o.op = .call { callee:=.builtin .append,args:=#[s,x],argTypes:=#[t,t] })
    (B : Nat) (e : TypeId) (z : Value) (bytes : Nat) (ht : P.underlying t = some (.slice e)) (hi : (P.info? e).map (fun i => (i.zero,i.size,i.bytes)) = some (some z,1,bytes)) (hzs : z.cells.size = 1)
    (w : World) (v : Value) (xs : List Value) (hs : a.eval s = v) (hown : Own w B e v xs) (hfull : ∀ g n cap,v = .slice (some ⟨g,0,none⟩) n cap → cap = n) (A : Option Addr) (m c C : Nat) (news : List Value) (hx : a.eval x = .slice A m c) (hr : Row (fun u => u) w C A m news)
    (h1 : ∀ u ∈ news,u.oneCell' = true) (h63 : xs.length + m ≤ maxLen) (hbytes : (xs.length + m) * bytes ≤ 140737488355328) (hB : B ≤ w.heap.size)
    (h : ∀ v' w',Own w' B e v' (xs ++ news) → Below w.heap.size w w' → wpList P ops Q rest (a.put o.dst v') w') : wpList P ops Q (o :: rest) a w:=by
  refine wpList_plain hgd fun K hK => ?_
  obtain ⟨v',w',hrun,h2,h3⟩:=uZ (P:=P) t o.type B e z bytes ht hi hzs w v xs hown A m c C news hr h1 h63 hbytes hB
  have hb : Below w.heap.size w w':=by
    obtain ⟨i,hi0,hz,hsize,hby⟩:=info_parts hi
    have hlm:=hr.len
    have h63' : xs.length + m ≤ 9223372036854775807:=by simp only [maxLen] at h63;omega
    have same : (w.drew).heap = w.heap:=rfl
    rcases A with _ | ad
    · have hm : m = 0:=by
        rcases Nat.eq_zero_or_pos m with h0 | h0
        · exact h0
        · obtain ⟨_,h,_⟩:=hr.cells h0
          cases h
      subst hm
      have hrun2 : (Builtin.append_ #[t,t] o.type #[v,.slice none 0 c]).run P w = .ok v w:=by
        rcases hown.2 with ⟨rfl,h0⟩ | ⟨g,cap,cur,rfl,_,_,hnc,_⟩
        · simp [Builtin.append_,run_underlying ht,sizeOf,typeInfo,hi0,Builtin.lenOf,Builtin.firstCells]
        · simp [Builtin.append_,run_underlying ht,sizeOf,typeInfo,hi0,Builtin.lenOf,Builtin.firstCells,hnc,storeCells]
      rw [hrun] at hrun2
      injection hrun2 with _ e1
      subst e1
      exact Below.refl _ _
    · have hcells : ∀ j u,news[j]? = some u → w.cell? (ad.add j) = some u:=by
        intro j u hu
        have hj : j < m:=by
          have:=(List.getElem?_eq_some_iff.1 hu).1
          rw [hlm] at this;exact this
        obtain ⟨ad',x,e1,_,hx,hc⟩:=hr.get hj
        cases e1
        rw [hx] at hu;cases hu;exact hc
      rcases hown.2 with ⟨rfl,h0⟩ | ⟨g,cap,cur,rfl,_,hg,hnc,hcm,hcs,htake⟩
      · by_cases hm : m = 0
        · subst hm
          have hrun2 : (Builtin.append_ #[t,t] o.type #[.slice none 0 0,.slice (some ad) 0 c]).run P w = .ok (.slice none 0 0) w:=by
            simp [Builtin.append_,run_underlying ht,sizeOf,typeInfo,hi0,Builtin.lenOf,Builtin.firstCells,loadCells,loadCellsFrom]
          rw [hrun] at hrun2
          injection hrun2 with _ e1
          subst e1
          exact Below.refl _ _
        · have hrun2:=run_append_nil (P:=P) w t o.type e i z ht hi0 hz ad m c news (by rw [hsize];omega) hcells (by omega) (by omega) (by rw [hby];have hb:=hbytes;rw [h0] at hb;simp only [Nat.zero_add] at hb;omega)
          rw [hrun] at hrun2
          injection hrun2 with _ e1
          subst e1
          exact ⟨rfl,rfl,rfl,by simp,fun k hk => heap_alloc_old w.drew _ hk⟩
      · have hce:=hfull g _ cap rfl
        subst hce
        by_cases hm : m = 0
        · subst hm
          have hn0 : news = []:=List.eq_nil_of_length_eq_zero hlm
          subst hn0
          have hrun2:=run_append_room (P:=P) w t o.type e i ht hi0 g xs.length xs.length cur hg ad 0 c [] (by simp) (fun j u hu => by simp at hu) (by simp) (by omega) (by rw [hsize,hcs];simp)
          rw [hrun] at hrun2
          injection hrun2 with _ e1
          subst e1
          refine ⟨rfl,rfl,rfl,by simp,fun k hk => ?_⟩
          by_cases e2 : k = g
          · subst e2
            rw [setRow_heap w k cur _ e _ hg,hg]
            simp
          · exact setRow_other w g k _ e2
        · have holds : ∀ j u,xs[j]? = some u → w.cell? ((⟨g,0,none⟩ : Addr).add j) = some u:=World.ownsRow.cells hown (g:=g) rfl
          have hrun2:=run_append_grow (P:=P) w t o.type e i z ht hi0 hz ⟨g,0,none⟩ xs.length xs.length xs (by rw [hsize];omega) holds ad m c news (by rw [hsize];omega) hcells (by omega) (by omega) (growslice_fits (by omega) (by rw [hby];exact hbytes))
          rw [hrun] at hrun2
          injection hrun2 with _ e1
          subst e1
          exact ⟨rfl,rfl,rfl,by simp,fun k hk => heap_alloc_old w.drew _ hk⟩
  unfold Oper.wp execOp
  simp only [ho,resolve,invoke,builtin,Sem.run_bind,Sem.run_pure,Result.andThen_ok,List.map_toArray,List.map_cons,List.map_nil,hs,hx,hrun]
  exact hK _ _ (h v' w' h2 hb)
end Go.Proofs.YtoekiejipdabmaaDoor
