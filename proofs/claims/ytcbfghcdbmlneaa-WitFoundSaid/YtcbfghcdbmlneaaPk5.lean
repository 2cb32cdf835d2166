/- WitMath, WitIn, Make, ScriptP1, WitP1, SetRef2, SetP1, SetP2, WireRef4, WireP2, WitP2, SetP3, WireP5, ProgRef3. -/
import Derived.Test.YtcbfghcdbmlneaaPk4
import Derived.Test.YtcbfghcdbmlneaaPk1
import Derived.Test.YtcbfghcdbmlneaaPk2
import Derived.Test.YtcbfghcdbmlneaaRows
import Derived.Deep.QuietTactic
import Derived.BigQuiet
import Derived.Deep.RegionWith
import Derived.Laws.BitsAllLaws
import Derived.Test.YtcbfghcdbmlneaaPk3
import Derived.Lib.SlBytesConst
import Derived.Laws.StructEq
namespace Go.Proofs.Ytcbfghcdbmlneaa.T
def okZ (z : List (Int × Bool)) : Bool:=z.all fun x => decide (0 ≤ x.1) && decide (x.1 ≤ 7)
def okN (a b g : Int) : Bool:=decide (0 ≤ a ∧ a ≤ 7 ∧ 0 ≤ b ∧ b ≤ 7 ∧ a ≠ b ∧ 0 ≤ g ∧ g ≤ 15)
theorem Y4 {z : List (Int × Bool)} : okZ z = true ↔ ∀ x ∈ z,M.okP x:=by
  unfold okZ M.okP
  simp
theorem okZ_not {z : List (Int × Bool)} (h : ∃ x ∈ z,¬ M.okP x) : okZ z = false:=by
  rw [Bool.eq_false_iff]
  intro h1
  obtain ⟨x,h2,h3⟩:=h
  exact h3 (Y4.1 h1 x h2)
theorem okN_iff {a b g : Int} : okN a b g = true ↔ (0 ≤ a ∧ a ≤ 7 ∧ 0 ≤ b ∧ b ≤ 7 ∧ a ≠ b ∧ 0 ≤ g ∧ g ≤ 15):=by unfold okN;exact decide_eq_true_iff
def check (z : List (Int × Bool)) (a b g : Int) : Nat:=if 4096 < z.length then 4 else if (okZ z && okN a b g) = true then 0 else 1
theorem check_long {z : List (Int × Bool)} {a b g : Int} (h : 4096 < z.length) : check z a b g = 4:=if_pos h
theorem check_picks {z : List (Int × Bool)} {a b g : Int} (h : z.length ≤ 4096) (h2 : ∃ x ∈ z,¬ M.okP x) : check z a b g = 1:=by
  unfold check
  rw [if_neg (by omega),okZ_not h2]
  rfl
theorem check_nums {z : List (Int × Bool)} {a b g : Int} (h : z.length ≤ 4096) (h2 : okN a b g = false) : check z a b g = 1:=by
  unfold check
  rw [if_neg (by omega),h2,Bool.and_false]
  rfl
theorem check_fine {z : List (Int × Bool)} {a b g : Int} (h : z.length ≤ 4096) (h2 : ∀ x ∈ z,M.okP x) (h3 : okN a b g = true) : check z a b g = 0:=by
  unfold check
  rw [if_neg (by omega),Y4.2 h2,h3]
  rfl
theorem check_ok {z : List (Int × Bool)} {a b g : Int} (h : check z a b g = 0) : z.length ≤ 4096 ∧ (∀ x ∈ z,M.okP x) ∧ okN a b g = true:=by
  unfold check at h
  by_cases h1 : 4096 < z.length
  · rw [if_pos h1] at h;cases h
  · rw [if_neg h1] at h
    by_cases h2 : (okZ z && okN a b g) = true
    · rw [Bool.and_eq_true] at h2
      exact ⟨by omega,Y4.1 h2.1,h2.2⟩
    · rw [if_neg h2] at h;cases h
def mark : List Nat:=97 :: 108 :: 119 :: 49 :: []
def three (a b g : Int) : List Nat:=a.toNat :: b.toNat :: g.toNat :: []
def bytes (z : List (Int × Bool)) (a b g : Int) : List Nat:=mark ++ (V.put z.length ++ (z.map M.pb ++ three a b g))
theorem three_put {a b g : Int} (h : okN a b g = true) : three a b g = V.put a.toNat ++ (V.put b.toNat ++ V.put g.toNat):=by
  obtain ⟨h1,h2,h3,h4,_,h5,h6⟩:=okN_iff.1 h
  rw [V.put_last _ (by omega),V.put_last _ (by omega),V.put_last _ (by omega)]
  rfl
theorem bytes_small {z : List (Int × Bool)} {a b g : Int} (h : check z a b g = 0) : ∀ x ∈ bytes z a b g,x < 256:=by
  obtain ⟨h1,h2,h3⟩:=check_ok h
  obtain ⟨k1,k2,k3,k4,_,k5,k6⟩:=okN_iff.1 h3
  intro x hx
  unfold bytes at hx
  rcases List.mem_append.1 hx with hx | hx
  · have : ∀ x ∈ mark,x < 256:=by decide
    exact this x hx
  · rcases List.mem_append.1 hx with hx | hx
    · exact V.put_byte _ (by omega) x hx
    · rcases List.mem_append.1 hx with hx | hx
      · obtain ⟨y,hy,rfl⟩:=List.mem_map.1 hx
        have:=M.pb_lt (h2 y hy)
        omega
      · unfold three at hx
        simp only [List.mem_cons,List.not_mem_nil,or_false] at hx
        omega
theorem bytes_len {z : List (Int × Bool)} (a b g : Int) (h : z.length ≤ 4096) : 7 ≤ (bytes z a b g).length ∧ (bytes z a b g).length ≤ 4108:=by
  unfold bytes three
  have h2:=V.len_put z.length (by omega)
  have h3:=V.size_le z.length
  have h4 : mark.length = 4:=rfl
  simp only [List.length_append,List.length_map,List.length_cons,List.length_nil]
  omega
structure WD where
  z : List (Int × Bool)
  a : Nat
  b : Nat
  g : Nat
def none_ : WD:=⟨[],0,0,0⟩
def s0 : R.St:=⟨0,0,0⟩
def h0 (bs : List Nat) : List Nat × R.St:=R.raw bs s0 4
def p1 (bs : List Nat) (s : R.St) : Nat × R.St:=R.num bs s 4096
def p2 (bs : List Nat) (s : R.St) : List Nat × R.St:=R.raw bs (p1 bs s).2 ((p1 bs s).1 : Int)
def p3 (bs : List Nat) (s : R.St) : Nat × R.St:=R.num bs (p2 bs s).2 7
def p4 (bs : List Nat) (s : R.St) : Nat × R.St:=R.num bs (p3 bs s).2 7
def p5 (bs : List Nat) (s : R.St) : Nat × R.St:=R.num bs (p4 bs s).2 15
def endOf (n : Nat) (s : R.St) : R.St:=if s.why = 0 ∧ s.at_ < n then R.fail s 7 else s
def fin (bs : List Nat) : R.St:=endOf bs.length (p5 bs (h0 bs).2).2
def read (bs : List Nat) : WD × Nat × Nat :=
  if (h0 bs).2.why = 0 ∧ (h0 bs).1 ≠ mark then (none_,0,3)
  else if (fin bs).why ≠ 0 then (none_,(fin bs).wh,(fin bs).why)
  else if ∃ b ∈ (p2 bs (h0 bs).2).1,16 ≤ b then (none_,bs.length,3)
  else if (p3 bs (h0 bs).2).1 = (p4 bs (h0 bs).2).1 then (none_,bs.length,1)
  else (⟨(p2 bs (h0 bs).2).1.map M.bp,(p3 bs (h0 bs).2).1,(p4 bs (h0 bs).2).1,(p5 bs (h0 bs).2).1⟩,0,0)
theorem raw_eats {bs : List Nat} {s : R.St} {m : Nat} (h : (R.raw bs s (m : Int)).2.why = 0) :
    s.why = 0 ∧ (R.raw bs s (m : Int)).1.length = m ∧ bs.drop s.at_ = (R.raw bs s (m : Int)).1 ++ bs.drop (R.raw bs s (m : Int)).2.at_:=by
  unfold R.raw R.fail at h ⊢
  by_cases h0 : s.why = 0
  · rw [if_pos h0,if_neg (by omega)] at h ⊢
    by_cases h1 : (bs.length : Int) - (s.at_ : Int) < (m : Int)
    · rw [if_pos h1,if_pos h0] at h;cases h
    · rw [if_neg h1]
      refine ⟨h0,?_,?_⟩
      · rw [List.length_take,List.length_drop];omega
      · show bs.drop s.at_ = (bs.drop s.at_).take (m : Int).toNat ++ bs.drop (s.at_ + (m : Int).toNat)
        rw [← List.drop_drop,List.take_append_drop]
  · rw [if_neg h0] at h;exact absurd h h0
theorem raw_up (bs : List Nat) (s : R.St) (m : Int) : s.at_ ≤ (R.raw bs s m).2.at_:=by
  unfold R.raw R.fail
  repeat' split
  all_goals simp
theorem raw_why {bs : List Nat} {s : R.St} {m : Int} (h : s.why ≠ 0) : R.raw bs s m = ([],s):=by unfold R.raw;rw [if_neg h]
theorem X5 {bs : List Nat} {s : R.St} {m : Nat} (h : s.why = 0) (h1 : bs.length < s.at_ + m) : R.raw bs s (m : Int) = ([],⟨s.at_,s.at_,2⟩):=by
  unfold R.raw R.fail;rw [if_pos h,if_neg (by omega),if_pos (by omega),if_pos h]
theorem raw_all {bs : List Nat} {s : R.St} {m : Nat} (h : s.why = 0) (h1 : s.at_ + m ≤ bs.length) : R.raw bs s (m : Int) = ((bs.drop s.at_).take m,⟨s.at_ + m,s.wh,0⟩):=by
  unfold R.raw;rw [if_pos h,if_neg (by omega),if_neg (by omega),Int.toNat_natCast]
theorem raw_cut {bs : List Nat} {n : Nat} {s t : R.St} {x y : Nat} (h : C.Cut n s t) (hxy : t.why = 0 → y = x) (hw : (R.raw bs s (x : Int)).2.why = 0) :
    C.Cut n (R.raw bs s (x : Int)).2 (R.raw (bs.take n) t (y : Int)).2 ∧ ((R.raw (bs.take n) t (y : Int)).2.why = 0 → (R.raw (bs.take n) t (y : Int)).1 = (R.raw bs s (x : Int)).1):=by
  rcases h with ⟨rfl,h1,h2⟩ | ⟨h1,h2,h3⟩
  · have e:=hxy h2
    subst e
    have hlen : (bs.take n).length = min n bs.length:=List.length_take
    by_cases h5 : t.at_ + y ≤ bs.length
    · rw [raw_all h2 h5]
      by_cases h6 : (bs.take n).length < t.at_ + y
      · rw [X5 h2 h6]
        refine ⟨.inr ⟨rfl,h1,?_⟩,fun h => by cases h⟩
        show n < t.at_ + y
        omega
      · rw [raw_all h2 (by omega)]
        refine ⟨.inl ⟨rfl,?_,rfl⟩,fun _ => ?_⟩
        · show t.at_ + y ≤ n
          omega
        · show ((bs.take n).drop t.at_).take y = (bs.drop t.at_).take y
          rw [List.drop_take,List.take_take,Nat.min_eq_left (by omega)]
    · rw [X5 h2 (by omega)] at hw;cases hw
  · rw [raw_why (bs:=bs.take n) (s:=t) (by rw [h1];decide)]
    refine ⟨.inr ⟨h1,h2,Nat.lt_of_lt_of_le h3 (raw_up bs s _)⟩,fun h => ?_⟩
    rw [h1] at h;cases h
theorem h0_mark (t : List Nat) : h0 (mark ++ t) = (mark,⟨4,0,0⟩):=R.raw_at (bs:=mark ++ t) (q:=mark) (post:=t) (s:=s0) (Nat.zero_le _) rfl rfl
theorem QM {n : Nat} {s : R.St} (h : ¬ (s.why = 0 ∧ s.at_ < n)) : endOf n s = s:=if_neg h
theorem endOf_left {n : Nat} {s : R.St} (h : s.why = 0 ∧ s.at_ < n) : endOf n s = ⟨s.at_,s.at_,7⟩:=by
  unfold endOf R.fail
  rw [if_pos h,if_pos h.1]
theorem endOf_zero {n : Nat} {s : R.St} (h : (endOf n s).why = 0) : endOf n s = s ∧ s.why = 0 ∧ n ≤ s.at_:=by
  by_cases h1 : s.why = 0 ∧ s.at_ < n
  · rw [endOf_left h1] at h;cases h
  · rw [QM h1] at h ⊢
    exact ⟨rfl,h,Classical.byContradiction fun h2 => h1 ⟨h,by omega⟩⟩
theorem read_form {bs : List Nat} (h2 : (h0 bs).2.why = 0 ∧ (h0 bs).1 ≠ mark) : read bs = (none_,0,3):=by unfold read;rw [if_pos h2]
theorem read_fault {bs : List Nat} (h2 : ¬ ((h0 bs).2.why = 0 ∧ (h0 bs).1 ≠ mark)) (h3 : (fin bs).why ≠ 0) : read bs = (none_,(fin bs).wh,(fin bs).why):=by unfold read;rw [if_neg h2,if_pos h3]
theorem read_pick {bs : List Nat} (h2 : ¬ ((h0 bs).2.why = 0 ∧ (h0 bs).1 ≠ mark)) (h3 : (fin bs).why = 0) (h4 : ∃ b ∈ (p2 bs (h0 bs).2).1,16 ≤ b) : read bs = (none_,bs.length,3):=by unfold read;rw [if_neg h2,if_neg (by omega),if_pos h4]
theorem read_alike {bs : List Nat} (h2 : ¬ ((h0 bs).2.why = 0 ∧ (h0 bs).1 ≠ mark)) (h3 : (fin bs).why = 0) (h4 : ¬ ∃ b ∈ (p2 bs (h0 bs).2).1,16 ≤ b) (h5 : (p3 bs (h0 bs).2).1 = (p4 bs (h0 bs).2).1) : read bs = (none_,bs.length,1):=by
  unfold read;rw [if_neg h2,if_neg (by omega),if_neg h4,if_pos h5]
theorem read_fine {bs : List Nat} (h2 : ¬ ((h0 bs).2.why = 0 ∧ (h0 bs).1 ≠ mark)) (h3 : (fin bs).why = 0) (h4 : ¬ ∃ b ∈ (p2 bs (h0 bs).2).1,16 ≤ b) (h5 : (p3 bs (h0 bs).2).1 ≠ (p4 bs (h0 bs).2).1) :
    read bs = (⟨(p2 bs (h0 bs).2).1.map M.bp,(p3 bs (h0 bs).2).1,(p4 bs (h0 bs).2).1,(p5 bs (h0 bs).2).1⟩,0,0):=by
  unfold read;rw [if_neg h2,if_neg (by omega),if_neg h4,if_neg h5]
theorem read_not {bs : List Nat} (h : (read bs).2.2 ≠ 0) : (read bs).1 = none_:=by
  unfold read at h ⊢
  repeat' split
  all_goals (first | rfl | (exfalso;simp_all))
theorem QB {z : List (Int × Bool)} {a b g : Int} (h : check z a b g = 0) : ∃ t2 t3 t4 : R.St,
    p2 (bytes z a b g) ⟨4,0,0⟩ = (z.map M.pb,t2) ∧ p3 (bytes z a b g) ⟨4,0,0⟩ = (a.toNat,t3) ∧ p4 (bytes z a b g) ⟨4,0,0⟩ = (b.toNat,t4) ∧ p5 (bytes z a b g) ⟨4,0,0⟩ = (g.toNat,⟨(bytes z a b g).length,0,0⟩):=by
  obtain ⟨h1,h2,h3⟩:=check_ok h
  obtain ⟨k1,k2,k3,k4,_,k5,k6⟩:=okN_iff.1 h3
  have hb : bytes z a b g = mark ++ (V.put z.length ++ (z.map M.pb ++ (V.put a.toNat ++ (V.put b.toNat ++ V.put g.toNat)))):=by unfold bytes;rw [three_put h3]
  generalize bytes z a b g = bs at *
  have d0 : bs.drop 4 = V.put z.length ++ (z.map M.pb ++ (V.put a.toNat ++ (V.put b.toNat ++ V.put g.toNat))):=by rw [hb];rfl
  have e1 : p1 bs ⟨4,0,0⟩ = (z.length,⟨4 + (V.put z.length).length,0,0⟩):=R.num_at (s:=⟨4,0,0⟩) d0 (by omega) (by omega) rfl
  have d1:=C.drop_on d0
  have hl : bs.length = 4 + (V.put z.length).length + z.length + (V.put a.toNat).length + (V.put b.toNat).length + (V.put g.toNat).length:=by
    rw [hb]
    have : mark.length = 4:=rfl
    simp only [List.length_append,List.length_map]
    omega
  have hzl : (z.map M.pb).length = z.length:=List.length_map _
  have e2 : p2 bs ⟨4,0,0⟩ = (z.map M.pb,⟨4 + (V.put z.length).length + z.length,0,0⟩):=by
    unfold p2
    rw [e1]
    have:=R.raw_at (bs:=bs) (q:=z.map M.pb) (s:=⟨4 + (V.put z.length).length,0,0⟩) (by show 4 + (V.put z.length).length ≤ bs.length;omega) d1 rfl
    rw [hzl] at this
    exact this
  have d2:=C.drop_on d1
  rw [hzl] at d2
  have e3 : p3 bs ⟨4,0,0⟩ = (a.toNat,⟨4 + (V.put z.length).length + z.length + (V.put a.toNat).length,0,0⟩):=by
    unfold p3
    rw [e2]
    exact R.num_at (s:=⟨4 + (V.put z.length).length + z.length,0,0⟩) d2 (by omega) (by omega) rfl
  have d3:=C.drop_on d2
  have e4 : p4 bs ⟨4,0,0⟩ = (b.toNat,⟨4 + (V.put z.length).length + z.length + (V.put a.toNat).length + (V.put b.toNat).length,0,0⟩):=by
    unfold p4
    rw [e3]
    exact R.num_at (s:=⟨4 + (V.put z.length).length + z.length + (V.put a.toNat).length,0,0⟩) d3 (by omega) (by omega) rfl
  have d4:=C.drop_on d3
  have e5 : p5 bs ⟨4,0,0⟩ = (g.toNat,⟨4 + (V.put z.length).length + z.length + (V.put a.toNat).length + (V.put b.toNat).length + (V.put g.toNat).length,0,0⟩):=by
    unfold p5
    rw [e4]
    exact R.num_at (post:=[]) (s:=⟨4 + (V.put z.length).length + z.length + (V.put a.toNat).length + (V.put b.toNat).length,0,0⟩) (by rw [List.append_nil];exact d4) (by omega) (by omega) rfl
  exact ⟨_,_,_,e2,e3,e4,by rw [e5,hl]⟩
theorem h0_bytes (z : List (Int × Bool)) (a b g : Int) : h0 (bytes z a b g) = (mark,⟨4,0,0⟩):=h0_mark _
theorem read_back {z : List (Int × Bool)} {a b g : Int} (h : check z a b g = 0) : read (bytes z a b g) = (⟨z,a.toNat,b.toNat,g.toNat⟩,0,0):=by
  obtain ⟨t2,t3,t4,e2,e3,e4,e5⟩:=QB h
  obtain ⟨h1,h2,h3⟩:=check_ok h
  obtain ⟨k1,k2,k3,k4,k5,_,_⟩:=okN_iff.1 h3
  have hm:=h0_bytes z a b g
  have hf : fin (bytes z a b g) = ⟨(bytes z a b g).length,0,0⟩:=by
    unfold fin
    rw [hm,e5]
    exact QM (by simp)
  have hn : ¬ ((h0 (bytes z a b g)).2.why = 0 ∧ (h0 (bytes z a b g)).1 ≠ mark):=fun h => h.2 (by rw [hm])
  rw [read_fine hn (by rw [hf]) (by
    rw [hm,e2]
    rintro ⟨x,hx,h16⟩
    obtain ⟨y,hy,rfl⟩:=List.mem_map.1 hx
    have:=M.pb_lt (h2 y hy)
    omega) (by rw [hm,e3,e4];simp only;omega),hm,e2,e3,e4,e5]
  simp only [M.pb_ones h2]
theorem read_cut {z : List (Int × Bool)} {a b g : Int} (h : check z a b g = 0) {n : Nat} (hn : n < (bytes z a b g).length) : ∃ at_,read ((bytes z a b g).take n) = (none_,at_,2):=by
  obtain ⟨t2,t3,t4,e2,e3,e4,e5⟩:=QB h
  have hm:=h0_bytes z a b g
  have hsm:=bytes_small h
  generalize bytes z a b g = bs at *
  have w5 : (R.num bs (p4 bs ⟨4,0,0⟩).2 15).2.why = 0:=by have:=congrArg (·.2.why) e5;exact this
  have w4:=(C.num_eats hsm w5).1
  have w3:=(C.num_eats hsm (show (R.num bs (p3 bs ⟨4,0,0⟩).2 7).2.why = 0 from w4)).1
  have w2:=(C.num_eats hsm (show (R.num bs (p2 bs ⟨4,0,0⟩).2 7).2.why = 0 from w3)).1
  have w1:=(raw_eats (show (R.raw bs (p1 bs ⟨4,0,0⟩).2 ((p1 bs ⟨4,0,0⟩).1 : Int)).2.why = 0 from w2)).1
  obtain ⟨c0,q0⟩:=raw_cut (bs:=bs) (n:=n) (s:=s0) (t:=s0) (x:=4) (y:=4) (.inl ⟨rfl,Nat.zero_le _,rfl⟩) (fun _ => rfl) (by have:=congrArg (·.2.why) hm;exact this)
  have hm2 : (R.raw bs s0 ((4 : Nat) : Int)).2 = ⟨4,0,0⟩:=by have:=congrArg (·.2) hm;exact this
  have hm1 : (R.raw bs s0 ((4 : Nat) : Int)).1 = mark:=by have:=congrArg (·.1) hm;exact this
  rw [hm2] at c0
  rw [hm1] at q0
  obtain ⟨u,hu⟩ : ∃ u,R.raw (bs.take n) s0 ((4 : Nat) : Int) = u:=⟨_,rfl⟩
  have hu0 : h0 (bs.take n) = u:=hu
  rw [hu] at c0 q0
  obtain ⟨c1,q1⟩:=C.num_cut hsm c0 (show (R.num bs ⟨4,0,0⟩ 4096).2.why = 0 from w1)
  have hx1 : (R.num (bs.take n) u.2 4096).2.why = 0 → (p1 (bs.take n) u.2).1 = (p1 bs ⟨4,0,0⟩).1:=q1
  obtain ⟨c2,_⟩:=raw_cut (y:=(p1 (bs.take n) u.2).1) c1 hx1 (show (R.raw bs (p1 bs ⟨4,0,0⟩).2 ((p1 bs ⟨4,0,0⟩).1 : Int)).2.why = 0 from w2)
  obtain ⟨c3,_⟩:=C.num_cut hsm c2 (show (R.num bs (p2 bs ⟨4,0,0⟩).2 7).2.why = 0 from w3)
  obtain ⟨c4,_⟩:=C.num_cut hsm c3 (show (R.num bs (p3 bs ⟨4,0,0⟩).2 7).2.why = 0 from w4)
  obtain ⟨c5,_⟩:=C.num_cut hsm c4 (show (R.num bs (p4 bs ⟨4,0,0⟩).2 15).2.why = 0 from w5)
  have c6 : C.Cut n (p5 bs ⟨4,0,0⟩).2 (p5 (bs.take n) u.2).2:=c5
  rw [e5] at c6
  rcases c6 with ⟨_,k1,_⟩ | ⟨k1,_,_⟩
  · simp only at k1;omega
  · have hf : fin (bs.take n) = (p5 (bs.take n) u.2).2:=by
      unfold fin
      rw [hu0]
      exact QM (by rw [k1];simp)
    refine ⟨(fin (bs.take n)).wh,?_⟩
    rw [read_fault (by rw [hu0];rintro ⟨a1,a2⟩;exact a2 (q0 a1)) (by rw [hf,k1];decide),hf,k1]
theorem read_once {bs : List Nat} (hb : ∀ x ∈ bs,x < 256) {d : WD} {at_ : Nat} (h : read bs = (d,at_,0)) : check d.z d.a d.b d.g = 0 ∧ bytes d.z d.a d.b d.g = bs:=by
  by_cases h1 : (h0 bs).2.why = 0 ∧ (h0 bs).1 ≠ mark
  · rw [read_form h1] at h;cases h
  by_cases h2 : (fin bs).why = 0
  rotate_left
  · rw [read_fault h1 h2] at h
    exact absurd (Prod.mk.inj (Prod.mk.inj h).2).2 h2
  by_cases h3 : ∃ b ∈ (p2 bs (h0 bs).2).1,16 ≤ b
  · rw [read_pick h1 h2 h3] at h;cases h
  by_cases h4 : (p3 bs (h0 bs).2).1 = (p4 bs (h0 bs).2).1
  · rw [read_alike h1 h2 h3 h4] at h;cases h
  rw [read_fine h1 h2 h3 h4] at h
  have hd:=(Prod.mk.inj h).1
  subst hd
  obtain ⟨f1,f2,f3⟩:=endOf_zero (show (endOf bs.length (p5 bs (h0 bs).2).2).why = 0 from h2)
  obtain ⟨g1,g2,g3⟩:=C.num_eats hb (show (R.num bs (p4 bs (h0 bs).2).2 15).2.why = 0 from f2)
  obtain ⟨j1,j2,j3⟩:=C.num_eats hb (show (R.num bs (p3 bs (h0 bs).2).2 7).2.why = 0 from g1)
  obtain ⟨k1,k2,k3⟩:=C.num_eats hb (show (R.num bs (p2 bs (h0 bs).2).2 7).2.why = 0 from j1)
  obtain ⟨l1,l2,l3⟩:=raw_eats (show (R.raw bs (p1 bs (h0 bs).2).2 ((p1 bs (h0 bs).2).1 : Int)).2.why = 0 from k1)
  obtain ⟨m1,m2,m3⟩:=C.num_eats hb (show (R.num bs (h0 bs).2 4096).2.why = 0 from l1)
  obtain ⟨n1,n2,n3⟩:=raw_eats (m:=4) (show (R.raw bs s0 ((4 : Nat) : Int)).2.why = 0 from m1)
  have hmk : (h0 bs).1 = mark:=Classical.byContradiction fun hne => h1 ⟨m1,hne⟩
  have x1:=R.num_le (bs:=bs) (s:=(h0 bs).2) (most:=4096) (by omega)
  have x3:=R.num_le (bs:=bs) (s:=(p2 bs (h0 bs).2).2) (most:=7) (by omega)
  have x4:=R.num_le (bs:=bs) (s:=(p3 bs (h0 bs).2).2) (most:=7) (by omega)
  have x5:=R.num_le (bs:=bs) (s:=(p4 bs (h0 bs).2).2) (most:=15) (by omega)
  have y1 : (p1 bs (h0 bs).2).1 = (p2 bs (h0 bs).2).1.length:=l2.symm
  replace x1 : ((p1 bs (h0 bs).2).1 : Int) ≤ 4096:=x1
  replace x3 : ((p3 bs (h0 bs).2).1 : Int) ≤ 7:=x3
  replace x4 : ((p4 bs (h0 bs).2).1 : Int) ≤ 7:=x4
  replace x5 : ((p5 bs (h0 bs).2).1 : Int) ≤ 15:=x5
  have z16 : ∀ b ∈ (p2 bs (h0 bs).2).1,b < 16:=fun b hbm => Classical.byContradiction fun hne => h3 ⟨b,hbm,by omega⟩
  have hok : okN ((p3 bs (h0 bs).2).1 : Int) ((p4 bs (h0 bs).2).1 : Int) ((p5 bs (h0 bs).2).1 : Int) = true:=okN_iff.2 ⟨by omega,by omega,by omega,by omega,by omega,by omega,by omega⟩
  refine ⟨check_fine (by rw [List.length_map];omega) (fun x hx => ?_) hok,?_⟩
  · obtain ⟨y,_,rfl⟩:=List.mem_map.1 hx
    exact M.bp_ok y
  · unfold bytes
    rw [three_put hok,M.bp_ones z16,List.length_map,← y1]
    simp only [Int.toNat_natCast]
    have q5 : bs.drop (p5 bs (h0 bs).2).2.at_ = []:=List.drop_eq_nil_of_le f3
    have e5 : bs.drop (p4 bs (h0 bs).2).2.at_ = V.put (p5 bs (h0 bs).2).1:=by
      have:=g2
      rw [show (R.num bs (p4 bs (h0 bs).2).2 15) = p5 bs (h0 bs).2 from rfl,q5,List.append_nil] at this
      exact this
    have e4 : bs.drop (p3 bs (h0 bs).2).2.at_ = V.put (p4 bs (h0 bs).2).1 ++ V.put (p5 bs (h0 bs).2).1:=by rw [← e5];exact j2
    have e3 : bs.drop (p2 bs (h0 bs).2).2.at_ = V.put (p3 bs (h0 bs).2).1 ++ (V.put (p4 bs (h0 bs).2).1 ++ V.put (p5 bs (h0 bs).2).1):=by rw [← e4];exact k2
    have e2 : bs.drop (p1 bs (h0 bs).2).2.at_ = (p2 bs (h0 bs).2).1 ++ (V.put (p3 bs (h0 bs).2).1 ++ (V.put (p4 bs (h0 bs).2).1 ++ V.put (p5 bs (h0 bs).2).1)):=by rw [← e3];exact l3
    have e1 : bs.drop (h0 bs).2.at_ = V.put (p1 bs (h0 bs).2).1 ++ ((p2 bs (h0 bs).2).1 ++ (V.put (p3 bs (h0 bs).2).1 ++ (V.put (p4 bs (h0 bs).2).1 ++ V.put (p5 bs (h0 bs).2).1))):=by rw [← e2];exact m2
    have e0 : bs.drop 0 = (h0 bs).1 ++ bs.drop (h0 bs).2.at_:=n3
    rw [hmk,e1] at e0
    exact e0.symm
end Go.Proofs.Ytcbfghcdbmlneaa.T
namespace Go.Proofs.Ytcbfghcdbmlneaa
open Go.ChangeShapes Go.WideShapes Go.RowKit Go.Deep
structure Wt where
  A : Option Addr
  len : Nat
  cap : Nat
  z : List (Int × Bool)
  a : Int
  b : Int
  g : Int
def wtC (x : Wt) : List Value:=[.slice x.A x.len x.cap,.int .i64 x.a,.int .i64 x.b,.int .i64 x.g]
def wtA (x : Wt) : Value:=.agg #[.slice x.A x.len x.cap,.int .i64 x.a,.int .i64 x.b,.int .i64 x.g]
theorem l6 (x : Wt) : wtA x = .agg (wtC x).toArray:=rfl
structure Wt.Ok (x : Wt) (w : World) (B : Nat) : Prop where
  picks : Picks w B x.A x.len x.z
  lc : x.len ≤ x.cap
  cm : x.cap ≤ maxLen
  a : I64 x.a
  b : I64 x.b
  g : I64 x.g
theorem Wt.Ok.keep {x : Wt} {w w' : World} {B : Nat} (h : x.Ok w B) (hk : ∀ p : Addr,p.block < B → w'.cell? p = w.cell? p) : x.Ok w' B:=⟨h.picks.keep hk,h.lc,h.cm,h.a,h.b,h.g⟩
theorem Wt.Ok.below {x : Wt} {w w' : World} {B : Nat} (h : x.Ok w B) (hb : Below B w w') : x.Ok w' B:=h.keep fun _ hp => hb.cell hp
theorem Wt.Ok.more {x : Wt} {w : World} {B B2 : Nat} (h : x.Ok w B) (hB : B ≤ B2) : x.Ok w B2:=⟨⟨h.picks.1.more hB,h.picks.2⟩,h.lc,h.cm,h.a,h.b,h.g⟩
theorem Wt.Ok.len_ {x : Wt} {w : World} {B : Nat} (h : x.Ok w B) : x.z.length = x.len:=h.picks.1.len
def wtNone : Wt:=⟨none,0,0,[],0,0,0⟩
theorem lF (w : World) (B : Nat) : wtNone.Ok w B:=⟨⟨⟨rfl,fun h => absurd (show 0 < 0 from h) (by omega)⟩,fun x hx => by cases hx⟩,Nat.le_refl _,by simp [wtNone,maxLen],by simp [wtNone,I64],by simp [wtNone,I64],by simp [wtNone,I64]⟩
theorem jU (x : Wt) : ∀ u ∈ wtC x,u.oneCell' = true:=by
  intro u hu
  simp only [wtC,List.mem_cons,List.not_mem_nil,or_false] at hu
  rcases hu with h | h | h | h <;> subst h <;> rfl
theorem lW : (Try.prog.info? 24).map (·.zero) = some (some (.agg [Value.slice none 0 0,.int .i64 0,.int .i64 0,.int .i64 0].toArray)):=by kernel_rfl
theorem jD : (Try.prog.info? 24).map (·.size) = some 4:=by kernel_rfl
theorem jS {w : World} {g : Nat} {t : TypeId} {x : Wt} (h : Blk w g t (wtC x)) :
    w.cell? ⟨g,0,none⟩ = some (.slice x.A x.len x.cap) ∧ w.cell? ⟨g,1,none⟩ = some (.int .i64 x.a) ∧ w.cell? ⟨g,2,none⟩ = some (.int .i64 x.b) ∧ w.cell? ⟨g,3,none⟩ = some (.int .i64 x.g) :=
  ⟨h.cell 0,h.cell 1,h.cell 2,h.cell 3⟩
def Wt.data (x : Wt) (d : T.WD) : Prop:=x.z = d.z ∧ x.a = (d.a : Int) ∧ x.b = (d.b : Int) ∧ x.g = (d.g : Int)
def Wt.check (x : Wt) : Nat:=T.check x.z x.a x.b x.g
def Wt.bytes (x : Wt) : List Nat:=T.bytes x.z x.a x.b x.g
theorem JG {w : World} {L g : Nat} {e : TypeId} {v : Value} {xs : List Value} (h : Own w L e v xs) (hg : g < L) : v.ownBlock = none ∨ v.ownBlock ≠ some g:=by
  rcases hob : v.ownBlock with _ | k
  · exact .inl rfl
  · exact .inr (by have:=(h.block k hob).1;intro e;cases e;omega)
theorem own_ne3 {w : World} {L g : Nat} {e : TypeId} {v : Value} {xs : List Value} (h : Own w L e v xs) (hg : g < L) : some g ≠ v.ownBlock:=fun e => by
  have:=(h.block g e.symm).1
  omega
theorem Y2 {w : World} {L g : Nat} {e : TypeId} {v : Value} {xs : List Value} (h : Own w L e v xs) (hg : w.heap.size ≤ g) : v.ownBlock = none ∨ v.ownBlock ≠ some g:=by
  rcases hob : v.ownBlock with _ | k
  · exact .inl rfl
  · exact .inr (by have:=(h.block k hob).2;intro e;cases e;omega)
section
variable {H : Type} {enc : TypeId × Value → H} {P : Program} {w : World} {base : Nat} {held : Bool}
theorem QG {t te : TypeId} {q0 q1 q2 q3 f0 f1 : Field} {r : Reach} {b0 : Nat} {v : Value} {d : DataW H} {ps : List MemPlace} (ht : P.underlying t = some (.struct #[q0,q1,q2,q3])) (hqone : oneCellFields P #[q0,q1,q2,q3] = true)
    (k0 : P.underlying q0.type = some (.slice te)) (k1 : P.underlying q1.type = some (.int .i64)) (k2 : P.underlying q2.type = some (.int .i64)) (k3 : P.underlying q3.type = some (.int .i64)) (hCt : P.cellsOf t = 4)
    (he : P.underlying te = some (.struct #[f0,f1])) (hone : oneCellFields P #[f0,f1] = true) (hC : P.cellsOf te = 2) (h0 : P.underlying f0.type = some (.int .i64)) (h1 : P.underlying f1.type = some .bool)
    (hval : Value.okWide P w r b0 t v) (h : DataW.Trod enc P w base (fun _ => true) held t v d ps) : ∃ x : Wt,v = wtA x ∧ x.Ok w w.heap.size:=by
  obtain ⟨cs,rfl,_⟩:=okWide_struct ht hval
  obtain ⟨fuel,hf⟩:=h
  rw [show (Value.agg cs).cells = cs from rfl] at hf
  obtain ⟨xs,k,_,_,hlen,hxl,hfl⟩:=DataW.trod_struct ht hf
  have hfield : ∀ (j : Nat) (fl : Field),(#[q0,q1,q2,q3] : Array Field)[j]? = some fl → ∃ y,DataW.trod enc P w base (fun _ => true) held k fl.type ((cs.toList.drop j).take 1) = some y:=by
    intro j fl hj
    have hlt : j < 4:=(Array.getElem?_eq_some_iff.1 hj).1
    obtain ⟨ho,hc⟩:=hone_of hqone j fl hj
    have g:=hfl j fl hj
    rw [ho,hc,List.getElem?_eq_getElem (by rw [hxl];exact hlt)] at g
    exact ⟨_,g⟩
  rw [hCt] at hlen
  obtain ⟨cl,hcl⟩ : ∃ cl,cs.toList = cl:=⟨_,rfl⟩
  rw [hcl] at hfield hlen
  have hcs : cs = cl.toArray:=by rw [← hcl]
  subst hcs
  clear hf hfl hcl
  match cl,hlen,hfield with
  | [v0,v1,v2,v3],_,hfield =>
    obtain ⟨y0,g0⟩:=hfield 0 q0 rfl
    obtain ⟨_,g1⟩:=hfield 1 q1 rfl
    obtain ⟨_,g2⟩:=hfield 2 q2 rfl
    obtain ⟨_,g3⟩:=hfield 3 q3 rfl
    simp only [List.drop_succ_cons,List.drop_zero,List.take_succ_cons,List.take_zero] at g0 g1 g2 g3
    obtain ⟨n1,rfl,w1⟩:=qX k1 g1
    obtain ⟨n2,rfl,w2⟩:=qX k2 g2
    obtain ⟨n3,rfl,w3⟩:=qX k3 g3
    have hv : ∃ a len cap,v0 = .slice a len cap:=by
      rcases open_slice k0 g0 with ⟨hcs,_⟩ | ⟨x,l,c,_,_,_,_,hcs,_⟩
      · simp at hcs;exact ⟨_,_,_,hcs⟩
      · simp at hcs;exact ⟨_,_,_,hcs⟩
    obtain ⟨a,len,cap,rfl⟩:=hv
    obtain ⟨l,hp,hlc,hcm⟩:=JU (a:=a) (len:=len) (cap:=cap) (d:=y0.1) (ps:=y0.2) k0 he hone hC h0 h1 ⟨k,g0⟩
    exact ⟨⟨a,len,cap,l,n1,n2,n3⟩,rfl,hp,hlc,hcm,qT w1,qT w2,qT w3⟩
end
end Go.Proofs.Ytcbfghcdbmlneaa
namespace Go.Proofs.Ytcbfghcdbmlneaa
open Go.RowKit
theorem j9 {P : Program} {ops : Array Oper} {rest : List Oper} {o : Oper} {a : Act} {w : World} {Q : Exit → Act → World → Prop} (hgd : o.guard = none) (ty : TypeId) (x y : Operand) (ho : o.op = .store ty x y)
    (g k : Nat) (v : Value) (hx : a.eval x = .pointer (some ⟨g,k,none⟩)) (hy : a.eval y = v) (h1 : v.oneCell' = true) (hc : v.cells = #[v])
    (t : TypeId) (cs : List Value) (hg : Blk w g t cs) (hk : k < cs.length) (hi : (P.info? ty).map (·.size) = some 1)
    (h : ∀ w',Blk w' g t (cs.set k v) → w.grownBy w' (some g) → w'.heap.size = w.heap.size → wpList P ops Q rest (a.put o.dst undef) w') : wpList P ops Q (o :: rest) a w:=by
  refine wpList_plain hgd fun K hK => ?_
  have hrun : (storeVar ty ⟨g,k,none⟩ v).run P w = .ok () (w.setCells g k [v]):=by
    have hst:=run_storeCells_cells (P:=P) g k [v] 0 w (fun j hj => by
      have : j = 0:=by simp at hj;exact hj
      subst this
      show (w.cell? ⟨g,k,none⟩).isSome = true
      rw [hg.cell,List.getElem?_eq_getElem hk];rfl) (fun j hj => by
      have : j = 0:=by simp at hj;exact hj
      subst this
      exact hg.frozen _) (fun u hu => by rw [List.mem_singleton] at hu;subst hu;exact h1)
    cases hq : P.info? ty with
    | none => simp [hq] at hi
    | some i =>
      have hs : i.size = 1:=by simpa [hq] using hi
      simp only [Nat.add_zero] at hst
      simp [storeVar,sizeOf,typeInfo,hq,hc,hs,hst]
  have hw : w.setCells g k [v] = w.setCell ⟨g,k,none⟩ v:=rfl
  rw [hw] at hrun
  unfold Oper.wp execOp
  simp only [ho,hx,hy,Instr.storeAt,Instr.sureAddr,Sem.run_bind,Sem.run_pure,Result.andThen_ok,hrun]
  exact hK _ _ (h _ (hg.set k v) (jN (jK _ _)) (by simp))
theorem LD {P : Program} {ops : Array Oper} {rest : List Oper} {o : Oper} {a : Act} {w : World} {Q : Exit → Act → World → Prop} (hgd : o.guard = none) (t : TypeId) (l c : Operand) (ho : o.op = .makeSlice t l c)
    (e : TypeId) (z u : Value) (sz bytes : Nat) (ht : P.underlying t = some (.slice e)) (hi : (P.info? e).map (fun i => (i.zero,i.size,i.bytes)) = some (some z,sz,bytes)) (hz1 : z.cells = (List.replicate sz u).toArray) (hsz : 0 < sz)
    (kl kc : IntKind) (n m : Nat) (hl : a.eval l = .int kl (n : Int)) (hc : a.eval c = .int kc (m : Int)) (hnm : n ≤ m) (hb : bytes * m ≤ 281474976710656) (h63 : m ≤ 9223372036854775807)
    (h : ∀ g w',w.heap.size ≤ g → Blk w' g e (List.replicate (m * sz) u) → Below w.heap.size w w' → wpList P ops Q rest (a.put o.dst (.slice (some ⟨g,0,none⟩) n m)) w') : wpList P ops Q (o :: rest) a w:=by
  refine wpList_plain hgd fun K hK => ?_
  obtain ⟨i,hi0,hzz⟩:=Option.map_eq_some_iff.1 hi
  simp only [Prod.mk.injEq] at hzz
  obtain ⟨hz,hs,hbb⟩:=hzz
  have hb' : (i.bytes : Int) * (m : Int) ≤ 281474976710656:=by
    have h : ((i.bytes * m : Nat) : Int) ≤ 281474976710656:=by rw [hbb];omega
    rwa [Int.natCast_mul] at h
  have hr:=run_make (P:=P) w t e i z ht hi0 hz kl kc n m (by omega) (by omega) hb' (by omega)
  simp only [Int.toNat_natCast,hs,hz1] at hr
  have hmc : madeCells (List.replicate sz u).toArray (m * sz) = (List.replicate (m * sz) u).toArray:=by
    apply Array.ext
    · simp [madeCells]
    · intro k h1 h2
      have hlt : k % sz < sz:=Nat.mod_lt _ hsz
      simp [madeCells,hlt]
  unfold Oper.wp
  simp [execOp,ho,hl,hc,hr,Result.andThen]
  exact hK _ _ (h _ _ (Nat.le_refl _) (Blk.newAt hmc rfl) ((Below.refl _ _).alloc (Nat.le_refl _) _))
set_option maxRecDepth 100000 in
set_option maxHeartbeats 800000 in
theorem sc_told (x : Int) (b : Bool) (h0 : 0 ≤ x) (h7 : x ≤ 7) (w : World) :
    Calls Try.prog 56 #[.agg #[.int .i64 x,.bool b]] w fun e w' => e = .returned (byteV (M.pb (x,b))) ∧ Below w.heap.size w w':=by
  have HE:=kp (M.pb_int (x:=(x,b)) ⟨h0,h7⟩)
  have h70 : ¬ x < 0:=by omega
  cases b with
  | true =>
    have HR : Kept (byteV (M.pb (x,true)) = .int .u8 (x + 8)):=kp (by unfold byteV;rw [HE.out];rfl)
    rw [HR.out]
    go_enter Try.func56,Try.ntmps56
    go_wp2
    go_ret
    exact ⟨rfl,(Below.refl _ _).alloc (Nat.le_refl _) _⟩
  | false =>
    have HR : Kept (byteV (M.pb (x,false)) = .int .u8 x):=kp (by unfold byteV;rw [HE.out];simp)
    rw [HR.out]
    go_enter Try.func56,Try.ntmps56
    go_wp2
    go_ret
    exact ⟨rfl,(Below.refl _ _).alloc (Nat.le_refl _) _⟩
def PutPost (n : Nat) (z : List (Int × Bool)) (w : World) : Ending → World → Prop:=fun e w' =>
  (4096 < n ∧ e = .returned (.tuple #[.slice none 0 0,.int .i64 4]) ∨
   n ≤ 4096 ∧ (∃ x ∈ z,¬ M.okP x) ∧ e = .returned (.tuple #[.slice none 0 0,.int .i64 1]) ∨
   n ≤ 4096 ∧ (∀ x ∈ z,M.okP x) ∧ ∃ g,e = .returned (.tuple #[.slice (some ⟨g,0,none⟩) n n,.int .i64 0]) ∧ w.heap.size ≤ g ∧ Blk w' g 5 ((z.map M.pb).map byteV)) ∧ Below w.heap.size w w'
def putTo (z : List (Int × Bool)) (n i : Nat) : List Value:=((z.take i).map M.pb).map byteV ++ List.replicate (n - i) (byteV 0)
theorem putTo_len {z : List (Int × Bool)} {n i : Nat} (hz : z.length = n) (hi : i ≤ n) : (putTo z n i).length = n:=by simp [putTo];omega
theorem putTo_set {z : List (Int × Bool)} {n i : Nat} {x : Int × Bool} (hz : z.length = n) (hx : z[i]? = some x) : (putTo z n i).set i (byteV (M.pb x)) = putTo z n (i + 1):=by
  have hi : i < z.length:=(List.getElem?_eq_some_iff.1 hx).1
  unfold putTo
  have e1 : (((z.take i).map M.pb).map byteV).length = i:=by simp;omega
  rw [List.set_append_right _ _ (by omega),e1,Nat.sub_self,show n - i = (n - (i + 1)) + 1 by omega,List.replicate_succ,List.set_cons_zero,List.take_add_one,hx]
  simp
theorem putTo_all {z : List (Int × Bool)} {n : Nat} (hz : z.length = n) : putTo z n n = (z.map M.pb).map byteV:=by
  unfold putTo
  rw [Nat.sub_self,List.take_of_length_le (by omega)];simp
set_option maxRecDepth 100000 in
set_option maxHeartbeats 1600000 in
theorem sc_put (B : Nat) (A : Option Addr) (n c : Nat) (z : List (Int × Bool)) (w : World) (hp : Picks w B A n z) (hn : n ≤ 5000) (hB : B ≤ w.heap.size) :
    Calls Try.prog 25 #[.slice A n c] w (PutPost n z w):=by
  have HP:=kp hp;have HLn:=kp hp.1.len
  clear hp
  by_cases hbig : 4096 < n
  · go_enter Try.func25,Try.ntmps25
    go_wp2
    refine bodyPost_ret (results_tmp2 rfl _ _ _) rfl ?_;unfold PutPost
    exact ⟨.inl ⟨hbig,rfl⟩,Below.refl _ _⟩
  · have hsm : n ≤ 4096:=by omega
    clear hbig
    go_enter Try.func25,Try.ntmps25
    go_wp2_with (first
      | ((with_reducible show Sl 12);go_must (refine LD rfl 26 (.tmp 11) (.tmp 11) rfl 5 (.int .u8 0) (.int .u8 0) 1 1 Try.underlying26 lG rfl (by omega) .i64 .i64 n n rfl rfl (Nat.le_refl _) (by omega) (by omega) ?_);intro gb w1 hgb hk1 hb1;have HG:=kp hgb;have HK1 : Kept (Blk w1 gb 5 (putTo z n 0)):=kp (by unfold putTo;simpa [byteV] using hk1);have HB1:=kp hb1;have hs1:=hb1.size;clear hk1 hb1 hgb))
    go_loopw [15] (fun v15 wr => ∃ i : Nat,i ≤ n ∧ v15 = .int .i64 i ∧ Blk wr gb 5 (putTo z n i) ∧ (∀ (j : Nat) x,j < i → z[j]? = some x → M.okP x) ∧ Below w.heap.size w wr) (fun v15 _ => n - (intOf v15).toNat)
    case atStart => exact ⟨0,by omega,rfl,HK1.out,(fun _ _ h => by omega),HB1.out⟩
    case round =>
      obtain ⟨i,hi,rfl,hk,hbef,hbw⟩:=hrel
      have HK:=kp hk;have HBef:=kp hbef;have HBw:=kp hbw;have hsz:=hbw.size;have hlk:=hk.lt
      have HPr:=kp (HP.out.keep (w':=wr) fun p h => hbw.cell (by omega))
      clear hk hbef hbw
      by_cases hlt : i < n
      · obtain ⟨ad,x,rfl,hab,hx,h0,hc⟩:=HPr.out.1.field hlt
        have HX:=kp hx
        have c0:=h0 (by omega);have c1:=hc 1 (by omega) (by omega)
        clear h0 hc hx
        obtain ⟨xw,xb⟩:=x
        replace c0 : wr.cell? (ad.add (i * 2)) = some (.int .i64 xw):=c0
        replace c1 : wr.cell? ⟨(ad.add (i * 2)).block,(ad.add (i * 2)).off + 1,none⟩ = some (.bool xb):=c1
        by_cases hlo : xw < 0
        · have HBad : Kept (∃ x ∈ z,¬ M.okP x):=kp ⟨_,List.mem_of_getElem? HX.out,fun h => by have h1:=h.1;simp only at h1;omega⟩
          go_wp2
          refine bodyPost_ret (results_tmp2 rfl _ _ _) rfl ?_;unfold PutPost
          exact ⟨.inr (.inl ⟨hsm,HBad.out,rfl⟩),HBw.out.trans ((Below.refl _ _).alloc hsz _)⟩
        · by_cases hhi : 7 < xw
          · have HBad : Kept (∃ x ∈ z,¬ M.okP x):=kp ⟨_,List.mem_of_getElem? HX.out,fun h => by have h1:=h.2;simp only at h1;omega⟩
            go_wp2
            refine bodyPost_ret (results_tmp2 rfl _ _ _) rfl ?_;unfold PutPost
            exact ⟨.inr (.inl ⟨hsm,HBad.out,rfl⟩),HBw.out.trans ((Below.refl _ _).alloc hsz _)⟩
          · have HOkx : Kept (M.okP (xw,xb)):=kp ⟨by show 0 ≤ xw;omega,by show xw ≤ 7;omega⟩
            go_wp2_with (go_at_call 56;fail)
            refine (sc_told xw xb HOkx.out.1 HOkx.out.2 _).mono ?_
            rintro e w2 ⟨rfl,hb2⟩
            have HB2:=kp (HBw.out.trans (((Below.refl _ _).alloc hsz _).trans (hb2.mono (by rw [World.size_alloc];omega))))
            have HK2:=kp ((HK.out.alloc (.cells #[.int .i64 xw,.bool xb] 56)).below hb2 (by rw [World.size_alloc];omega))
            have hs2:=HB2.out.size
            clear hb2
            go_wp2_with (first
              | ((with_reducible show Sn);go_must (refine j9 rfl 5 (.tmp 32) (.tmp 31) rfl gb i (byteV (M.pb (xw,xb))) rfl rfl rfl rfl _ _ HK2.out (by rw [putTo_len HLn.out hi];exact hlt) size1b ?_);intro w3 hk3 hg3 hz3
                 rw [putTo_set HLn.out HX.out] at hk3
                 have HK3:=kp hk3;have HB3:=kp (HB2.out.grown hg3 hs2 (fun k e => by cases e;exact HG.out));clear hk3 hg3 hz3))
            go_roundw
            case rel =>
              refine ⟨i + 1,by omega,by go_num,HK3.out,fun j y hj hy => ?_,HB3.out⟩
              by_cases e : j = i
              · subst e
                rw [HX.out] at hy
                cases hy
                exact HOkx.out
              · exact HBef.out j y (by omega) hy
            case measure => simp [intOf];omega
      · have hge : n ≤ i:=by omega
        clear hlt
        go_wp2
        refine bodyPost_ret (results_tmp2 rfl _ _ _) rfl ?_;unfold PutPost
        refine ⟨.inr (.inr ⟨hsm,fun x hx => ?_,gb,rfl,HG.out,?_⟩),HBw.out⟩
        · obtain ⟨j,hj⟩:=List.getElem?_of_mem hx
          exact HBef.out j x (by have:=(List.getElem?_eq_some_iff.1 hj).1;have:=HLn.out;omega) hj
        · have e : i = n:=by omega
          have:=HK.out
          rw [e,putTo_all HLn.out] at this
          exact this
set_option maxRecDepth 100000 in
set_option maxHeartbeats 800000 in
theorem vG (n most : Int) (w : World) (r : Bool) (hr : decide (0 ≤ n ∧ n ≤ most) = r) :
    Calls Try.prog 30 #[.int .i64 n,.int .i64 most] w fun e w' => e = .returned (.bool r) ∧ w = w':=by
  have HR:=kp hr
  clear hr
  by_cases h0 : n < 0
  · have HF : Kept (r = false):=kp (by rw [← HR.out];exact decide_eq_false (by omega))
    rw [HF.out]
    go_enter Try.func30,Try.ntmps30
    go_wp2
    go_ret
    exact ⟨rfl,rfl⟩
  · by_cases h1 : most < n
    · have HF : Kept (r = false):=kp (by rw [← HR.out];exact decide_eq_false (by omega))
      rw [HF.out]
      go_enter Try.func30,Try.ntmps30
      go_wp2
      go_ret
      exact ⟨jQ (decide_eq_false (by omega)),rfl⟩
    · have HF : Kept (r = true):=kp (by rw [← HR.out];exact decide_eq_true (by omega))
      rw [HF.out]
      go_enter Try.func30,Try.ntmps30
      go_wp2
      go_ret
      exact ⟨rfl,rfl⟩
set_option maxRecDepth 100000 in
set_option maxHeartbeats 3200000 in
theorem xF (B : Nat) (x : Wt) (w : World) (hx : x.Ok w B) (hn : x.len ≤ 5000) (hB : B ≤ w.heap.size) (c : Nat) (hc : x.check = c) :
    Calls Try.prog 12 #[wtA x] w fun e w' => e = .returned (.int .i64 (c : Int)) ∧ Below w.heap.size w w':=by
  have HX:=kp hx;have HC:=kp hc;have HLn:=kp hx.len_
  clear hx hc
  rw [l6]
  go_enter Try.func12,Try.ntmps12
  go_wp2_with (first
    | ((with_reducible refine j6 rfl 24 (.tmp 0) rfl (wtC x) rfl ?_);intro g1 w1 hg1 hk1 hw1;have HK1:=kp hk1;have HW1:=kp hw1;have hs1:=hw1.size;have hl1:=hk1.lt;obtain ⟨hc0,_,_,_⟩:=jS hk1;clear hg1 hk1 hw1)
    | (go_at_call 25;fail))
  refine (sc_put B x.A x.len x.cap x.z w1 (HX.out.below (HW1.out.mono hB)).picks hn (by omega)).mono ?_
  rintro e w2 ⟨h,hb2⟩
  have HB2:=kp (HW1.out.trans (hb2.mono hs1))
  obtain ⟨_,hd1,hd2,hd3⟩:=jS (HK1.out.below hb2 hl1)
  clear hb2 hc0
  rcases h with ⟨h4,rfl⟩ | ⟨h4,hbad,rfl⟩ | ⟨h4,hok,g,rfl,hg,hk⟩
  · have HE : Kept ((4 : Nat) = c):=kp (by rw [← HC.out];exact (T.check_long (by rw [HLn.out];exact h4)).symm)
    go_wp2
    go_ret
    exact ⟨lC (by rw [← HE.out];rfl),HB2.out⟩
  · have HE : Kept ((1 : Nat) = c):=kp (by rw [← HC.out];exact (T.check_picks (by rw [HLn.out];exact h4) hbad).symm)
    clear hbad
    go_wp2
    go_ret
    exact ⟨lC (by rw [← HE.out];rfl),HB2.out⟩
  · have HOk:=kp hok
    have HNo : Kept (T.okN x.a x.b x.g = false → (1 : Nat) = c):=kp (fun h => by rw [← HC.out];exact (T.check_nums (by rw [HLn.out];exact h4) h).symm)
    have HYes : Kept (T.okN x.a x.b x.g = true → (0 : Nat) = c):=kp (fun h => by rw [← HC.out];exact (T.check_fine (by rw [HLn.out];exact h4) HOk.out h).symm)
    clear hok hg hk
    by_cases hab : x.a = x.b
    · have HE : Kept ((1 : Nat) = c):=kp (HNo.out (by unfold T.okN;exact decide_eq_false (by omega)))
      have hq : (x.a == x.b) = true:=by rw [beq_iff_eq];exact hab
      clear hab
      go_wp2
      go_ret
      exact ⟨lC (by rw [← HE.out];rfl),HB2.out⟩
    have hq : (x.a == x.b) = false:=by rw [beq_eq_false_iff_ne];exact hab
    obtain ⟨ra,hra⟩ : ∃ r,decide (0 ≤ x.a ∧ x.a ≤ 7) = r:=⟨_,rfl⟩
    obtain ⟨rb,hrb⟩ : ∃ r,decide (0 ≤ x.b ∧ x.b ≤ 7) = r:=⟨_,rfl⟩
    obtain ⟨rg,hrg⟩ : ∃ r,decide (0 ≤ x.g ∧ x.g ≤ 15) = r:=⟨_,rfl⟩
    have HRa:=kp hra;have HRb:=kp hrb;have HRg:=kp hrg;have HAb:=kp hab
    clear hra hrb hrg hab
    cases ra
    · have HE : Kept ((1 : Nat) = c):=kp (HNo.out (by unfold T.okN;exact decide_eq_false (by have:=of_decide_eq_false HRa.out;omega)))
      go_wp2_with (go_at_call 30;fail)
      refine (vG x.a 7 w2 _ HRa.out).mono ?_
      rintro e w3 ⟨rfl,rfl⟩
      go_wp2
      go_ret
      exact ⟨lC (by rw [← HE.out];rfl),HB2.out⟩
    go_wp2_with (go_at_call 30;fail)
    refine (vG x.a 7 w2 _ HRa.out).mono ?_
    rintro e w3 ⟨rfl,rfl⟩
    cases rb
    · have HE : Kept ((1 : Nat) = c):=kp (HNo.out (by unfold T.okN;exact decide_eq_false (by have:=of_decide_eq_false HRb.out;omega)))
      go_wp2_with (go_at_call 30;fail)
      refine (vG x.b 7 w2 _ HRb.out).mono ?_
      rintro e w3 ⟨rfl,rfl⟩
      go_wp2
      go_ret
      exact ⟨lC (by rw [← HE.out];rfl),HB2.out⟩
    go_wp2_with (go_at_call 30;fail)
    refine (vG x.b 7 w2 _ HRb.out).mono ?_
    rintro e w3 ⟨rfl,rfl⟩
    cases rg
    · have HE : Kept ((1 : Nat) = c):=kp (HNo.out (by unfold T.okN;exact decide_eq_false (by have:=of_decide_eq_false HRg.out;omega)))
      go_wp2_with (go_at_call 30;fail)
      refine (vG x.g 15 w2 _ HRg.out).mono ?_
      rintro e w3 ⟨rfl,rfl⟩
      go_wp2
      go_ret
      exact ⟨lC (by rw [← HE.out];rfl),HB2.out⟩
    have HE : Kept ((0 : Nat) = c):=kp (HYes.out (by unfold T.okN;exact decide_eq_true (by have h1:=of_decide_eq_true HRa.out;have h2:=of_decide_eq_true HRb.out;have h3:=of_decide_eq_true HRg.out;have h4:=HAb.out;omega)))
    go_wp2_with (go_at_call 30;fail)
    refine (vG x.g 15 w2 _ HRg.out).mono ?_
    rintro e w3 ⟨rfl,rfl⟩
    go_wp2
    go_ret
    exact ⟨lC (by rw [← HE.out];rfl),HB2.out⟩
def bruijn : List Nat:=[0,1,28,2,29,14,24,3,30,22,20,15,25,17,4,8,31,27,13,23,21,19,16,7,26,12,18,6,11,5,10,9]
def Tab (w : World) : Prop:=Row byteV w 1 (some ⟨0,0,none⟩) 32 bruijn
theorem Tab.below {w w' : World} {B : Nat} (h : Tab w) (hb : Below B w w') (hB : 1 ≤ B) : Tab w':=Row.below h (hb.mono hB)
theorem Tab.size {w : World} (h : Tab w) : 1 ≤ w.heap.size:=by
  obtain ⟨ad,x,e,hb,_,hc⟩:=Row.get h (k:=0) (by omega)
  have:=yD hc
  omega
theorem Tab.heldAt {w w' : World} {S : Nat → Prop} (h : Tab w) (hb : Held S w w') (h0 : S 0) : Tab w':=Row.heldAt h hb fun ad _ e => by cases e;exact h0
set_option maxRecDepth 100000 in
set_option maxHeartbeats 800000 in
theorem wr_bytes (K : Nat → Prop) (g : Nat) (bs : List Nat) (w : World) (hk : Wr w K g bs) (hbs : bs.length ≤ 1000000) :
    Calls Try.prog 29 #[.pointer (some ⟨g,0,none⟩)] w fun e w' => ∃ v,e = .returned v ∧ Own w' w.heap.size 5 v (bs.map byteV) ∧ Wr w' K g bs ∧ Below w.heap.size w w':=by
  have HK:=kp hk
  obtain ⟨v,hblk,hown,hne,hS1,hS2,hS3⟩:=hk
  obtain ⟨A1,c1,rfl,hc1,hm1,hr1⟩:=hown.bytes
  have hc : w.cell? ⟨g,0,none⟩ = some (.slice A1 bs.length c1):=hblk.cell 0
  have HR:=kp hr1
  clear hblk hown hne hS1 hS2 hS3 hr1
  go_enter Try.func29,Try.ntmps29
  go_wp2_with (go_at_call 58;go_must (refine (JM _ A1 _ c1 bs w HR.out hbs (Nat.le_refl _)).mono ?_);rintro e w2 ⟨v2,rfl,hown2,hb2⟩;have HO2:=kp hown2;have HB2:=kp hb2;clear hown2 hb2)
  go_ret
  exact ⟨_,rfl,HO2.out,HK.out.below HB2.out fun k h => .inl h,HB2.out⟩
theorem wiw_zero : (Try.prog.info? 71).map (·.zero) = some (some (.agg [Value.slice none 0 0].toArray)):=by kernel_rfl
theorem row_mark13 {α : Type} (f : α → Value) (w : World) (l : List α) (cs : Array Value) (hcs : cs.toList = l.map f) (e : TypeId) (fr : Nat × Nat) : Row f (w.alloc (.cells cs e fr)) (w.alloc (.cells cs e fr)).heap.size (some ⟨w.heap.size,0,none⟩) l.length l :=
  ⟨rfl,fun _ => ⟨_,rfl,by simp,fun k _ => by rw [yW,cell_of_row _ w.heap.size k cs e fr (heap_alloc_new w _),← Array.getElem?_toList,hcs,List.getElem?_map]⟩⟩
set_option maxRecDepth 100000 in
set_option maxHeartbeats 1600000 in
theorem uL (B : Nat) (x : Wt) (w : World) (hx : x.Ok w B) (hn : x.len ≤ 5000) (hB : B ≤ w.heap.size) (c : Nat) (hc : x.check = c) (h0 : c ≠ 0) :
    Calls Try.prog 10 #[wtA x] w fun e w' => e = .returned (.tuple #[.slice none 0 0,.int .i64 (c : Int)]) ∧ Below w.heap.size w w':=by
  have HX:=kp hx;have HC:=kp hc
  have hcb : ((c : Int) != 0) = true:=by rw [bne_iff_ne];omega
  clear hx hc h0
  rw [l6]
  go_enter Try.func10,Try.ntmps10
  go_wp2_with (first
    | ((with_reducible refine j6 rfl 24 (.tmp 0) rfl (wtC x) rfl ?_);intro g1 w1 hg1 hk1 hw1;have HK1:=kp hk1;have HW1:=kp hw1;have hs1:=hw1.size;clear hg1 hk1 hw1)
    | ((with_reducible show Sl 8);go_must (refine j4 rfl 24 (.tmp 1) rfl g1 rfl _ (wtC x) _ HK1.out Try.underlying24 rfl jD ?_))
    | (go_at_call 12;rw [← l6];go_must (refine (xF B x w1 (HX.out.below (HW1.out.mono hB)) hn (by omega) c HC.out).mono ?_);rintro e w2 ⟨rfl,hb2⟩;have HW2:=kp (HW1.out.trans (hb2.mono hs1));clear hb2))
  go_ret2
  exact ⟨rfl,HW2.out⟩
set_option maxRecDepth 100000 in
set_option maxHeartbeats 3200000 in
theorem zJ (B : Nat) (x : Wt) (w : World) (hx : x.Ok w B) (hB : B ≤ w.heap.size) (hc : x.check = 0) :
    Calls Try.prog 10 #[wtA x] w fun e w' => ∃ v,e = .returned (.tuple #[v,.int .i64 0]) ∧ Own w' w.heap.size 5 v (x.bytes.map byteV) ∧ Below w.heap.size w w':=by
  obtain ⟨hz4,hzo,hno⟩:=T.check_ok hc
  have hn : x.len ≤ 4096:=by rw [← hx.len_];exact hz4
  have HX:=kp hx;have HC:=kp hc;have HLn:=kp hx.len_;have HZo:=kp hzo
  obtain ⟨k1,k2,k3,k4,_,k5,k6⟩:=T.okN_iff.1 hno
  obtain ⟨tz,htz⟩ : ∃ tz,x.z.map M.pb = tz:=⟨_,rfl⟩
  have HTz:=kp htz
  have htl : tz.length = x.len:=by rw [← htz,List.length_map];exact HLn.out
  obtain ⟨mk,hmk⟩ : ∃ mk,T.mark = mk:=⟨_,rfl⟩
  have HMk:=kp hmk
  have hmk4 : mk.length = 4:=by rw [← hmk];rfl
  obtain ⟨va,hva⟩ : ∃ v,V.put (low32 x.a) = v:=⟨_,rfl⟩
  obtain ⟨vb,hvb⟩ : ∃ v,V.put (low32 x.b) = v:=⟨_,rfl⟩
  obtain ⟨vg,hvg⟩ : ∃ v,V.put (low32 x.g) = v:=⟨_,rfl⟩
  obtain ⟨vn,hvn⟩ : ∃ v,V.put x.len = v:=⟨_,rfl⟩
  have HVa:=kp hva;have HVb:=kp hvb;have HVg:=kp hvg;have HVn:=kp hvn
  have hna:=uB (low32 x.a) (J0 _);have hnb:=uB (low32 x.b) (J0 _);have hng:=uB (low32 x.g) (J0 _);have hnn:=uB x.len (by omega)
  rw [hva] at hna;rw [hvb] at hnb;rw [hvg] at hng;rw [hvn] at hnn
  have HAll : Kept ((((mk ++ vn ++ tz) ++ va) ++ vb) ++ vg = x.bytes):=kp (by
    unfold Wt.bytes T.bytes
    rw [T.three_put hno,HLn.out,hmk,hvn,htz,← hva,← hvb,← hvg]
    have e1 : low32 x.a = x.a.toNat:=by unfold low32;omega
    have e2 : low32 x.b = x.b.toNat:=by unfold low32;omega
    have e3 : low32 x.g = x.g.toNat:=by unfold low32;omega
    rw [e1,e2,e3]
    simp only [List.append_assoc])
  clear hx hc htz hmk hva hvb hvg hvn hzo hno hz4 k1 k2 k3 k4 k5 k6
  rw [l6]
  go_enter Try.func10,Try.ntmps10
  go_wp2_with (first
    | ((with_reducible refine j6 rfl 24 (.tmp 0) rfl (wtC x) rfl ?_);intro g1 w1 hg1 hk1 hw1;have HK1:=kp hk1;have HW1:=kp hw1;have hs1:=hw1.size;have hl1:=hk1.lt;clear hg1 hk1 hw1)
    | ((with_reducible show Sl 8);go_must (refine j4 rfl 24 (.tmp 1) rfl g1 rfl _ (wtC x) _ HK1.out Try.underlying24 rfl jD ?_))
    | (go_at_call 12;rw [← l6];go_must (refine (xF B x w1 (HX.out.below (HW1.out.mono hB)) (by omega) (by omega) 0 HC.out).mono ?_);rintro e w2 ⟨rfl,hb2⟩;have HW2:=kp (HW1.out.trans (hb2.mono hs1));have HK2:=kp (HK1.out.below hb2 hl1);have hs2:=HW2.out.size;have hl2:=HK2.out.lt;obtain ⟨hc0,_,_,_⟩:=jS HK2.out;clear hb2)
    | (go_at_call 25;fail))
  refine (sc_put B x.A x.len x.cap x.z w2 (HX.out.below (HW2.out.mono hB)).picks (by omega) (by omega)).mono ?_
  rintro e w3 ⟨h,hb3⟩
  have HW3:=kp (HW2.out.trans (hb3.mono hs2))
  have HK3:=kp (HK2.out.below hb3 hl2)
  have hs3:=HW3.out.size;have hl3:=HK3.out.lt
  clear hb3 hc0
  rcases h with ⟨h4,_⟩ | ⟨h4,⟨y,hy,hyn⟩,_⟩ | ⟨h4,_,gt,rfl,hgt,hkt⟩
  · omega
  · exact absurd (HZo.out y hy) hyn
  rw [HTz.out] at hkt
  have hltt:=hkt.lt
  have HT3 : Kept (Row byteV w3 w3.heap.size (some ⟨gt,0,none⟩) x.len tz):=kp (Blk.row hkt htl (Nat.le_refl _))
  clear hkt
  go_wp2_with (first
    | ((with_reducible show Sl 7);go_must (refine j7 rfl 71 rfl _ wiw_zero ?_);intro g7 w4 hg7 hk7 hw7
       have HWr4 : Kept (Wr w4 (· < w3.heap.size) g7 []):=kp ⟨.slice none 0 0,hk7,Own.nil _ _ _,by simp [Value.ownBlock],by omega,fun k h => by simp [Value.ownBlock] at h,fun k h => by have:=hw7.size;omega⟩
       have hs4:=hw7.size
       have HR4 : Kept (Row byteV (w4.alloc (.cells #[.int .u8 97,.int .u8 108,.int .u8 119,.int .u8 49] 5 (4,5))) (w4.alloc (.cells #[.int .u8 97,.int .u8 108,.int .u8 119,.int .u8 49] 5 (4,5))).heap.size (some ⟨w4.heap.size,0,none⟩) 4 mk):=kp (by rw [← HMk.out];exact row_mark13 byteV w4 T.mark #[.int .u8 97,.int .u8 108,.int .u8 119,.int .u8 49] rfl 5 (4,5))
       have hcv:=Go.Lib.run_convert_bytes_const (P:=Try.prog) w4 26 5 #[.int .u8 97,.int .u8 108,.int .u8 119,.int .u8 49] 4 4 Try.underlying26 Try.underlying5
       have HWr4b : Kept (Wr (w4.alloc (.cells #[.int .u8 97,.int .u8 108,.int .u8 119,.int .u8 49] 5 (4,5))) (· < w3.heap.size) g7 []):=kp (HWr4.out.below ((Below.refl _ _).alloc (Nat.le_refl _) _) fun k h => .inl h)
       have HH4 : Kept (Held (· < w3.heap.size) w3 (w4.alloc (.cells #[.int .u8 97,.int .u8 108,.int .u8 119,.int .u8 49] 5 (4,5)))):=kp (Held.of_below (hw7.trans (((Below.refl _ _).alloc (Nat.le_refl _) _).mono hs4)) fun k h => h)
       clear hk7 hw7)
    | (go_at_call 26;go_must (refine (wr_raw _ g7 _ [] mk _ 4 4 _ HWr4b.out HR4.out (by simp)).mono ?_);rintro e w5 ⟨rfl,hk5,hh5⟩
       rw [List.nil_append] at hk5
       have HWr5:=kp hk5
       have HH5:=kp (HH4.out.trans hh5)
       have HT5:=kp (HT3.out.heldAt HH5.out (fun a _ e => by cases e;exact hltt))
       clear hk5 hh5 hcv)
    | (go_at_call 27;go_must (refine (wr_block _ g7 _ mk tz _ x.len x.len w5 HWr5.out HT5.out (fun ad _ e => by cases e;exact hltt) (by omega)).mono ?_);rintro e w6 ⟨rfl,hk6,hh6⟩
       rw [HVn.out] at hk6
       have HWr6:=kp hk6
       have HH6:=kp (HH5.out.trans hh6)
       obtain ⟨_,hd1,_,_⟩:=jS (HK3.out.held HH6.out hl3)
       clear hk6 hh6)
    | (go_at_call_of 28 (Value.int IntKind.i64 x.a);go_must (refine (XN _ g7 _ x.a w6 HWr6.out (by simp only [List.length_append];omega)).mono ?_);rintro e w7 ⟨rfl,hk7,hh7⟩
       rw [HVa.out] at hk7
       have HWr7:=kp hk7
       have HH7:=kp (HH6.out.trans hh7)
       obtain ⟨_,_,hd2,_⟩:=jS (HK3.out.held HH7.out hl3)
       clear hk7 hh7 hd1)
    | (go_at_call_of 28 (Value.int IntKind.i64 x.b);go_must (refine (XN _ g7 _ x.b w7 HWr7.out (by simp only [List.length_append];omega)).mono ?_);rintro e w8 ⟨rfl,hk8,hh8⟩
       rw [HVb.out] at hk8
       have HWr8:=kp hk8
       have HH8:=kp (HH7.out.trans hh8)
       obtain ⟨_,_,_,hd3⟩:=jS (HK3.out.held HH8.out hl3)
       clear hk8 hh8 hd2)
    | (go_at_call_of 28 (Value.int IntKind.i64 x.g);go_must (refine (XN _ g7 _ x.g w8 HWr8.out (by simp only [List.length_append];omega)).mono ?_);rintro e w9 ⟨rfl,hk9,hh9⟩
       rw [HVg.out] at hk9
       have HWr9:=kp hk9
       have HH9:=kp (HH8.out.trans hh9)
       clear hk9 hh9 hd3)
    | (go_at_call 29;go_must (refine (wr_bytes _ g7 _ w9 HWr9.out (by simp only [List.length_append];omega)).mono ?_);rintro e w10 ⟨v10,rfl,hown10,hk10,hb10⟩;have HO10:=kp hown10;have HB10:=kp hb10;clear hown10 hk10 hb10))
  go_ret2
  have hs9:=HH9.out.size
  exact ⟨v10,rfl,by rw [← HAll.out];exact HO10.out.less (by omega),HW3.out.trans (((HH9.out.trans (Held.of_below HB10.out fun k h => by omega)).below).mono hs3)⟩
theorem or_add (m x : Nat) (hm : m < 2 ^ x) : m ||| 2 ^ x = m + 2 ^ x:=by
  have:=Nat.two_pow_add_eq_or_of_lt hm 1
  rw [Nat.mul_one] at this
  rw [Nat.or_comm,← this,Nat.add_comm]
set_option maxRecDepth 100000 in
set_option maxHeartbeats 800000 in
theorem pd_block (g B : Nat) (A : Option Addr) (n c : Nat) (bs : List Nat) (s : R.St) (hs : R.Ok bs s) (most : Int) (x : Nat) (s1 : R.St) (hx : R.num bs s most = (x,s1)) (out : List Nat) (s' : R.St) (ho : R.raw bs s1 x = (out,s')) (w : World) (hk : Pd w g A n c s)
    (hr : Row byteV w B A n bs) (hb : ∀ x ∈ bs,x < 256) (hn : n ≤ 1000000) (hnc : n ≤ c) (hm : c ≤ maxLen) (hBg : B ≤ g) (hBw : B ≤ w.heap.size) :
    Calls Try.prog 60 #[.pointer (some ⟨g,0,none⟩),.int .i64 most] w fun r w' => ∃ v,r = .returned v ∧ Own w' w.heap.size 5 v (out.map byteV) ∧ Pd w' g A n c s' ∧ w.grownBy w' (some g) ∧ Row byteV w' B A n bs:=by
  have HK:=kp hk;have HR:=kp hr;have HB:=kp hb;have HS:=kp hs;have HX:=kp hx;have HM:=kp hm;have HOut:=kp ho
  have hok1:=R.num_ok hb hs most
  rw [hx] at hok1
  have HOk1:=kp hok1.1
  clear hk hr hb hs hx hm hok1 ho
  go_enter Try.func60,Try.ntmps60
  go_wp2_with (first
    | (go_at_call 61;go_must (refine (Y0 g B A n c bs s HS.out most x s1 HX.out w HK.out HR.out HB.out hnc HM.out hBg hBw).mono ?_);rintro e w1 ⟨rfl,hk1,hg1,hr1⟩;have HK1:=kp hk1;have HG1:=kp hg1;have HR1:=kp hr1;have hsz1:=hg1.size;clear hk1 hg1 hr1)
    | (go_at_call 33;go_must (refine (pd_raw g B A n c bs s1 HOk1.out (x : Int) out s' HOut.out w1 HK1.out HR1.out hn hnc hBg (by omega)).mono ?_);rintro e w2 ⟨v,rfl,hown,hk2,hg2,hr2⟩;have HO2:=kp hown;have HK2:=kp hk2;have HG2:=kp hg2;have HR2:=kp hr2;clear hk2 hg2 hr2 hown))
  go_ret
  exact ⟨_,rfl,HO2.out.less (by omega),HK2.out,lE HG1.out HG2.out,HR2.out⟩
set_option maxRecDepth 100000 in
set_option maxHeartbeats 800000 in
theorem pd_done (g : Nat) (A : Option Addr) (n c : Nat) (s : R.St) (w : World) (hk : Pd w g A n c s) (hat : s.at_ ≤ n) (hn : n ≤ 1000000) (s' : R.St) (hs' : (if s.why = 0 ∧ s.at_ < n then R.fail s 7 else s) = s') :
    Calls Try.prog 35 #[.pointer (some ⟨g,0,none⟩)] w fun r w' => r = .returned (.bool (decide (s'.why = 0))) ∧ Pd w' g A n c s' ∧ w.grownBy w' (some g):=by
  obtain ⟨hc0,hc1,hc2,hf1,hf2⟩:=hk.cells
  have HK:=kp hk;have HX:=kp hs'
  have hgs:=hk.lt
  clear hk hs'
  obtain ⟨at_,wh,why⟩:=s
  simp only at *
  by_cases h : why = 0
  · have hz : ((why : Int) == 0) = true:=by simp;omega
    by_cases hlt : at_ < n
    · have HE : Kept (⟨at_,at_,7⟩ = s'):=kp <| by rw [← HX.out,if_pos ⟨h,hlt⟩];unfold R.fail;rw [if_pos h]
      clear h
      go_enter Try.func35,Try.ntmps35
      go_wp2_with (first
        | (go_at_call 62;go_must (refine (LH g A n c ⟨at_,wh,why⟩ w HK.out hat hn).mono ?_);rintro r w1 ⟨rfl,j,hw1⟩
           have HK1 : Kept (Pd w1 g A n c ⟨at_,wh,why⟩):=kp (by rw [hw1];exact HK.out)
           have HG1 : Kept (w.grownBy w1 (some g)):=kp (by rw [hw1];exact lV (jK _ _) _)
           obtain ⟨hd0,hd1,hd2,he1,he2⟩:=HK1.out.cells
           clear hw1 hc0 hc1 hc2 hf1 hf2))
      go_ret
      have h1:=HE.out
      subst h1
      exact ⟨rfl,HK1.out.set 2 _,jN HG1.out⟩
    · have HE : Kept (⟨at_,wh,why⟩ = s'):=kp <| by rw [← HX.out,if_neg (fun h1 => hlt h1.2)]
      have h':=h
      clear h
      have hge : n - at_ = 0:=by omega
      go_enter Try.func35,Try.ntmps35
      go_wp2_with (first
        | (go_at_call 62;go_must (refine (LH g A n c ⟨at_,wh,why⟩ w HK.out hat hn).mono ?_);rintro r w1 ⟨rfl,j,hw1⟩
           have HK1 : Kept (Pd w1 g A n c ⟨at_,wh,why⟩):=kp (by rw [hw1];exact HK.out)
           have HG1 : Kept (w.grownBy w1 (some g)):=kp (by rw [hw1];exact lV (jK _ _) _)
           obtain ⟨hd0,hd1,hd2,he1,he2⟩:=HK1.out.cells
           clear hw1 hc0 hc1 hc2 hf1 hf2))
      go_ret
      have h1:=HE.out
      subst h1
      exact ⟨jQ (by rw [decide_eq_true h']),HK1.out,HG1.out⟩
  · have hz : ((why : Int) == 0) = false:=by simp;omega
    have HE : Kept (⟨at_,wh,why⟩ = s'):=kp <| by rw [← HX.out,if_neg (fun h1 => h h1.1)]
    have HW:=kp h
    clear h
    go_enter Try.func35,Try.ntmps35
    go_wp2
    go_ret
    have h1:=HE.out
    subst h1
    exact ⟨jQ (by rw [decide_eq_false HW.out]),HK.out,jK _ _⟩
def R.above (s s1 : R.St) (x : Nat) (last : Int) : R.St:=if s1.why = 0 ∧ (x : Int) ≤ last then ⟨s.at_,s.at_,5⟩ else s1
def lastOf (l : List Nat) : Int:=if l = [] then -1 else (l.getLastD 0 : Int)
theorem zU (l : List Nat) (x : Nat) : lastOf (l ++ [x]) = (x : Int):=by
  unfold lastOf
  rw [if_neg (by simp)]
  simp [List.getLastD_eq_getLast?]
def Upto (l : List Nat) : Prop:=S.mask l < 2 ^ (lastOf l + 1).toNat ∧ -1 ≤ lastOf l ∧ lastOf l ≤ 31
theorem Upto.lt {l : List Nat} (h : Upto l) : S.mask l < 4294967296:=by
  obtain ⟨h1,h2,h3⟩:=h
  have : 2 ^ (lastOf l + 1).toNat ≤ 2 ^ 32:=Nat.pow_le_pow_right (by decide) (by omega)
  omega
theorem Upto.snoc {l : List Nat} (h : Upto l) {x : Nat} (hx : ¬ (x : Int) ≤ lastOf l) (h31 : x ≤ 31) : Upto (l ++ [x]) ∧ S.mask (l ++ [x]) = S.mask l ||| S.one x:=by
  obtain ⟨h1,h2,h3⟩:=h
  have hp : 2 ^ (lastOf l + 1).toNat ≤ 2 ^ x:=Nat.pow_le_pow_right (by decide) (by omega)
  have hm : S.mask (l ++ [x]) = S.mask l + 2 ^ x:=S.mask_snoc l x
  refine ⟨⟨?_,by rw [zU];omega,by rw [zU];omega⟩,?_⟩
  · rw [zU,hm,show ((x : Int) + 1).toNat = x + 1 by omega,Nat.pow_succ];omega
  · rw [hm,S.one_nat x h31,or_add _ _ (by omega)]
end Go.Proofs.Ytcbfghcdbmlneaa
