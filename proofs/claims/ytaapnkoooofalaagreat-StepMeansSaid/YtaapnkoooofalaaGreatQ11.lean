/- Laws that the last text leans on. -/
import Derived.Test.YtaapnkoooofalaaGreatQ10

set_option maxRecDepth 20000
set_option maxHeartbeats 4000000
namespace Go.Proofs.YtaapnkoooofalaaGreat
namespace St
open Go Go.RowKit Rw
theorem z7y (w:World) (ad:Addr) (c:Nat):Nds w (.slice (some ad) 0 c) []:=by
  refine ⟨rfl,some ad,c,rfl,Nat.zero_le _,fun h=>(by cases h),fun h=>absurd h (Nat.lt_irrefl 0)⟩
theorem hszN:(Tryz.prog.info? 36).map (·.size)=some 3:=by kernel_rfl
theorem y3y {w:World} (g off:Nat) (X:List Nd) (hX:∃ sv,Nds w sv X) (cur:List Value) (hg:w.heap[g]?=some (.cells cur.toArray 36 (0,0)))
    (hfit:off+X.length*3≤cur.length) (B:Nat) (w0:World) (hb:Below B w0 w) (hBg:B≤g) (ty:TypeId) :
    ∃ w',(∀ (dp:Option Addr) (N cap:Nat) (sv:Value),Nds w sv X→X.length≤N→(0<X.length→dp=some ⟨g,off,none⟩)→(Builtin.copy_ #[22,22] ty #[.slice dp N cap,sv]).run Tryz.prog w=.ok (goInt X.length) w')∧
      w'.heap[g]?=some (.cells (splice cur off (cls X)).toArray 36 (0,0))∧Below B w0 w':=by
  by_cases h0:X.length=0
  · obtain rfl:X=[]:=List.eq_nil_of_length_eq_zero h0;refine ⟨w,fun dp N cap sv hx _ _=>?_,by simpa [splice,cls] using hg,hb⟩;obtain ⟨_,a,c,rfl,_⟩:=hx;exact Cy.run_copy_none w _ _ ty 36 3 dp a N cap 0 c Tryz.underlying22 hszN (Nat.zero_min N)
  · obtain ⟨sv0,hx0⟩:=hX;obtain ⟨hl0,a0,c0,rfl,hc0,hn0,hcell0⟩:=hx0;obtain ⟨b0,o0,rfl,hj0⟩:=hcell0 (by omega)
    have hsrc:∀ (a:Addr),(∀ j v,(cls X)[j]?=some v→w.cell? (a.add j)=some v)→∀ (N cap c:Nat),X.length≤N→(Builtin.copy_ #[22,22] ty #[.slice (some ⟨g,off,none⟩) N cap,.slice (some a) X.length c]).run Tryz.prog w=.ok (goInt X.length) (w.setRow g (cur.toArray.toList.take off++cls X++cur.toArray.toList.drop (off+(cls X).length)).toArray):=fun a ha N cap c hN=>
      Cy.run_copy_row w _ _ ty 36 3 X.length g off N cap a X.length c cur.toArray 36 (cls X) Tryz.underlying22 hszN hg (by show _=min _ _; omega) hl0 ha (by rw [z2h]; simpa using hfit) (fun v hv=>v0s v hv)
    refine ⟨w.setRow g (cur.toArray.toList.take off++cls X++cur.toArray.toList.drop (off+(cls X).length)).toArray,fun dp N cap sv hx hN hdp=>?_,?_,below_setRow hb hBg _⟩
    · obtain ⟨_,a,c,rfl,_,_,hcell⟩:=hx;obtain ⟨b,o,rfl,hj⟩:=hcell (by omega);rw [hdp (by omega)];exact hsrc _ (fun j v hv=>by rw [Addr.add_lit]; exact hj j v hv) N cap c hN
    · simpa [splice] using setRow_heap w g _ _ _ _ hg
theorem x3k {w1 w2:World} {N:Nat} {cs:List Value} (ho:w2.ownsRow w1.heap.size 36 3 (.slice (some ⟨w1.heap.size,0,none⟩) N N) N cs) :
    ∃ cur:List Value,cur.length=N*3∧w2.heap[w1.heap.size]?=some (.cells cur.toArray 36 (0,0)):=by
  obtain ⟨_,⟨h0,_⟩ | ⟨g,cap,cur,hv,_,hh,h1,h2,h3,h4⟩⟩:=ho
  · cases h0
  · cases hv
    exact ⟨cur.toList,by simpa using h3,by simpa using hh⟩
theorem x3e {w:World} {g base N:Nat} {cur:List Value} (L1 x L2:List Nd) (hN:N=L1.length+x.length+L2.length) (hc:cur.length=N*3) (hm:N≤maxLen) (hb:base≤g)
    (hg:w.heap[g]?=some (.cells (splice (splice (splice cur 0 (cls L1)) (L1.length*3) (cls x)) ((L1.length+x.length)*3) (cls L2)).toArray 36 (0,0))) :
    w.ownsRow base 36 3 (.slice (some ⟨g,0,none⟩) N N) (L1++x++L2).length (cls (L1++x++L2)):=by
  rw [Nat.add_mul,splice_splice_splice cur (cls L1) (cls x) (cls L2) _ _ (z2h _) (z2h _) (by rw [z2h,hc,hN]; omega)] at hg;have hl:(L1++x++L2).length=N:=by rw [List.length_append,List.length_append,hN]
  have e:cls L1++(cls x++cls L2)=cls (L1++x++L2):=by rw [z5i,z5i,List.append_assoc]
  rw [e] at hg;have hcl:(cls (L1++x++L2)).length=N*3:=by rw [z2h,hl]
  rw [hl];refine ⟨hcl,.inr ⟨g,N,_,rfl,hb,hg,Nat.le_refl _,hm,hcl,?_⟩⟩;exact List.take_of_length_le (Nat.le_of_eq hcl)
def szA (l:List Nd) (z:Int):Nat:=if z<0∨z≥l.length then 0 else size (l.drop z.toNat)
theorem y0x (v:Value) (l:List Nd) (z:Int) (w:World) (hv:Nds w v l) (hl:l.length≤1000) :
    Calls Tryz.prog 46 #[v,.int .i64 z] w fun e w'=>e=.returned (.int .i64 (szA l z))∧Below w.heap.size w w':=by
  unfold szA
  by_cases h1:z<0
  · rw [if_pos (.inl h1)];obtain ⟨_,a,c,rfl,-⟩:=id hv;clear hv
    go_enter Tryz.func46,Tryz.ntmps46
    go_wp2_with fail;go_ret;exact ⟨rfl,Below.refl _ _⟩
  by_cases h2:z≥l.length
  · rw [if_pos (.inr h2)];obtain ⟨_,a,c,rfl,-⟩:=id hv;clear hv
    go_enter Tryz.func46,Tryz.ntmps46
    go_wp2_with fail;go_ret;exact ⟨rfl,Below.refl _ _⟩
  rw [if_neg (by omega)];obtain ⟨q,rfl⟩:∃ q:Nat,z=(q:Int):=⟨z.toNat,by omega⟩
  have hql:q<l.length:=by omega
  rw [show ((q:Int)).toNat=q from rfl]
  rcases hv.form with ⟨h0,_⟩ | ⟨b,o,c,rfl,hc,hat⟩
  · rw [h0] at hql; simp at hql
  have HS:=Lib.hid (Rx.z2j _ (l.drop q) w (y3w rfl hat q (by omega) hc) (by simp; omega));obtain ⟨n,hn⟩:∃ n,l.length=n:=⟨_,rfl⟩
  rw [hn] at HS hc hql h2 ⊢;have hcap:q<c:=by omega
  generalize size (l.drop q)=s at HS ⊢;clear hv hat hn hl
  go_enter Tryz.func46,Tryz.ntmps46
  go_wp2_with fail;refine HS.out.mono ?_;rintro e w1 ⟨rfl,hb⟩;have D:=Lib.hid hb;clear hb;go_wp2_with fail;go_ret;exact ⟨rfl,D.out⟩
end St
namespace Sx
open Go Go.RowKit Rw So
theorem five {a:Nat} (h:a≤4):a=0∨a=1∨a=2∨a=3∨a=4:=by omega
theorem plP (a:Nat) (w:World) (h:a≤4):Calls Tryz.prog 35 #[.int .i64 a] w fun e w'=>e=.returned (.bool (pl a))∧w=w':=by
  rcases five h with rfl | rfl | rfl | rfl | rfl
  all_goals
    go_enter Tryz.func35,Tryz.ntmps35
    go_wp2_with fail;go_ret;exact ⟨rfl,rfl⟩
theorem pdP (a:Nat) (w:World) (h:a≤4):Calls Tryz.prog 33 #[.int .i64 a] w fun e w'=>e=.returned (.bool (pd a))∧w=w':=by
  rcases five h with rfl | rfl | rfl | rfl | rfl
  all_goals
    go_enter Tryz.func33,Tryz.ntmps33
    go_wp2_with fail;go_ret;exact ⟨rfl,rfl⟩
theorem onP (a:Nat) (w:World) (h:a≤4):Calls Tryz.prog 139 #[.int .i64 a] w fun e w'=>e=.returned (.bool (on a))∧w=w':=by
  rcases five h with rfl | rfl | rfl | rfl | rfl
  all_goals
    go_enter Tryz.func139,Tryz.ntmps139
    go_wp2_with fail;go_ret;exact ⟨rfl,rfl⟩
theorem fit_leaf (k:Int) (w:World) (h:k=1∨k=2∨k=3∨k=4∨k=11):Calls Tryz.prog 95 #[.int .i64 k,.int .i64 0,.int .i64 0] w fun e w'=>e=.returned (.bool (fit k 0 0))∧w=w':=by
  rcases h with rfl | rfl | rfl | rfl | rfl
  all_goals
    go_enter Tryz.func95,Tryz.ntmps95
    go_wp2_with fail;go_ret;exact ⟨rfl,rfl⟩
theorem fit_9 (a:Nat) (w:World) (ha:a≤4):Calls Tryz.prog 95 #[.int .i64 9,.int .i64 a,.int .i64 0] w fun e w'=>e=.returned (.bool (fit 9 a 0))∧w=w':=by
  go_enter Tryz.func95,Tryz.ntmps95
  go_wp2_with fail;refine (pdP a _ ha).mono ?_;rintro e w' ⟨rfl,rfl⟩;go_wp2_with fail;go_ret;exact ⟨rfl,rfl⟩
theorem fit_14 (a:Nat) (w:World) (ha:a≤4):Calls Tryz.prog 95 #[.int .i64 14,.int .i64 a,.int .i64 0] w fun e w'=>e=.returned (.bool (fit 14 a 0))∧w=w':=by
  rcases five ha with rfl | rfl | rfl | rfl | rfl
  all_goals
    go_enter Tryz.func95,Tryz.ntmps95
    go_wp2_with fail;go_ret;exact ⟨rfl,rfl⟩
theorem fit_5 (a b:Nat) (w:World) (ha:a≤4) (hb:b≤4):Calls Tryz.prog 95 #[.int .i64 5,.int .i64 a,.int .i64 b] w fun e w'=>e=.returned (.bool (fit 5 a b))∧w=w':=by
  have c_onb:=fun w=>onP b w hb
  have c_pla:=fun w=>plP a w ha
  have c_pda:=fun w=>pdP a w ha
  have c_pdb:=fun w=>pdP b w hb
  have c_plb:=fun w=>plP b w hb
  have hr:fit 5 a b=(!on b&&(pl a&&pl b||pd a&&pd b)):=rfl;rw [hr];clear hr;generalize on b=x_onb at *;generalize pl a=x_pla at *;generalize pd a=x_pda at *;generalize pd b=x_pdb at *;generalize pl b=x_plb at *
  go_enter Tryz.func95,Tryz.ntmps95
  go_wp2_with fail;refine (c_onb _).mono ?_;rintro e w' ⟨rfl,rfl⟩
  cases x_onb
  · go_wp2_with fail;refine (c_pla _).mono ?_;rintro e w' ⟨rfl,rfl⟩
    cases x_pla
    · go_wp2_with fail;refine (c_pda _).mono ?_;rintro e w' ⟨rfl,rfl⟩
      cases x_pda
      · go_wp2_with fail;go_ret;exact ⟨rfl,rfl⟩
      · go_wp2_with fail;refine (c_pdb _).mono ?_;rintro e w' ⟨rfl,rfl⟩
        cases x_pdb
        · go_wp2_with fail;go_ret;exact ⟨rfl,rfl⟩
        · go_wp2_with fail;go_ret;exact ⟨rfl,rfl⟩
    · go_wp2_with fail;refine (c_plb _).mono ?_;rintro e w' ⟨rfl,rfl⟩
      cases x_plb
      · go_wp2_with fail;refine (c_pda _).mono ?_;rintro e w' ⟨rfl,rfl⟩
        cases x_pda
        · go_wp2_with fail;go_ret;exact ⟨rfl,rfl⟩
        · go_wp2_with fail;refine (c_pdb _).mono ?_;rintro e w' ⟨rfl,rfl⟩
          cases x_pdb
          · go_wp2_with fail;go_ret;exact ⟨rfl,rfl⟩
          · go_wp2_with fail;go_ret;exact ⟨rfl,rfl⟩
      · go_wp2_with fail;go_ret;exact ⟨rfl,rfl⟩
  · go_wp2_with fail;go_ret;exact ⟨rfl,rfl⟩
theorem fit_6 (a b:Nat) (w:World) (ha:a≤4) (hb:b≤4):Calls Tryz.prog 95 #[.int .i64 6,.int .i64 a,.int .i64 b] w fun e w'=>e=.returned (.bool (fit 6 a b))∧w=w':=by
  have c_ona:=fun w=>onP a w ha
  have c_onb:=fun w=>onP b w hb
  have c_pla:=fun w=>plP a w ha
  have c_pda:=fun w=>pdP a w ha
  have c_pdb:=fun w=>pdP b w hb
  have c_plb:=fun w=>plP b w hb
  have hr:fit 6 a b=(!on a&&(!on b&&(pl a&&pl b||pd a&&pd b))):=rfl;rw [hr];clear hr;generalize on a=x_ona at *;generalize on b=x_onb at *;generalize pl a=x_pla at *;generalize pd a=x_pda at *;generalize pd b=x_pdb at *;generalize pl b=x_plb at *
  go_enter Tryz.func95,Tryz.ntmps95
  go_wp2_with fail;refine (c_ona _).mono ?_;rintro e w' ⟨rfl,rfl⟩
  cases x_ona
  · go_wp2_with fail;refine (c_onb _).mono ?_;rintro e w' ⟨rfl,rfl⟩
    cases x_onb
    · go_wp2_with fail;refine (c_pla _).mono ?_;rintro e w' ⟨rfl,rfl⟩
      cases x_pla
      · go_wp2_with fail;refine (c_pda _).mono ?_;rintro e w' ⟨rfl,rfl⟩
        cases x_pda
        · go_wp2_with fail;go_ret;exact ⟨rfl,rfl⟩
        · go_wp2_with fail;refine (c_pdb _).mono ?_;rintro e w' ⟨rfl,rfl⟩
          cases x_pdb
          · go_wp2_with fail;go_ret;exact ⟨rfl,rfl⟩
          · go_wp2_with fail;go_ret;exact ⟨rfl,rfl⟩
      · go_wp2_with fail;refine (c_plb _).mono ?_;rintro e w' ⟨rfl,rfl⟩
        cases x_plb
        · go_wp2_with fail;refine (c_pda _).mono ?_;rintro e w' ⟨rfl,rfl⟩
          cases x_pda
          · go_wp2_with fail;go_ret;exact ⟨rfl,rfl⟩
          · go_wp2_with fail;refine (c_pdb _).mono ?_;rintro e w' ⟨rfl,rfl⟩
            cases x_pdb
            · go_wp2_with fail;go_ret;exact ⟨rfl,rfl⟩
            · go_wp2_with fail;go_ret;exact ⟨rfl,rfl⟩
        · go_wp2_with fail;go_ret;exact ⟨rfl,rfl⟩
    · go_wp2_with fail;go_ret;exact ⟨rfl,rfl⟩
  · go_wp2_with fail;go_ret;exact ⟨rfl,rfl⟩
theorem fit_7 (a b:Nat) (w:World) (ha:a≤4) (hb:b≤4):Calls Tryz.prog 95 #[.int .i64 7,.int .i64 a,.int .i64 b] w fun e w'=>e=.returned (.bool (fit 7 a b))∧w=w':=by
  have c_pla:=fun w=>plP a w ha
  have c_pda:=fun w=>pdP a w ha
  have c_pdb:=fun w=>pdP b w hb
  have c_plb:=fun w=>plP b w hb
  have hr:fit 7 a b=(pl a&&pl b||pd a&&pd b):=rfl;rw [hr];clear hr;generalize pl a=x_pla at *;generalize pd a=x_pda at *;generalize pd b=x_pdb at *;generalize pl b=x_plb at *
  go_enter Tryz.func95,Tryz.ntmps95
  go_wp2_with fail;refine (c_pla _).mono ?_;rintro e w' ⟨rfl,rfl⟩
  cases x_pla
  · go_wp2_with fail;refine (c_pda _).mono ?_;rintro e w' ⟨rfl,rfl⟩
    cases x_pda
    · go_wp2_with fail;go_ret;exact ⟨rfl,rfl⟩
    · go_wp2_with fail;refine (c_pdb _).mono ?_;rintro e w' ⟨rfl,rfl⟩
      cases x_pdb
      · go_wp2_with fail;go_ret;exact ⟨rfl,rfl⟩
      · go_wp2_with fail;go_ret;exact ⟨rfl,rfl⟩
  · go_wp2_with fail;refine (c_plb _).mono ?_;rintro e w' ⟨rfl,rfl⟩
    cases x_plb
    · go_wp2_with fail;refine (c_pda _).mono ?_;rintro e w' ⟨rfl,rfl⟩
      cases x_pda
      · go_wp2_with fail;go_ret;exact ⟨rfl,rfl⟩
      · go_wp2_with fail;refine (c_pdb _).mono ?_;rintro e w' ⟨rfl,rfl⟩
        cases x_pdb
        · go_wp2_with fail;go_ret;exact ⟨rfl,rfl⟩
        · go_wp2_with fail;go_ret;exact ⟨rfl,rfl⟩
    · go_wp2_with fail;go_ret;exact ⟨rfl,rfl⟩
theorem fit_8 (a b:Nat) (w:World) (ha:a≤4):Calls Tryz.prog 95 #[.int .i64 8,.int .i64 a,.int .i64 b] w fun e w'=>e=.returned (.bool (fit 8 a b))∧w=w':=by
  have c_pla:=fun w=>plP a w ha
  have hr:fit 8 a b=(pl a&&(b==1)):=rfl;rw [hr];clear hr;generalize pl a=x_pla at *;have hi:((b:Int)==1)=(b==1):=by rw [Bool.eq_iff_iff,beq_iff_eq,beq_iff_eq]; omega
  generalize (b==1)=q at *
  cases q
  all_goals
    go_enter Tryz.func95,Tryz.ntmps95
    go_wp2_with fail;refine (c_pla _).mono ?_;rintro e w' ⟨rfl,rfl⟩
    cases x_pla
    · go_wp2_with fail;go_ret;exact ⟨rfl,rfl⟩
    · go_wp2_with fail;go_ret;exact ⟨rfl,rfl⟩
theorem fit_10 (a b:Nat) (w:World) (ha:a≤4):Calls Tryz.prog 95 #[.int .i64 10,.int .i64 a,.int .i64 b] w fun e w'=>e=.returned (.bool (fit 10 a b))∧w=w':=by
  have c_ona:=fun w=>onP a w ha
  have c_pla:=fun w=>plP a w ha
  have hr:fit 10 a b=(!on a&&(pl a&&(b==1))):=rfl;rw [hr];clear hr;generalize on a=x_ona at *;generalize pl a=x_pla at *;have hi:((b:Int)==1)=(b==1):=by rw [Bool.eq_iff_iff,beq_iff_eq,beq_iff_eq]; omega
  generalize (b==1)=q at *
  cases q
  all_goals
    go_enter Tryz.func95,Tryz.ntmps95
    go_wp2_with fail;refine (c_ona _).mono ?_;rintro e w' ⟨rfl,rfl⟩
    cases x_ona
    · go_wp2_with fail;refine (c_pla _).mono ?_;rintro e w' ⟨rfl,rfl⟩
      cases x_pla
      · go_wp2_with fail;go_ret;exact ⟨rfl,rfl⟩
      · go_wp2_with fail;go_ret;exact ⟨rfl,rfl⟩
    · go_wp2_with fail;go_ret;exact ⟨rfl,rfl⟩
theorem fit_12 (a b:Nat) (w:World) (ha:a≤4):Calls Tryz.prog 95 #[.int .i64 12,.int .i64 a,.int .i64 b] w fun e w'=>e=.returned (.bool (fit 12 a b))∧w=w':=by
  have c_pla:=fun w=>plP a w ha
  have hr:fit 12 a b=(pl a&&(b==1)):=rfl;rw [hr];clear hr;generalize pl a=x_pla at *;have hi:((b:Int)==1)=(b==1):=by rw [Bool.eq_iff_iff,beq_iff_eq,beq_iff_eq]; omega
  generalize (b==1)=q at *
  cases q
  all_goals
    go_enter Tryz.func95,Tryz.ntmps95
    go_wp2_with fail;refine (c_pla _).mono ?_;rintro e w' ⟨rfl,rfl⟩
    cases x_pla
    · go_wp2_with fail;go_ret;exact ⟨rfl,rfl⟩
    · go_wp2_with fail;go_ret;exact ⟨rfl,rfl⟩
theorem fit_13 (a b:Nat) (w:World) (ha:a≤4):Calls Tryz.prog 95 #[.int .i64 13,.int .i64 a,.int .i64 b] w fun e w'=>e=.returned (.bool (fit 13 a b))∧w=w':=by
  have c_pda:=fun w=>pdP a w ha
  have hr:fit 13 a b=(pd a&&(b==1)):=rfl;rw [hr];clear hr;generalize pd a=x_pda at *;have hi:((b:Int)==1)=(b==1):=by rw [Bool.eq_iff_iff,beq_iff_eq,beq_iff_eq]; omega
  generalize (b==1)=q at *
  cases q
  all_goals
    go_enter Tryz.func95,Tryz.ntmps95
    go_wp2_with fail;refine (c_pda _).mono ?_;rintro e w' ⟨rfl,rfl⟩
    cases x_pda
    · go_wp2_with fail;go_ret;exact ⟨rfl,rfl⟩
    · go_wp2_with fail;go_ret;exact ⟨rfl,rfl⟩
theorem y8s (k:Int) (a b:Nat) (w:World) (hk:0≤Rw.ar k) (ha:a≤4) (hb:b≤4) (h0:Rw.ar k=0→a=0) (h1:Rw.ar k≤1→b=0):Calls Tryz.prog 95 #[.int .i64 k,.int .i64 a,.int .i64 b] w fun e w'=>e=.returned (.bool (fit k a b))∧w=w':=by
  rcases kinds hk with rfl | rfl | rfl | rfl | rfl | rfl | rfl | rfl | rfl | rfl | rfl | rfl | rfl | rfl
  case inr.inr.inr.inr.inl=>exact fit_5 a b w ha hb
  case inr.inr.inr.inr.inr.inl=>exact fit_6 a b w ha hb
  case inr.inr.inr.inr.inr.inr.inl=>exact fit_7 a b w ha hb
  case inr.inr.inr.inr.inr.inr.inr.inl=>exact fit_8 a b w ha
  case inr.inr.inr.inr.inr.inr.inr.inr.inl=>obtain rfl:=h1 (by decide); exact fit_9 a w ha
  case inr.inr.inr.inr.inr.inr.inr.inr.inr.inl=>exact fit_10 a b w ha
  case inr.inr.inr.inr.inr.inr.inr.inr.inr.inr.inr.inl=>exact fit_12 a b w ha
  case inr.inr.inr.inr.inr.inr.inr.inr.inr.inr.inr.inr.inl=>exact fit_13 a b w ha
  case inr.inr.inr.inr.inr.inr.inr.inr.inr.inr.inr.inr.inr=>obtain rfl:=h1 (by decide); exact fit_14 a w ha
  all_goals
    obtain rfl:=h0 (by decide);obtain rfl:=h1 (by decide);exact fit_leaf _ w (by decide)
theorem made_two (k:Int) (a b:Nat) (w:World) (h:k=5∨k=6∨k=7∨k=8):Calls Tryz.prog 96 #[.int .i64 k,.int .i64 a,.int .i64 b] w fun e w'=>e=.returned (.int .i64 (made k a b))∧w=w':=by
  have hm:made k a b=max a b:=by unfold made; rw [if_pos h]
  have HM:Hid (((max a b:Nat):Int)=(made k a b:Nat)):=by show _=_; rw [hm]
  clear hm
  rcases h with rfl | rfl | rfl | rfl
  all_goals
    go_enter Tryz.func96,Tryz.ntmps96
    go_wp2_with fail
  all_goals
    go_ret;exact ⟨ret_int (by rw [← HM.out]; omega),rfl⟩
theorem made_9 (a b:Nat) (w:World) (ha:a≤4):Calls Tryz.prog 96 #[.int .i64 9,.int .i64 a,.int .i64 b] w fun e w'=>e=.returned (.int .i64 (made 9 a b))∧w=w':=by
  rcases five ha with rfl | rfl | rfl | rfl | rfl
  all_goals
    go_enter Tryz.func96,Tryz.ntmps96
    go_wp2_with fail;go_ret;exact ⟨rfl,rfl⟩
theorem x3j (k:Int) (a b:Nat) (w:World) (h:k=1∨k=2∨k=3∨k=4∨k=10∨k=11∨k=12∨k=13∨k=14):Calls Tryz.prog 96 #[.int .i64 k,.int .i64 a,.int .i64 b] w fun e w'=>e=.returned (.int .i64 (made k a b))∧w=w':=by
  rcases h with rfl | rfl | rfl | rfl | rfl | rfl | rfl | rfl | rfl
  all_goals
    go_enter Tryz.func96,Tryz.ntmps96
    go_wp2_with fail;go_ret;exact ⟨rfl,rfl⟩
theorem y3m (k:Int) (a b:Nat) (w:World) (hk:0≤Rw.ar k) (ha:a≤4):Calls Tryz.prog 96 #[.int .i64 k,.int .i64 a,.int .i64 b] w fun e w'=>e=.returned (.int .i64 (made k a b))∧w=w':=by
  by_cases h2:k=5∨k=6∨k=7∨k=8
  · exact made_two k a b w h2
  · by_cases h9:k=9
    · subst h9;exact made_9 a b w ha
    · exact x3j k a b w (by have:=kinds hk; omega)
end Sx
namespace Tr
open Go Go.RowKit
theorem infoS:(Tryz.prog.info? 9).map (fun i=>(i.zero,i.size,i.bytes))=some (some (.string ⟨#[]⟩),1,16):=by kernel_rfl
theorem z2w {w:World} {base:Nat} {v x:Value} {l m:List ByteArray} (hown:w.ownsRow base 9 1 v l.length (l.map .string)) (hbase:base≤w.heap.size) (hx:Strs w x m) (hlen:l.length+m.length≤2000000000000) :
    ∃ v' w',(Builtin.append_ #[65,65] 65 #[v,x]).run Tryz.prog w=.ok v' w'∧w'.ownsRow base 9 1 v' (l++m).length ((l++m).map .string)∧w.grownBy w' v.ownBlock∧Below base w w'∧Ap.Fresh w v v':=by
  obtain ⟨i0,hi,hz,hs1,hb8⟩:=info_parts infoS
  obtain ⟨v',w',h1,h2,h3,h4,h5⟩:=Ap.z0t (P:=Tryz.prog) (ty:=65) Tryz.underlying65 hi hz hs1 hb8 (by rfl) (by omega) hown hbase hx
    (fun u hu=>by obtain ⟨b,_,rfl⟩:=List.mem_map.1 hu; rfl) (by unfold maxLen; omega) (by omega)
  exact ⟨v',w',h1,by simpa using h2,h3,h4,h5⟩
end Tr
namespace Pl
open Go Rw So
theorem front {c n d:Nat} {r:List Nd} (h:S (c+1) r=some (n,d)):∃ n1 d1 n2 d2,T r=some (n1,d1)∧S c (r.drop n1)=some (n2,d2)∧n=n1+n2:=by
  rw [Rx.y4i] at h
  cases h1:T r with
  | none=>rw [h1] at h; cases h
  | some x=>
    obtain ⟨n1,d1⟩:=x;rw [h1] at h;simp only at h
    cases h2:S c (r.drop n1) with
    | none=>rw [h2] at h; cases h
    | some y=>
      obtain ⟨n2,d2⟩:=y;rw [h2] at h;simp only [Option.some.injEq,Prod.mk.injEq] at h;exact ⟨n1,d1,n2,d2,rfl,h2,h.1.symm⟩
def Ch (l:List Nd):Nat→List Nat→List Nat→Prop
  | e,[],[]=>e=l.length
  | e,a::ab,c::st=>(∃ n d,S c (l.drop e)=some (n,d)∧e+n=a+zz l a)∧Ch l (a+zz l a) ab st
  | _,[],_::_=>False
  | _,_::_,[]=>False
theorem Ch.le {l:List Nd}:∀ {ab st:List Nat} {e:Nat},Ch l e ab st→∀ x∈ab,e≤x+zz l x
  | [],_,_,_,x,hx=>by cases hx
  | _::_,[],_,h,_,_=>h.elim
  | a::ab,c::st,e,h,x,hx=>by
    obtain ⟨⟨n,d,_,h2⟩,h3⟩:=h
    rcases List.mem_cons.1 hx with rfl | hx
    · omega
    · have:=h3.le x hx;omega
theorem Ch.zero {l:List Nd} {ab st:List Nat} {e a:Nat} (h:Ch l e (a::ab) (0::st)):a+zz l a=e∧Ch l e ab st:=by
  obtain ⟨⟨n,d,h1,h2⟩,h3⟩:=h;rw [z3e] at h1
  cases h1
  exact ⟨by omega,by rw [show e=a+zz l a by omega]; exact h3⟩
theorem Ch.succ {l:List Nd} {ab st:List Nat} {e a c:Nat} (h:Ch l e (a::ab) ((c+1)::st)):e<l.length∧e<a+zz l a∧Ch l (e+zz l e) (a::ab) (c::st):=by
  obtain ⟨⟨n,d,h1,h2⟩,h3⟩:=h;obtain ⟨n1,d1,n2,d2,g1,g2,rfl⟩:=front h1;obtain ⟨z1,_⟩:=y7a g1;obtain ⟨b1,b2,_⟩:=T_bd g1;rw [List.length_drop] at b2;refine ⟨by omega,by omega,⟨n2,d2,?_,by omega⟩,h3⟩;rw [z1,← List.drop_drop];exact g2
theorem Ch.push {l:List Nd} (ht:Tre l) {k:Nat} (hk:k<l.length) {ab st:List Nat} (h:Ch l (k+zz l k) ab st):Ch l (k+1) (k::ab) ((Rw.ar l[k].k).toNat::st):=by
  obtain ⟨h1,h2,h3⟩:=y8n ht hk;rw [List.drop_eq_getElem_cons hk,z2l] at h1
  split at h1
  · cases h1
  · cases hs:S (Rw.ar l[k].k).toNat (l.drop (k+1)) with
    | none=>rw [hs] at h1; cases h1
    | some x=>
      obtain ⟨c,d⟩:=x;rw [hs] at h1;simp only [Option.some.injEq,Prod.mk.injEq] at h1;exact ⟨⟨c,d,hs,by omega⟩,h⟩
theorem ar_tree {l:List Nd} (ht:Tre l) {k:Nat} (hk:k<l.length):0≤Rw.ar l[k].k:=by
  obtain ⟨h1,h2,h3⟩:=y8n ht hk;rw [List.drop_eq_getElem_cons hk,z2l] at h1
  split at h1
  · cases h1
  · omega
structure Op (l:List Nd) (k:Nat) (ab st:List Nat):Prop where
  eq:ab=ov l k
  len:st.length=ab.length
  ch:Ch l (k+zz l k) ab.reverse st.reverse
structure Pp (l:List Nd) (k g:Nat) (ab st:List Nat):Prop where
  len:st.length=ab.length
  ch:Ch l (k+1) (ab.take g).reverse (st.take g).reverse
  eq:ov l (k+1)=(ab.take g).filter fun j=>decide (k+1<j+zz l j)
theorem Op.start {l:List Nd} (ht:Tre l):Op l 0 [] []:=⟨rfl,rfl,by rw [zz_zero ht,Nat.zero_add]; rfl⟩
theorem Op.push {l:List Nd} (ht:Tre l) {k:Nat} (hk:k<l.length) {ab st:List Nat} (h:Op l k ab st) {r n:Nat} (hr:Rw.ar l[k].k=(r:Int)) (hn:n=ab.length):Pp l k (n+1) (ab++[k]) (st++[r]):=by
  subst hn;have h1:(ab++[k]).take (ab.length+1)=ab++[k]:=List.take_of_length_le (by simp);have h2:(st++[r]).take (ab.length+1)=st++[r]:=List.take_of_length_le (by simp [h.len]);refine ⟨by simp [h.len],?_,?_⟩
  · rw [h1,h2,List.reverse_append,List.reverse_append];have:=h.ch.push ht hk;rw [hr] at this;exact this
  · rw [h1,List.filter_append,h.eq];unfold ov;rw [List.range_succ,List.filter_append,List.filter_filter]
    congr 1
    refine List.filter_congr fun j _=>?_
    rw [Bool.eq_iff_iff];simp;omega
theorem z6e {ab:List Nat} {i:Nat} (h:i<ab.length):(ab.take (i+1)).reverse=ab[i]::(ab.take i).reverse:=by
  rw [List.take_succ_eq_append_getElem h,List.reverse_append]
  rfl
theorem Pp.zero {l:List Nd} {k i:Nat} {ab st:List Nat} (h:Pp l k (i+1) ab st) (hi:i<st.length) (h0:st[i]=0):Pp l k i ab st:=by
  have hc:=h.ch;rw [z6e hi,z6e (by rw [← h.len]; exact hi),h0] at hc;obtain ⟨h1,h2⟩:=hc.zero;refine ⟨h.len,h2,?_⟩;rw [h.eq,List.take_succ_eq_append_getElem (by rw [← h.len]; exact hi),List.filter_append]
  have:List.filter (fun j=>decide (k+1<j+zz l j)) [ab[i]'(by rw [← h.len]; exact hi)]=[]:=by
    simp;omega
  rw [this,List.append_nil]
theorem Pp.none {l:List Nd} {k:Nat} {ab st:List Nat} (h:Pp l k 0 ab st):k+1=l.length:=by
  have:=h.ch;simp only [List.take_zero,List.reverse_nil] at this;exact this
theorem Pp.some {l:List Nd} {k i c:Nat} {ab st:List Nat} (h:Pp l k (i+1) ab st) (hi:i<st.length) (h0:st[i]=c+1):k+1<l.length∧Op l (k+1) (ab.take (i+1)) (st.take i++[c]):=by
  have hl:=h.len;have hc:=h.ch;rw [z6e hi,z6e (by omega),h0] at hc;obtain ⟨h1,h2,h3⟩:=hc.succ;refine ⟨h1,?_,?_,?_⟩
  · rw [h.eq,List.filter_eq_self.2];intro x hx;rw [decide_eq_true_eq];rw [List.take_succ_eq_append_getElem (by omega),List.mem_append,List.mem_singleton] at hx
    rcases hx with hx | rfl
    · have:=h3.2.le x (by rwa [List.mem_reverse]);omega
    · exact h2
  · simp;omega
  · rw [List.reverse_append,z6e (by omega)];exact h3
end Pl
namespace Rw
open Go Go.RowKit
def deepest:List (List Nd)→Nat
  | []=>0
  | r::rs=>max (depth r) (deepest rs)
theorem RwC.at {w:World}:∀ {cs:List Value} {ls:List (List Nd)},RwC w cs ls→∀ i (h:i<ls.length),∃ a,cs[i]?=some a∧Nds w a ls[i]
  | [],[],_,i,h=>by simp at h
  | a::_,_::_,hr,0,_=>⟨a,rfl,hr.1⟩
  | _::cs,_::ls,hr,i+1,h=>by
    obtain ⟨a,h1,h2⟩:=RwC.at hr.2 i (by simpa using h);exact ⟨a,by simpa using h1,by simpa using h2⟩
  | [],_::_,h,_,_=>h.elim
  | _::_,[],h,_,_=>h.elim
def AtR (w:World) (b off:Nat) (ls:List (List Nd)):Prop:=∀ i,(h:i<ls.length)→∃ a,w.cell? ⟨b,off+i,none⟩=some a∧Nds w a ls[i]
theorem Rws.form {w:World} {v:Value} {ls:List (List Nd)} (h:Rws w v ls) :
    (ls=[]∧∃ a cap,v=.slice a 0 cap)∨∃ b off cap,v=.slice (some ⟨b,off,none⟩) ls.length cap∧AtR w b off ls:=by
  obtain ⟨cs,⟨_,a,cap,rfl,hle,_,hcell⟩,hr⟩:=h
  by_cases h0:0<ls.length
  · obtain ⟨b,off,rfl,hj⟩:=hcell h0;refine Or.inr ⟨b,off,cap,rfl,fun i hi=>?_⟩;obtain ⟨a,h1,h2⟩:=hr.at i hi;exact ⟨a,hj _ _ h1,h2⟩
  · have:ls=[]:=List.eq_nil_of_length_eq_zero (by omega);subst this;exact Or.inl ⟨rfl,a,cap,rfl⟩
structure Kr (w0:World) (v:Value) (l:List Nd) (b o:Nat) (ls:List (List Nd)) (w:World):Prop where
  kp:Kp w0 v l w
  at':AtR w b o ls
end Rw
namespace So
open Go Go.RowKit Rw
def onB (l:List Nd) (p:Bool):Bool:=if p then of l==2||of l==4 else of l==1||of l==3

end So
namespace So
open Go Rw
theorem eq_1_1 {l:List Nd} (h:hd l=1):Is 1 l=true:=by
  rw [z2n];unfold plainB;rw [h]
  rfl
theorem eq_1_2 {l:List Nd} (h:hd l=1):Is 2 l=false:=by
  rw [z2m];unfold pairedB;rw [h]
  rfl
theorem eq_1_3 {l:List Nd} (h:hd l=1):Is 3 l=(true||false):=by
  rw [z0z];unfold plainB plainOnB;rw [h]
  rfl
theorem eq_1_4 {l:List Nd} (h:hd l=1):Is 4 l=(false||false):=by
  rw [z1o];unfold pairedB pairedOnB;rw [h]
  rfl
theorem eq_2_1 {l:List Nd} (h:hd l=2):Is 1 l=true:=by
  rw [z2n];unfold plainB;rw [h]
  rfl
theorem eq_2_2 {l:List Nd} (h:hd l=2):Is 2 l=false:=by
  rw [z2m];unfold pairedB;rw [h]
  rfl
theorem eq_2_3 {l:List Nd} (h:hd l=2):Is 3 l=(true||false):=by
  rw [z0z];unfold plainB plainOnB;rw [h]
  rfl
theorem eq_2_4 {l:List Nd} (h:hd l=2):Is 4 l=(false||false):=by
  rw [z1o];unfold pairedB pairedOnB;rw [h]
  rfl
theorem eq_3_1 {l:List Nd} (h:hd l=3):Is 1 l=true:=by
  rw [z2n];unfold plainB;rw [h]
  rfl
theorem eq_3_2 {l:List Nd} (h:hd l=3):Is 2 l=false:=by
  rw [z2m];unfold pairedB;rw [h]
  rfl
theorem eq_3_3 {l:List Nd} (h:hd l=3):Is 3 l=(true||false):=by
  rw [z0z];unfold plainB plainOnB;rw [h]
  rfl
theorem eq_3_4 {l:List Nd} (h:hd l=3):Is 4 l=(false||false):=by
  rw [z1o];unfold pairedB pairedOnB;rw [h]
  rfl
theorem eq_4_1 {l:List Nd} (h:hd l=4):Is 1 l=true:=by
  rw [z2n];unfold plainB;rw [h]
  rfl
theorem eq_4_2 {l:List Nd} (h:hd l=4):Is 2 l=false:=by
  rw [z2m];unfold pairedB;rw [h]
  rfl
theorem eq_4_3 {l:List Nd} (h:hd l=4):Is 3 l=(true||false):=by
  rw [z0z];unfold plainB plainOnB;rw [h]
  rfl
theorem eq_4_4 {l:List Nd} (h:hd l=4):Is 4 l=(false||false):=by
  rw [z1o];unfold pairedB pairedOnB;rw [h]
  rfl
theorem eq_5_1 {l:List Nd} (h:hd l=5):Is 1 l=(Is 1 (k0 l)&&Is 1 (k1 l)):=by
  rw [z2n];unfold plainB;rw [h]
  rfl
theorem eq_5_2 {l:List Nd} (h:hd l=5):Is 2 l=(Is 2 (k0 l)&&Is 2 (k1 l)):=by
  rw [z2m];unfold pairedB;rw [h]
  rfl
theorem x9s {l:List Nd} (h:hd l=5):Is 3 l=((Is 1 (k0 l)&&Is 1 (k1 l))||(Is 3 (k0 l)&&Is 1 (k1 l))):=by
  rw [z0z];unfold plainB plainOnB;rw [h]
  rfl
theorem eq_5_4 {l:List Nd} (h:hd l=5):Is 4 l=((Is 2 (k0 l)&&Is 2 (k1 l))||(Is 4 (k0 l)&&Is 2 (k1 l))):=by
  rw [z1o];unfold pairedB pairedOnB;rw [h]
  rfl
theorem eq_6_1 {l:List Nd} (h:hd l=6):Is 1 l=(Is 1 (k0 l)&&Is 1 (k1 l)):=by
  rw [z2n];unfold plainB;rw [h]
  rfl
theorem eq_6_2 {l:List Nd} (h:hd l=6):Is 2 l=(Is 2 (k0 l)&&Is 2 (k1 l)):=by
  rw [z2m];unfold pairedB;rw [h]
  rfl
theorem eq_6_3 {l:List Nd} (h:hd l=6):Is 3 l=((Is 1 (k0 l)&&Is 1 (k1 l))||false):=by
  rw [z0z];unfold plainB plainOnB;rw [h]
  rfl
theorem eq_6_4 {l:List Nd} (h:hd l=6):Is 4 l=((Is 2 (k0 l)&&Is 2 (k1 l))||false):=by
  rw [z1o];unfold pairedB pairedOnB;rw [h]
  rfl
theorem eq_7_1 {l:List Nd} (h:hd l=7):Is 1 l=(Is 1 (k0 l)&&Is 1 (k1 l)):=by
  rw [z2n];unfold plainB;rw [h]
  rfl
theorem eq_7_2 {l:List Nd} (h:hd l=7):Is 2 l=(Is 2 (k0 l)&&Is 2 (k1 l)):=by
  rw [z2m];unfold pairedB;rw [h]
  rfl
theorem eq_7_3 {l:List Nd} (h:hd l=7):Is 3 l=((Is 1 (k0 l)&&Is 1 (k1 l))||(Is 3 (k0 l)&&Is 3 (k1 l))):=by
  rw [z0z];unfold plainB plainOnB;rw [h]
  rfl
theorem eq_7_4 {l:List Nd} (h:hd l=7):Is 4 l=((Is 2 (k0 l)&&Is 2 (k1 l))||(Is 4 (k0 l)&&Is 4 (k1 l))):=by
  rw [z1o];unfold pairedB pairedOnB;rw [h]
  rfl
theorem eq_8_1 {l:List Nd} (h:hd l=8):Is 1 l=(Is 1 (k0 l)&&Is 1 (k1 l)):=by
  rw [z2n];unfold plainB;rw [h]
  rfl
theorem eq_8_2 {l:List Nd} (h:hd l=8):Is 2 l=false:=by
  rw [z2m];unfold pairedB;rw [h]
  rfl
theorem eq_8_3 {l:List Nd} (h:hd l=8):Is 3 l=((Is 1 (k0 l)&&Is 1 (k1 l))||(Is 3 (k0 l)&&Is 1 (k1 l))):=by
  rw [z0z];unfold plainB plainOnB;rw [h]
  rfl
theorem eq_8_4 {l:List Nd} (h:hd l=8):Is 4 l=(false||false):=by
  rw [z1o];unfold pairedB pairedOnB;rw [h]
  rfl
theorem eq_9_1 {l:List Nd} (h:hd l=9):Is 1 l=Is 2 (k0 l):=by
  rw [z2n];unfold plainB;rw [h]
  rfl
theorem eq_9_2 {l:List Nd} (h:hd l=9):Is 2 l=false:=by
  rw [z2m];unfold pairedB;rw [h]
  rfl
theorem eq_9_3 {l:List Nd} (h:hd l=9):Is 3 l=(Is 2 (k0 l)||Is 4 (k0 l)):=by
  rw [z0z];unfold plainB plainOnB;rw [h]
  rfl
theorem eq_9_4 {l:List Nd} (h:hd l=9):Is 4 l=(false||false):=by
  rw [z1o];unfold pairedB pairedOnB;rw [h]
  rfl
theorem eq_10_1 {l:List Nd} (h:hd l=10):Is 1 l=false:=by
  rw [z2n];unfold plainB;rw [h]
  rfl
theorem v0g {l:List Nd} (h:hd l=10):Is 2 l=(Is 1 (k0 l)&&Is 1 (k1 l)):=by
  rw [z2m];unfold pairedB;rw [h]
  rfl
theorem v0f {l:List Nd} (h:hd l=10):Is 3 l=(false||false):=by
  rw [z0z];unfold plainB plainOnB;rw [h]
  rfl
theorem v0e {l:List Nd} (h:hd l=10):Is 4 l=((Is 1 (k0 l)&&Is 1 (k1 l))||false):=by
  rw [z1o];unfold pairedB pairedOnB;rw [h]
  rfl
theorem v0d {l:List Nd} (h:hd l=11):Is 1 l=false:=by
  rw [z2n];unfold plainB;rw [h]
  rfl
theorem eq_11_2 {l:List Nd} (h:hd l=11):Is 2 l=false:=by
  rw [z2m];unfold pairedB;rw [h]
  rfl
theorem eq_11_3 {l:List Nd} (h:hd l=11):Is 3 l=(false||true):=by
  rw [z0z];unfold plainB plainOnB;rw [h]
  rfl
theorem v0c {l:List Nd} (h:hd l=11):Is 4 l=(false||false):=by
  rw [z1o];unfold pairedB pairedOnB;rw [h]
  rfl
theorem eq_12_1 {l:List Nd} (h:hd l=12):Is 1 l=false:=by
  rw [z2n];unfold plainB;rw [h]
  rfl
theorem v0b {l:List Nd} (h:hd l=12):Is 2 l=false:=by
  rw [z2m];unfold pairedB;rw [h]
  rfl
theorem v0a {l:List Nd} (h:hd l=12):Is 3 l=(false||false):=by
  rw [z0z];unfold plainB plainOnB;rw [h]
  rfl
theorem x9z {l:List Nd} (h:hd l=12):Is 4 l=(false||(Is 3 (k0 l)&&Is 1 (k1 l))):=by
  rw [z1o];unfold pairedB pairedOnB;rw [h]
  rfl
theorem eq_13_1 {l:List Nd} (h:hd l=13):Is 1 l=false:=by
  rw [z2n];unfold plainB;rw [h]
  rfl
theorem x9y {l:List Nd} (h:hd l=13):Is 2 l=false:=by
  rw [z2m];unfold pairedB;rw [h]
  rfl
theorem x9x {l:List Nd} (h:hd l=13):Is 3 l=(false||false):=by
  rw [z0z];unfold plainB plainOnB;rw [h]
  rfl
theorem x9w {l:List Nd} (h:hd l=13):Is 4 l=(false||(Is 4 (k0 l)&&Is 1 (k1 l))):=by
  rw [z1o];unfold pairedB pairedOnB;rw [h]
  rfl
theorem eq_14_1 {l:List Nd} (h:hd l=14):Is 1 l=false:=by
  rw [z2n];unfold plainB;rw [h]
  rfl
theorem x9v {l:List Nd} (h:hd l=14):Is 2 l=false:=by
  rw [z2m];unfold pairedB;rw [h]
  rfl
theorem x9u {l:List Nd} (h:hd l=14):Is 3 l=(false||false):=by
  rw [z0z];unfold plainB plainOnB;rw [h]
  rfl
theorem x9t {l:List Nd} (h:hd l=14):Is 4 l=(false||Is 1 (k0 l)):=by
  rw [z1o];unfold pairedB pairedOnB;rw [h]
  rfl
def on (l:List Nd):Nat:=cnt l [11,12,13,14]
theorem Tre.flat {l:List Nd} (h:Tre l):∃ x,hd l=x.k∧l=x::(Rw.kids l).flatten:=by
  have hs:=h.size;have hp:=h.pos
  cases l with
  | nil=>exact absurd hp (Nat.lt_irrefl 0)
  | cons x r=>
    refine ⟨x,rfl,?_⟩;have:=z6l (n:=x) (r:=r) (by rw [hs]; omega);rw [hs,List.take_length] at this;exact this.symm
theorem of_one {l:List Nd} (h:of l=1):whole l=true∧Is 1 l=true:=by
  unfold of first at h
  repeat' split at h
  all_goals first | (exact ⟨‹_›,‹_›⟩) | omega
theorem x0m {l:List Nd} (h:of l=3):whole l=true∧Is 3 l=true∧Is 1 l=false∧Is 2 l=false:=by
  unfold of first at h
  repeat' split at h
  all_goals first | (exact ⟨‹_›,‹_›,by simpa using ‹¬ Is 1 l=true›,by simpa using ‹¬ Is 2 l=true›⟩) | omega
end So
end Go.Proofs.YtaapnkoooofalaaGreat
