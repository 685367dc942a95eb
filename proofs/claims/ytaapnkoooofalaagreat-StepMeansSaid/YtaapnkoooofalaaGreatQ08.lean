/- Laws that the last text leans on. -/
import Derived.Test.YtaapnkoooofalaaGreatQ07

set_option maxRecDepth 20000
set_option maxHeartbeats 4000000
namespace Go.Proofs.YtaapnkoooofalaaGreat
namespace Rx
open Go Go.RowKit Rw
theorem v0h (a1 a2:Option Addr) (c1 c2 n m:Nat) (w:World) (h:n≠m) :
    Calls Tryz.prog 63 #[.slice a1 n c1,.slice a2 m c2] w fun e w'=>e=.returned (.bool false)∧Below w.heap.size w w':=by
  have hne:((n:Int)==(m:Int))=false:=by rw [beq_eq_false_iff_ne]; omega
  have hne':((n:Int) != (m:Int))=true:=by rw [bne_iff_ne]; omega
  go_enter Tryz.func63,Tryz.ntmps63
  go_wp2_with fail;go_ret;exact ⟨rfl,Below.refl _ _⟩
theorem y6b (a1 a2:Option Addr) (c1 c2:Nat) (w:World) :
    Calls Tryz.prog 63 #[.slice a1 0 c1,.slice a2 0 c2] w fun e w'=>e=.returned (.bool true)∧Below w.heap.size w w':=by
  go_enter Tryz.func63,Tryz.ntmps63
  go_wp2_with fail;refine Go.wp_loop_rounds 1 ?_;rw [rounds_succ];go_wp2_with fail;go_ret;exact ⟨rfl,Below.refl _ _⟩
theorem v0i (b1 o1 c1 b2 o2 c2:Nat) (l m:List Nd) (w:World) (hl:l.length≤1000000) (he:m.length=l.length) (h1:At w b1 o1 l) (h2:At w b2 o2 m) :
    Calls Tryz.prog 63 #[.slice (some ⟨b1,o1,none⟩) l.length c1,.slice (some ⟨b2,o2,none⟩) l.length c2] w fun e w'=>e=.returned (.bool (sameN l m))∧Below w.heap.size w w':=by
  have H1:=Lib.hid h1;have H2:=Lib.hid h2;have HE:=Lib.hid he;clear h1 h2 he
  go_enter Tryz.func63,Tryz.ntmps63
  go_wp2_with fail
  go_loopw [13] (fun i wr=>∃ k:Nat,k≤l.length∧i=.int .i64 k∧Below w.heap.size w wr∧sameN l m=sameN (l.drop k) (m.drop k)) (fun i _=>l.length-(intOf i).toNat)
  case atStart=>exact ⟨0,Nat.zero_le _,rfl,Below.refl _ _,rfl⟩
  case round=>
    obtain ⟨k,hk,rfl,hb,hsame⟩:=hrel;have HB:=Lib.hid hb;have HS:=Lib.hid hsame;clear hb hsame
    by_cases hlt:k<l.length
    · have hlt2:k<m.length:=by rw [HE.out]; exact hlt
      obtain ⟨e1,e2,e3⟩:=H1.out k hlt;obtain ⟨e1',e2',e3'⟩:=H2.out k hlt2;have d1:wr.cell? ⟨b1,o1+k*3,none⟩=some (.int .i64 l[k].k):=by rw [HB.out.cell (Ap.z0a e1)]; exact e1
      have d2:wr.cell? ⟨b1,o1+k*3+1,none⟩=some (.string l[k].n):=by rw [HB.out.cell (Ap.z0a e2)]; exact e2
      have d3:wr.cell? ⟨b1,o1+k*3+2,none⟩=some (.int .i64 l[k].s):=by rw [HB.out.cell (Ap.z0a e3)]; exact e3
      have d4:wr.cell? ⟨b2,o2+k*3,none⟩=some (.int .i64 m[k].k):=by rw [HB.out.cell (Ap.z0a e1')]; exact e1'
      have d5:wr.cell? ⟨b2,o2+k*3+1,none⟩=some (.string m[k].n):=by rw [HB.out.cell (Ap.z0a e2')]; exact e2'
      have d6:wr.cell? ⟨b2,o2+k*3+2,none⟩=some (.int .i64 m[k].s):=by rw [HB.out.cell (Ap.z0a e3')]; exact e3'
      have HA:=Lib.hid (HS.out.trans (x0c hlt hlt2));clear e1 e2 e3 e1' e2' e3';obtain ⟨u,hu⟩:∃ u,l[k]=u:=⟨_,rfl⟩
      obtain ⟨v,hv⟩:∃ v,m[k]=v:=⟨_,rfl⟩
      rw [hu] at d1 d2 d3 HA;rw [hv] at d4 d5 d6 HA;clear hu hv;have hq:=neq_nd u v
      by_cases huv:u=v
      · rw [decide_eq_true huv] at hq;have HV:=Lib.hid huv;clear huv;go_wp2_with fail
        go_quiet (fail)
        go_wp2_with fail
        go_roundw
        case rel=>exact ⟨k+1,by omega,by go_num,HB.out.trans (Below.drewN _ _ _),by rw [HA.out,decide_eq_true HV.out,Bool.true_and]⟩
        case measure=>simp [intOf]; omega
      · rw [decide_eq_false huv] at hq;have HV:=Lib.hid huv;clear huv;go_wp2_with fail
        go_quiet (fail)
        go_wp2_with fail;go_ret;exact ⟨ret_bool (by rw [HA.out,decide_eq_false HV.out,Bool.false_and]),HB.out.trans (Below.drewN _ _ _)⟩
    · go_wp2_with fail;go_ret;refine ⟨ret_bool ?_,HB.out⟩;rw [HS.out,List.drop_eq_nil_of_le (by omega),List.drop_eq_nil_of_le (by rw [HE.out]; omega)]
      rfl
theorem eqP_any (x y:Value) (l m:List Nd) (w:World) (hx:Nds w x l) (hy:Nds w y m) (hl:l.length≤1000000) :
    Calls Tryz.prog 63 #[x,y] w fun e w'=>e=.returned (.bool (sameN l m))∧Below w.heap.size w w':=by
  by_cases he:l.length=m.length
  · rcases hx.form with ⟨rfl,a,cap,rfl⟩ | ⟨b,off,cap,rfl,_,hc⟩
    · obtain rfl:m=[]:=List.eq_nil_of_length_eq_zero he.symm;obtain ⟨_,a',cap',rfl,_⟩:=hy;exact y6b a a' cap cap' w
    · rcases hy.form with ⟨rfl,a',cap',rfl⟩ | ⟨b',off',cap',rfl,_,hc'⟩
      · obtain rfl:l=[]:=List.eq_nil_of_length_eq_zero he;exact y6b _ a' cap cap' w
      · rw [← he];exact v0i b off cap b' off' cap' l m w hl he.symm hc hc'
  · rw [y5c he];obtain ⟨_,a,cap,rfl,_⟩:=hx;obtain ⟨_,a',cap',rfl,_⟩:=hy;exact v0h a a' cap cap' l.length m.length w he
theorem x6d (x y:Value) (l m:List Nd) (w:World) (hx:Nds w x l) (hy:Nds w y m) (hl:l.length≤1000000) :
    Calls Tryz.prog 36 #[x,y] w fun e w'=>e=.returned (.bool (sameN l m))∧Below w.heap.size w w':=by
  have HX:=Lib.hid hx;have HY:=Lib.hid hy;obtain ⟨q,hq⟩:∃ q,sameN l m=q:=⟨_,rfl⟩
  rw [hq];have HQ:=Lib.hid hq;clear hx hy hq
  go_enter Tryz.func36,Tryz.ntmps36
  go_wp2_with fail;refine (eqP_any x y l m _ HX.out HY.out hl).mono ?_;rw [HQ.out];rintro e w' ⟨rfl,hb⟩;have HB:=Lib.hid hb;clear hb;go_wp2_with fail;go_ret;exact ⟨rfl,HB.out⟩
end Rx
namespace So
open Go Go.RowKit Rw
def Tre (l:List Nd):Prop:=∃ d,T l=some (l.length,d)
theorem Tre.pos {l:List Nd} (h:Tre l):0<l.length:=by
  obtain ⟨d,h⟩:=h;exact (T_bd h).1
theorem Tre.size {l:List Nd} (h:Tre l):Rw.size l=l.length:=by
  obtain ⟨d,h⟩:=h;unfold Rw.size;rw [h]
theorem Tre.of_size {l:List Nd} (h:Rw.size l=l.length) (h0:l≠[]):Tre l:=by
  unfold Rw.size at h
  cases ht:T l with
  | none=>
    rw [ht] at h;exact absurd (List.eq_nil_of_length_eq_zero h.symm) h0
  | some x=>
    rw [ht] at h;obtain ⟨c,d⟩:=x;simp only at h;exact ⟨d,by rw [ht,h]⟩
theorem Tre.of_head {l:List Nd} {c d:Nat} (h:T l=some (c,d)):Tre (l.take c):=by
  have hh:=T_head h;have hb:=T_bd h;exact ⟨d,by rw [hh,List.length_take,Nat.min_eq_left hb.2.1]⟩
theorem y5p:∀ (j:Nat) (r:List Nd) (c d:Nat),S j r=some (c,d)→∀ t∈kidsN j r,Tre t
  | 0,_,_,_,_,t,ht=>by cases ht
  | j+1,r,c,d,h,t,ht=>by
    rw [z2q] at h
    cases hj:S j r with
    | none=>rw [hj] at h; cases h
    | some x=>
      obtain ⟨c1,d1⟩:=x;rw [hj] at h;simp only at h
      cases hx:T (r.drop c1) with
      | none=>rw [hx] at h; cases h
      | some y=>
        obtain ⟨c2,d2⟩:=y;rw [kidsN,hj,List.mem_append,List.mem_singleton] at ht
        rcases ht with ht | ht
        · exact y5p j r c1 d1 hj t ht
        · rw [ht];simp only [Option.getD_some];have hs:Rw.size (r.drop c1)=c2:=by unfold Rw.size; rw [hx]
          rw [hs];exact Tre.of_head hx
theorem Tre.ar {l:List Nd} (h:Tre l):0≤Rw.ar (hd l):=by
  obtain ⟨d,h⟩:=h
  cases l with
  | nil=>rw [z7k] at h; cases h
  | cons n r=>
    rw [z2l] at h
    split at h
    · cases h
    · rename_i hk
      show 0≤Rw.ar n.k
      omega
theorem Tre.kids {l:List Nd} (h:Tre l):(Rw.kids l).length=(Rw.ar (hd l)).toNat∧∀ t∈Rw.kids l,Tre t:=by
  have hs:Rw.size l≠0:=by rw [h.size]; have:=h.pos; omega
  have ha:=h.ar;obtain ⟨d,h⟩:=h
  cases l with
  | nil=>rw [z7k] at h; cases h
  | cons n r=>
    unfold Rw.kids;rw [if_neg hs];refine ⟨z9s _ _,?_⟩;rw [z2l] at h
    split at h
    · cases h
    · cases hj:S (Rw.ar n.k).toNat r with
      | none=>rw [hj] at h; cases h
      | some x=>exact y5p _ r x.1 x.2 hj
theorem Tre.two {l:List Nd} (h:Tre l) (h2:Rw.ar (hd l)=2):∃ a b,Rw.kids l=[a,b]∧Tre a∧Tre b∧a.length<l.length∧b.length<l.length:=by
  obtain ⟨hl,ht⟩:=h.kids;rw [h2] at hl
  match hk:Rw.kids l,hl with
  | [a,b],_=>
    have ha:a∈Rw.kids l:=by rw [hk]; simp
    have hb:b∈Rw.kids l:=by rw [hk]; simp
    exact ⟨a,b,rfl,ht a ha,ht b hb,z5g ha,z5g hb⟩
theorem Tre.one {l:List Nd} (h:Tre l) (h1:Rw.ar (hd l)=1):∃ a,Rw.kids l=[a]∧Tre a∧a.length<l.length:=by
  obtain ⟨hl,ht⟩:=h.kids;rw [h1] at hl
  match hk:Rw.kids l,hl with
  | [a],_=>
    have ha:a∈Rw.kids l:=by rw [hk]; simp
    exact ⟨a,rfl,ht a ha,z5g ha⟩
theorem kinds {k:Int} (h:0≤Rw.ar k):k=1∨k=2∨k=3∨k=4∨k=5∨k=6∨k=7∨k=8∨k=9∨k=10∨k=11∨k=12∨k=13∨k=14:=by
  rcases y4c k with h1 | h1 | h1 | h1 | h1 | h1 | h1 | h1 | h1 | h1 | h1 | h1 | h1 | h1 | h1
  case inr.inr.inr.inr.inr.inr.inr.inr.inr.inr.inr.inr.inr.inr=>rw [ar_no h1] at h; exact absurd h (by decide)
  all_goals omega
end So
namespace Tr
open Go Go.RowKit
theorem Trs.val {w:World} {v:Value} {ts:List Tr} (h:Trs w v ts):∃ a cap,v=.slice a ts.length cap∧ts.length≤cap∧
    ∀ k,(hk:k<ts.length)→∃ b off x,a=some ⟨b,off,none⟩∧w.cell? ⟨b,off+2*k,none⟩=some x∧w.cell? ⟨b,off+2*k+1,none⟩=some (.int .i64 ts[k].e)∧Strs w x ts[k].a:=by
  obtain ⟨cs,⟨_,a,cap,rfl,hcap,_,hcell⟩,hc⟩:=h;refine ⟨a,cap,rfl,hcap,fun k hk=>?_⟩;obtain ⟨b,off,rfl,hj⟩:=hcell (by omega);obtain ⟨x,h1,h2,h3⟩:=hc.at k hk;exact ⟨b,off,x,rfl,hj _ _ h1,by rw [Nat.add_assoc]; exact hj _ _ h2,h3⟩
theorem Strs.one {w:World} {v:Value} {l:List ByteArray} (h:Strs w v l):v.oneCell'=true:=by
  obtain ⟨_,a,cap,rfl,_⟩:=h
  rfl
theorem z1r {wk wr:World} {base:Nat} {v a:Value} {o:List Tr} {t:Tr} {cs:List Value} (hown:wr.ownsRow base 68 2 v o.length cs) (hbase:base≤wr.heap.size) (ha:Strs wk a t.a) (hlen:o.length≤2000000000000) :
    ∃ v' w',(Builtin.append_ #[37,37] 37 #[v,.slice (some ⟨wr.heap.size,0,none⟩) 1 1]).run Tryz.prog (wr.alloc (.cells #[a,.int .i64 t.e] 68))=.ok v' w'∧
      w'.ownsRow base 68 2 v' (o++[t]).length (cs++[a,.int .i64 t.e])∧wr.grownBy w' v.ownBlock∧Below base wr w'∧Ap.Fresh wr v v':=by
  obtain ⟨i0,hi,hz,hs1,hb8⟩:=info_parts infoT
  obtain ⟨v',w',h1,h2,h3,h4,h5⟩:=Ap.z0w (P:=Tryz.prog) (ty:=37) Tryz.underlying37 hi hz hs1 hb8 (by rfl) (by omega) hown hbase #[a,.int .i64 t.e] rfl
    (fun u hu=>by
      simp at hu
      rcases hu with rfl | rfl
      · exact ha.one
      · rfl) (by unfold maxLen; omega) (by omega)
  exact ⟨v',w',h1,by simpa using h2,h3,h4,h5⟩
theorem x8d (x y:Value) (l m:List Tr) (w:World) (hx:Trs w x l) (hy:Trs w y m) (hf:Few l) (hg:Few m) (hsum:l.length+m.length≤1000000000000) :
    Calls Tryz.prog 44 #[x,y] w fun e w'=>∃ v,e=.returned v∧Trs w' v (mg (l.length+m.length+1) l m)∧Below w.heap.size w w':=by
  obtain ⟨a1,c1,rfl,_,h1⟩:=hx.val;obtain ⟨a2,c2,rfl,_,h2⟩:=hy.val;have H1:=Lib.hid h1;have H2:=Lib.hid h2;have HF:=Lib.hid hf;have HG:=Lib.hid hg;have hlen:=hf.1;have hlen2:=hg.1;clear h1 h2 hf hg hx hy
  go_enter Tryz.func44,Tryz.ntmps44
  go_wp2_with fail
  go_loopw [5,6,7] (fun v i j wr=>∃ (p q:Nat) (o:List Tr) (cs:List Value),p≤l.length∧q≤m.length∧i=.int .i64 p∧j=.int .i64 q∧Below w.heap.size w wr∧wr.ownsRow w.heap.size 68 2 v o.length cs∧TrCells w cs o∧o.length≤p+q∧
      mg (l.length+m.length+1) l m=o++mg (l.length+m.length+1-p-q) (l.drop p) (m.drop q)) (fun _ i j _=>l.length+m.length-(intOf i).toNat-(intOf j).toNat)
  case atStart=>exact ⟨0,0,[],[],Nat.zero_le _,Nat.zero_le _,rfl,rfl,Below.refl _ _,⟨rfl,.inl ⟨rfl,rfl⟩⟩,trivial,Nat.zero_le _,rfl⟩
  case round=>
    obtain ⟨p,q,o,cs,hp,hq,rfl,rfl,hb,hown,hcs,hol,hmg⟩:=hrel;have HB:=Lib.hid hb;have HOWN:=Lib.hid hown;have HCS:=Lib.hid hcs;have HM:=Lib.hid hmg;clear hb hown hcs hmg
    by_cases hlt1:p<l.length
    · have g1:decide (p<l.length)=true:=by simpa using hlt1
      have g3:((p:Int)==(l.length:Int))=false:=by rw [beq_eq_false_iff_ne]; omega
      obtain ⟨b1,o1,a,rfl,e1,e2,hs⟩:=H1.out p hlt1;have c1':wr.cell? ⟨b1,o1+p*2,none⟩=some a:=by rw [Nat.mul_comm p 2,HB.out.cell (Ap.z0a e1)]; exact e1
      have c2':wr.cell? ⟨b1,o1+p*2+1,none⟩=some (.int .i64 l[p].e):=by rw [Nat.mul_comm p 2,HB.out.cell (Ap.z0a e2)]; exact e2
      have HS:=Lib.hid hs;clear e1 e2 hs
      by_cases hlt2:q<m.length
      · obtain ⟨b2,o2,a',rfl,e1',e2',hs'⟩:=H2.out q hlt2;have c3':wr.cell? ⟨b2,o2+q*2,none⟩=some a':=by rw [Nat.mul_comm q 2,HB.out.cell (Ap.z0a e1')]; exact e1'
        have c4':wr.cell? ⟨b2,o2+q*2+1,none⟩=some (.int .i64 m[q].e):=by rw [Nat.mul_comm q 2,HB.out.cell (Ap.z0a e2')]; exact e2'
        have HS':=Lib.hid hs';clear e1' e2' hs';have HLT:=Lib.hid (mg_lt l m p q hlt1 hlt2);have HEQ:=Lib.hid (mg_eq l m p q hlt1 hlt2);have HGT:=Lib.hid (mg_gt l m p q hlt1 hlt2);have hua:=HF.out.2 _ (List.getElem_mem hlt1);have hva:=HG.out.2 _ (List.getElem_mem hlt2);generalize l[p]=u at *;generalize m[q]=t at *;have HU:=Lib.hid hua;have HV:=Lib.hid hva;clear hua hva;obtain ⟨c,hc⟩:∃ c,cmp u t=c:=⟨_,rfl⟩
        rw [hc] at HLT HEQ HGT;have HC:=Lib.hid hc;clear hc
        by_cases k1:c<0
        · have HE:=Lib.hid (HM.out.trans (congrArg (o++·) (HLT.out k1)));go_wp2_with fail
          go_still_tail 8,(by kernel_rfl)
          change wpList _ _ _ _ _ wr.drew;go_wp2_with fail;refine (y0j _ _ u t _ (HS.out.below HB.out.drew) (HS'.out.below HB.out.drew) HU.out HV.out).mono ?_;rw [HC.out];rintro e w1 ⟨rfl,hb1⟩;have HB1:=Lib.hid (HB.out.drew.trans (hb1.mono HB.out.size));have d1:w1.cell? ⟨b1,o1+p*2,none⟩=some a:=by rw [hb1.cell (Ap.z0a c1')]; exact c1'
          have d2:w1.cell? ⟨b1,o1+p*2+1,none⟩=some (.int .i64 u.e):=by rw [hb1.cell (Ap.z0a c2')]; exact c2'
          have HO1:=Lib.hid (Ap.own_below HOWN.out ((Below.refl _ _).drew.trans hb1));obtain ⟨v2,w2,hrun,hown2,hgr,hb2,_⟩:=z1r (t:=u) HO1.out HB1.out.size HS.out (by omega);have HRUN:=Lib.hid hrun;have HO2:=Lib.hid hown2;have HB2:=Lib.hid (HB1.out.trans hb2);clear hrun hown2 hgr hb2;go_wp2_with (at_builtin; refine Ap.wpList_append_run (by rfl) _ _ _ _ rfl _ _ rfl rfl v2 w2 HRUN.out ?_)
          go_roundw
          case rel=>exact ⟨p+1,q,o++[u],_,by omega,by omega,by go_num,by go_num,HB2.out,HO2.out,HCS.out.snoc HS.out,by simp; omega,by rw [HE.out]; simp⟩
          case measure=>simp [intOf]; omega
        by_cases k2:c=0
        · have HE:=Lib.hid (HM.out.trans (congrArg (o++·) (HEQ.out k2)));have k3:¬ 0<c:=by omega
          have k4:0≤c:=by omega
          go_wp2_with fail
          go_still_tail 8,(by kernel_rfl)
          change wpList _ _ _ _ _ wr.drew;go_wp2_with fail;refine (y0j _ _ u t _ (HS.out.below HB.out.drew) (HS'.out.below HB.out.drew) HU.out HV.out).mono ?_;rw [HC.out];rintro e w1 ⟨rfl,hb1⟩;have HB1:=Lib.hid (HB.out.drew.trans (hb1.mono HB.out.size));have d1:w1.cell? ⟨b1,o1+p*2,none⟩=some a:=by rw [hb1.cell (Ap.z0a c1')]; exact c1'
          have d2:w1.cell? ⟨b1,o1+p*2+1,none⟩=some (.int .i64 u.e):=by rw [hb1.cell (Ap.z0a c2')]; exact c2'
          have HO1:=Lib.hid (Ap.own_below HOWN.out ((Below.refl _ _).drew.trans hb1));obtain ⟨v2,w2,hrun,hown2,hgr,hb2,_⟩:=z1r (t:=u) HO1.out HB1.out.size HS.out (by omega);have HRUN:=Lib.hid hrun;have HO2:=Lib.hid hown2;have HB2:=Lib.hid (HB1.out.trans hb2);clear hrun hown2 hgr hb2;go_wp2_with (at_builtin; refine Ap.wpList_append_run (by rfl) _ _ _ _ rfl _ _ rfl rfl v2 w2 HRUN.out ?_)
          go_roundw
          case rel=>exact ⟨p+1,q+1,o++[u],_,by omega,by omega,by go_num,by go_num,HB2.out,HO2.out,HCS.out.snoc HS.out,by simp; omega,by rw [HE.out]; simp⟩
          case measure=>simp [intOf]; omega
        · have k3:0<c:=by omega
          have HE:=Lib.hid (HM.out.trans (congrArg (o++·) (HGT.out k3)));go_wp2_with fail
          go_still_tail 8,(by kernel_rfl)
          change wpList _ _ _ _ _ wr.drew;go_wp2_with fail;refine (y0j _ _ u t _ (HS.out.below HB.out.drew) (HS'.out.below HB.out.drew) HU.out HV.out).mono ?_;rw [HC.out];rintro e w1 ⟨rfl,hb1⟩;have HB1:=Lib.hid (HB.out.drew.trans (hb1.mono HB.out.size));have d1:w1.cell? ⟨b2,o2+q*2,none⟩=some a':=by rw [hb1.cell (Ap.z0a c3')]; exact c3'
          have d2:w1.cell? ⟨b2,o2+q*2+1,none⟩=some (.int .i64 t.e):=by rw [hb1.cell (Ap.z0a c4')]; exact c4'
          have HO1:=Lib.hid (Ap.own_below HOWN.out ((Below.refl _ _).drew.trans hb1));obtain ⟨v2,w2,hrun,hown2,hgr,hb2,_⟩:=z1r (t:=t) HO1.out HB1.out.size HS'.out (by omega);have HRUN:=Lib.hid hrun;have HO2:=Lib.hid hown2;have HB2:=Lib.hid (HB1.out.trans hb2);clear hrun hown2 hgr hb2;go_wp2_with (at_builtin; refine Ap.wpList_append_run (by rfl) _ _ _ _ rfl _ _ rfl rfl v2 w2 HRUN.out ?_)
          go_roundw
          case rel=>exact ⟨p,q+1,o++[t],_,by omega,by omega,by go_num,by go_num,HB2.out,HO2.out,HCS.out.snoc HS'.out,by simp; omega,by rw [HE.out]; simp⟩
          case measure=>simp [intOf]; omega
      · have g2:decide (q<m.length)=false:=by simpa using hlt2
        have HE:=Lib.hid (HM.out.trans (congrArg (o++·) (mg_l l m p q hlt1 (by omega))));generalize l[p]=u at *;have HB1:=HB;have HO1:=HOWN;obtain ⟨v2,w2,hrun,hown2,hgr,hb2,_⟩:=z1r (t:=u) HO1.out HB1.out.size HS.out (by omega);have HRUN:=Lib.hid hrun;have HO2:=Lib.hid hown2;have HB2:=Lib.hid (HB1.out.trans hb2);clear hrun hown2 hgr hb2;go_wp2_with (at_builtin; refine Ap.wpList_append_run (by rfl) _ _ _ _ rfl _ _ rfl rfl v2 w2 HRUN.out ?_)
        go_roundw
        case rel=>exact ⟨p+1,q,o++[u],_,by omega,by omega,by go_num,by go_num,HB2.out,HO2.out,HCS.out.snoc HS.out,by simp; omega,by rw [HE.out]; simp⟩
        case measure=>simp [intOf]; omega
    · have g1:decide (p<l.length)=false:=by simpa using hlt1
      have g3:((p:Int)==(l.length:Int))=true:=by rw [beq_iff_eq]; omega
      by_cases hlt2:q<m.length
      · have g2:decide (q<m.length)=true:=by simpa using hlt2
        obtain ⟨b2,o2,a',rfl,e1',e2',hs'⟩:=H2.out q hlt2;have c3':wr.cell? ⟨b2,o2+q*2,none⟩=some a':=by rw [Nat.mul_comm q 2,HB.out.cell (Ap.z0a e1')]; exact e1'
        have c4':wr.cell? ⟨b2,o2+q*2+1,none⟩=some (.int .i64 m[q].e):=by rw [Nat.mul_comm q 2,HB.out.cell (Ap.z0a e2')]; exact e2'
        have HS':=Lib.hid hs';clear e1' e2' hs';have HE:=Lib.hid (HM.out.trans (congrArg (o++·) (mg_r l m p q (by omega) hlt2)));generalize m[q]=t at *;have HB1:=HB;have HO1:=HOWN;obtain ⟨v2,w2,hrun,hown2,hgr,hb2,_⟩:=z1r (t:=t) HO1.out HB1.out.size HS'.out (by omega);have HRUN:=Lib.hid hrun;have HO2:=Lib.hid hown2;have HB2:=Lib.hid (HB1.out.trans hb2);clear hrun hown2 hgr hb2;go_wp2_with (at_builtin; refine Ap.wpList_append_run (by rfl) _ _ _ _ rfl _ _ rfl rfl v2 w2 HRUN.out ?_)
        go_roundw
        case rel=>exact ⟨p,q+1,o++[t],_,by omega,by omega,by go_num,by go_num,HB2.out,HO2.out,HCS.out.snoc HS'.out,by simp; omega,by rw [HE.out]; simp⟩
        case measure=>simp [intOf]; omega
      · have g2:decide (q<m.length)=false:=by simpa using hlt2
        have HE:=Lib.hid (HM.out.trans (congrArg (o++·) (mg_end l m p q _ (by omega) (by omega))));go_wp2_with fail;go_ret;refine ⟨_,rfl,?_,HB.out⟩;rw [HE.out,List.append_nil];exact ⟨cs,Ap.Rd.owned HOWN.out,HCS.out.below HB.out⟩
def ShapeT (x:Value × Value):Prop:=∃ a n c z,x=(.slice a n c,.int .i64 z)
theorem z3k (k j:Nat) (h1:k-1=j) (h0:1≤k) (h2:k≤1000000000000):IntKind.i64.wrap ((k:Int)-1)=(j:Int):=by
  rw [IntKind.wrap_i64];omega
theorem x4y {z:Array Value} {n:Nat} {v:Value} (h:v∈(Builtin.zeroCells z n).toList):∃ i,i<n*z.size∧z[i % z.size]! = v:=by
  simp only [Builtin.zeroCells,Array.toList_map,List.mem_map,Array.mem_toList_iff,Array.mem_range] at h;exact h
theorem y1a {P:Program} (w:World) (t e ty:TypeId) (z:Value) (ht:P.underlying t=some (.slice e)) (hv:∀ w,(zeroValue e).run P w=.ok z w) (b o n c:Nat) (hn:0<n)
    (hl:(Builtin.zeroCells z.cells n).toList.length=n*2) (h1:∀ v∈(Builtin.zeroCells z.cells n).toList,v.oneCell'=true)
    (hc:∀ j,j<n*2→(w.cell? ⟨b,o+j,none⟩).isSome=true) (hf:∀ j,j<n*2→w.frozen? ⟨b,o+j,none⟩=false) :
    (Builtin.clear_ #[t] ty #[.slice (some ⟨b,o,none⟩) n c]).run P w=.ok (.tuple #[]) (w.setCells b o (Builtin.zeroCells z.cells n).toList):=by
  have hst:=run_storeCells_cells (P:=P) b o (Builtin.zeroCells z.cells n).toList 0 w (by rw [hl]; simpa using hc) (by rw [hl]; simpa using hf) h1;simp only [Nat.add_zero] at hst;obtain ⟨m,rfl⟩:∃ m,n=m+1:=⟨n-1,by omega⟩
  simp [Builtin.clear_,run_underlying ht,hv,hst]
theorem zsT (n:Nat):(Builtin.zeroCells #[.slice none 0 0,.int .i64 0] n).toList.length=n*2∧∀ v∈(Builtin.zeroCells #[.slice none 0 0,.int .i64 0] n).toList,v.oneCell'=true:=by
  refine ⟨by simp [Builtin.zeroCells],fun v hv=>?_⟩;obtain ⟨i,_,rfl⟩:=x4y hv
  rcases Nat.mod_two_eq_zero_or_one i with h | h
  · show ((#[.slice none 0 0,.int .i64 0]:Array Value)[i % 2]!).oneCell'=true
    rw [h]; rfl
  · show ((#[.slice none 0 0,.int .i64 0]:Array Value)[i % 2]!).oneCell'=true
    rw [h]; rfl
theorem compactT (g cap:Nat) (q:Value × Value→Value × Value→Bool) (xs:List (Value × Value)) (w:World) (h:Own2 w g 67 cap xs) (hlen:xs.length≤1000000000000) (hsh:∀ x∈xs,ShapeT x)
    (hq:∀ W,w.grownBy W (some g)→∀ x∈xs,∀ y∈xs,Calls Tryz.prog 106 #[.agg #[x.1,x.2],.agg #[y.1,y.2]] W fun e w'=>e=.returned (.bool (q x y))∧Below W.heap.size W w') :
    Calls Tryz.prog 105 #[.slice (some ⟨g,0,none⟩) xs.length cap,.func (.func 106) #[] #[]] w fun e w'=>e=.returned (.slice (some ⟨g,0,none⟩) (cpt q xs).length cap)∧Own2 w' g 67 cap (cpt q xs)∧w.grownBy w' (some g):=by
  have hcap:=h.len;have H:=Lib.hid h;have HS:=Lib.hid hsh;have HQ:=Lib.hid hq;clear h hsh hq
  by_cases h2:xs.length<2
  · have HX:Hid (cpt q xs=xs):=by
      match xs,h2 with
      | [],_=>exact rfl
      | [x],_=>exact rfl
    go_enter Tryz.func105,Tryz.ntmps105
    go_wp2_with fail;go_ret;rw [HX.out];exact ⟨rfl,H.out,z5u _ _⟩
  · go_enter Tryz.func105,Tryz.ntmps105
    go_wp2_with fail
    go_loopw [5] (fun kv wr=>∃ k:Nat,1≤k∧k≤xs.length∧kv=.int .i64 (k:Int)∧Own2 wr g 67 cap xs∧w.grownBy wr (some g)∧cpt q (xs.take k)=xs.take k) (fun kv _=>xs.length-(intOf kv).toNat)
    case atStart=>
      refine ⟨1,Nat.le_refl _,by omega,rfl,H.out,z5u _ _,?_⟩
      match xs,h2 with
      | x::xs,_=>simp [cpt,cptF]
    case round=>
      obtain ⟨k,hk1,hk,rfl,ho,hg,hcp⟩:=hrel;have HO:=Lib.hid ho;have HG:=Lib.hid hg;have HCP:=Lib.hid hcp;clear ho hg hcp
      by_cases hlt:k<xs.length
      · have c0:=HO.out.cell0 k hlt;have c1:=HO.out.cell1 k hlt;have d0:=HO.out.cell0 (k-1) (by omega);have d1:=HO.out.cell1 (k-1) (by omega);have M1:=Lib.hid (List.getElem_mem hlt);have M0:=Lib.hid (List.getElem_mem (show k-1<xs.length by omega));have SN:=Lib.hid (y0g q xs k hk1 hlt);have TK:=Lib.hid (List.take_succ_eq_append_getElem hlt);obtain ⟨x,hx⟩:∃ x,xs[k]=x:=⟨_,rfl⟩
        obtain ⟨y,hy⟩:∃ y,xs[k-1]'(by omega)=y:=⟨_,rfl⟩
        rw [hx] at c0 c1 M1 SN TK;rw [hy] at d0 d1 M0 SN;clear hx hy;obtain ⟨j,hjk⟩:∃ j,k-1=j:=⟨_,rfl⟩
        have HW1:=Lib.hid (z3k k j hjk hk1 (by omega));have hjlt:j<xs.length:=by omega
        rw [hjk] at d0 d1;have HJK:=Lib.hid hjk;clear hjk;have QC:=Lib.hid (fun W hW=>HQ.out W hW x M1.out y M0.out)
        cases hxy:q x y with
        | false=>
          rw [hxy] at QC SN;obtain ⟨x1,x2⟩:=x;obtain ⟨y1,y2⟩:=y;go_wp2_with fail
          go_still_tail 10,(by kernel_rfl)
          simp only [HW1.out]
          repeat still_step
          refine wpStill_nil ?_;change wpList _ _ _ _ _ wr.drew;go_wp2_with fail;refine (QC.out _ (z0c HG.out (z0u _ _))).mono ?_;rintro e w1 ⟨rfl,hb1⟩;have G1:=Lib.hid (z0c (z0c HG.out (z0u _ _)) (z0r hb1));have O1:=Lib.hid (HO.out.below ((Below.refl _ _).drew.trans hb1));clear hb1;go_wp2_with fail
          go_roundw
          case rel=>exact ⟨k+1,by omega,by omega,by go_num,O1.out,G1.out,by rw [SN.out,HCP.out,TK.out]; rfl⟩
          case measure=>simp [intOf]; omega
        | true=>
          rw [hxy] at QC SN;obtain ⟨x1,x2⟩:=x;obtain ⟨y1,y2⟩:=y;go_wp2_with fail
          go_still_tail 10,(by kernel_rfl)
          simp only [HW1.out]
          repeat still_step
          refine wpStill_nil ?_;change wpList _ _ _ _ _ wr.drew;go_wp2_with fail;refine (QC.out _ (z0c HG.out (z0u _ _))).mono ?_;rintro e w1 ⟨rfl,hb1⟩;have G1:=Lib.hid (z0c (z0c HG.out (z0u _ _)) (z0r hb1));have O1:=Lib.hid (HO.out.below ((Below.refl _ _).drew.trans hb1));clear hb1 c0 c1 d0 d1;go_wp2_with fail
          go_loopw [5,7] (fun kv k2v wr=>∃ kk k2:Nat,kv=.int .i64 (kk:Int)∧k2v=.int .i64 (k2:Int)∧1≤k2∧k+k2≤xs.length∧kk=(cpt q (xs.take (k+k2))).length∧kk<k+k2∧Own2 wr g 67 cap (cpt q (xs.take (k+k2))++xs.drop kk)∧w.grownBy wr (some g)) (fun _ k2v _=>xs.length-(k+(intOf k2v).toNat))
          case atStart=>
            have e0:cpt q (xs.take (k+1))=xs.take k:=by rw [SN.out,HCP.out]; simp
            refine ⟨k,1,rfl,rfl,Nat.le_refl _,by omega,by rw [e0,List.length_take]; omega,by omega,?_,G1.out⟩;rw [e0,List.take_append_drop];exact O1.out
          case round=>
            obtain ⟨kk,k2,rfl,rfl,hk2,hle,hkk,hkl,ho2,hg2⟩:=hrel;have HKK:=Lib.hid hkk;have HO2:=Lib.hid ho2;have HG2:=Lib.hid hg2;clear hkk ho2 hg2
            by_cases hlt2:k+k2<xs.length
            · have ey:∀ m (hm:m<xs.length) (hk:kk≤m),∃ hm':m<(cpt q (xs.take (k+k2))++xs.drop kk).length,(cpt q (xs.take (k+k2))++xs.drop kk)[m]=xs[m]:=fun m hm hk=>by
                refine ⟨by simp [← HKK.out]; omega,?_⟩;rw [List.getElem_append_right (by rw [← HKK.out]; exact hk)];simp [← HKK.out,Nat.add_sub_cancel' hk]
              obtain ⟨hA,eA⟩:=ey (k+k2) hlt2 (by omega);obtain ⟨hB,eB⟩:=ey (k+k2-1) (by omega) (by omega);have c0:=HO2.out.cell0 _ hA;have c1:=HO2.out.cell1 _ hA;have d0:=HO2.out.cell0 _ hB;have d1:=HO2.out.cell1 _ hB;rw [eA] at c0 c1;rw [eB] at d0 d1;have M1':=Lib.hid (List.getElem_mem hlt2);have M0':=Lib.hid (List.getElem_mem (show k+k2-1<xs.length by omega));have SN':=Lib.hid (y0g q xs (k+k2) (by omega) hlt2);have DK:=Lib.hid (List.drop_eq_getElem_cons (show kk<xs.length by omega));obtain ⟨u,hu⟩:∃ u,xs[k+k2]=u:=⟨_,rfl⟩
              obtain ⟨v,hv⟩:∃ v,xs[k+k2-1]'(by omega)=v:=⟨_,rfl⟩
              rw [hu] at c0 c1 M1' SN';rw [hv] at d0 d1 M0' SN';clear hu hv eA eB ey;have f0:=HO2.out.soft (kk*2);have f1:=HO2.out.soft (kk*2+1);have t0:=HO2.out.there (kk*2) (by omega);have t1:=HO2.out.there (kk*2+1) (by omega);obtain ⟨o0,t0⟩:=Option.isSome_iff_exists.1 t0;obtain ⟨o1,t1⟩:=Option.isSome_iff_exists.1 t1;rw [show (k+k2)*2=k*2+k2*2 by omega] at c0 c1;rw [show (k+k2-1)*2=k*2+(k2-1)*2 by omega] at d0 d1;obtain ⟨j2,hjk2⟩:∃ j2,k2-1=j2:=⟨_,rfl⟩
              have HW2:=Lib.hid (z3k k2 j2 hjk2 hk2 (by omega));have hjlt2:j2<xs.length-k:=by omega
              have hklt2:k2<xs.length-k:=by omega
              rw [hjk2] at d0 d1;have HJK2:=Lib.hid hjk2;clear hjk2;have QC2:=Lib.hid (fun W hW=>HQ.out W hW u M1'.out v M0'.out)
              cases huv:q u v with
              | true=>
                rw [huv] at QC2 SN';obtain ⟨u1,u2⟩:=u;obtain ⟨v1,v2⟩:=v;go_wp2_with fail
                go_still_tail 10,(by kernel_rfl)
                simp only [HW2.out]
                repeat still_step
                refine wpStill_nil ?_;change wpList _ _ _ _ _ wr.drew;go_wp2_with fail;refine (QC2.out _ (z0c HG2.out (z0u _ _))).mono ?_;rintro e w2 ⟨rfl,hb2⟩;have G2:=Lib.hid (z0c (z0c HG2.out (z0u _ _)) (z0r hb2));have O2:=Lib.hid (HO2.out.below ((Below.refl _ _).drew.trans hb2));clear hb2;go_wp2_with fail
                go_roundw
                case rel=>
                  have e1:cpt q (xs.take (k+(k2+1)))=cpt q (xs.take (k+k2)):=by
                    rw [show k+(k2+1)=k+k2+1 by omega];have:=SN'.out
                    simpa using this
                  refine ⟨kk,k2+1,rfl,by go_num,by omega,by omega,by rw [e1]; exact HKK.out,by omega,?_,G2.out⟩;rw [e1];exact O2.out
                case measure=>simp [intOf]; omega
              | false=>
                rw [huv] at QC2 SN';obtain ⟨a',n',c',z',rfl⟩:=HS.out u M1'.out;obtain ⟨v1,v2⟩:=v;go_wp2_with fail
                go_still_tail 10,(by kernel_rfl)
                simp only [HW2.out]
                repeat still_step
                refine wpStill_nil ?_;change wpList _ _ _ _ _ wr.drew;go_wp2_with fail;refine (QC2.out _ (z0c HG2.out (z0u _ _))).mono ?_;rintro e w2 ⟨rfl,hb2⟩;have hD:Below wr.heap.size wr w2:=(Below.refl _ _).drew.trans hb2;have G2:=Lib.hid (z0c (z0c HG2.out (z0u _ _)) (z0r hb2));have O2:=Lib.hid (HO2.out.below hD);have hgl:=HO2.out.lt;rw [← hD.cell (p:=⟨g,k*2+k2*2,none⟩) hgl] at c0;rw [← hD.cell (p:=⟨g,k*2+k2*2+1,none⟩) hgl] at c1;rw [← hD.cell (p:=⟨g,kk*2,none⟩) hgl] at t0;rw [← hD.cell (p:=⟨g,kk*2+1,none⟩) hgl] at t1;rw [← hD.frozen (p:=⟨g,kk*2,none⟩) hgl] at f0;rw [← hD.frozen (p:=⟨g,kk*2+1,none⟩) hgl] at f1;clear hb2 hD d0 d1;go_wp2_with fail
                go_roundw
                case rel=>
                  have e1:cpt q (xs.take (k+(k2+1)))=cpt q (xs.take (k+k2))++[(.slice a' n' c',.int .i64 z')]:=by
                    rw [show k+(k2+1)=k+k2+1 by omega];have:=SN'.out
                    simpa using this
                  refine ⟨kk+1,k2+1,by go_num,by go_num,by omega,by omega,by rw [e1,List.length_append,← HKK.out]; rfl,by omega,?_,z0c G2.out (z0c (z0n _ _ _ _) (z0n _ _ _ _))⟩;have:=O2.out.store kk (by simp [← HKK.out]; omega) (.slice a' n' c') (.int .i64 z');rw [DK.out] at this;rw [e1];have e3:=set_mid (cpt q (xs.take (k+k2))) (xs.drop (kk+1)) (xs[kk]'(by omega)) (.slice a' n' c',.int .i64 z');rw [← HKK.out] at e3;rw [e3] at this
                  simpa using this
                case measure=>simp [intOf]; omega
            · have hend:k+k2=xs.length:=by omega
              have hcl:∀ ty,(Builtin.clear_ #[40] ty #[.slice (some ⟨g,kk*2,none⟩) (xs.length-kk) (cap-kk)]).run Tryz.prog wr=.ok (.tuple #[]) (wr.setCells g (kk*2) (Builtin.zeroCells #[.slice none 0 0,.int .i64 0] (xs.length-kk)).toList):=
                fun ty=>y1a wr _ _ ty (.agg #[.slice none 0 0,.int .i64 0]) Tryz.underlying40 Tryz.zeroValue67 g (kk*2) _ _ (by omega) (zsT _).1 (zsT _).2 (fun j hj=>HO2.out.there _ (by omega)) (fun j hj=>HO2.out.soft _)
              have ET:Hid (cpt q (xs.take (k+k2))=cpt q xs):=by rw [hend,List.take_length]; exact rfl
              have KC:=HKK.out;rw [ET.out] at KC;have O3:=HO2.out.take kk;rw [ET.out,List.take_left' KC.symm] at O3;have HO3:=Lib.hid O3;have HKC:=Lib.hid KC;clear O3 KC;go_wp2_with fail;go_ret;refine ⟨by rw [← HKC.out]; go_num,HO3.out.setOut _ _ _ (by rw [← HKC.out]; exact Nat.le_refl _),z0c HG2.out (z3d _ _ _ _)⟩
      · have hend:k=xs.length:=by omega
        have HX:Hid (cpt q xs=xs):=by
          have:=HCP.out;rw [hend,List.take_length] at this;exact this
        go_wp2_with fail;go_ret;rw [HX.out];exact ⟨rfl,HO.out,HG.out⟩
end Tr
end Go.Proofs.YtaapnkoooofalaaGreat
