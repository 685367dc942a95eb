/- Laws that the last text leans on. -/
import Derived.Test.YtaapnkoooofalaaGreatQ42
import Derived.Test.YtaapnkoooofalaaGreatQ28

set_option maxRecDepth 20000
set_option maxHeartbeats 4000000
namespace Go.Proofs.YtaapnkoooofalaaGreat
namespace Mn
open Go Go.RowKit Tr
theorem rwsf_val {base:Nat} {w:World} {v:Value} {rs:List (List ByteArray)} (h:RwsF base w v rs):∃ a cap,v=.slice a rs.length cap∧rs.length≤cap∧
    ∀ k,(hk:k<rs.length)→∃ b off x,a=some ⟨b,off,none⟩∧w.cell? ⟨b,off+k,none⟩=some x∧StrsO (fun b=>base≤b) w x rs[k]:=by
  obtain ⟨cs,⟨_,a,cap,rfl,hcap,_,hcell⟩,hc⟩:=h;refine ⟨a,cap,rfl,hcap,fun k hk=>?_⟩;obtain ⟨b,off,rfl,hj⟩:=hcell (by omega);obtain ⟨x,h1,h2⟩:=hc.at k hk;exact ⟨b,off,x,rfl,hj _ _ h1,h2⟩
theorem parF_any (v1 v2:Value) (p q:Tr) (w:World) (h1:Strs w v1 p.a) (h2:Strs w v2 q.a) (hlen:p.a.length+q.a.length≤9) :
    Calls Tryz.prog 175 #[.agg #[v1,.int .i64 p.e],.agg #[v2,.int .i64 q.e]] w (OutT none' (pr p q) w):=by
  have HB:=Lib.hid (below2 w);have MT:=Lib.hid (fun x y=>mixF_any v1 v2 p.a q.a ((w.alloc x).alloc y) (h1.below (HB.out x y)) (h2.below (HB.out x y)) hlen);obtain ⟨_,a1,c1,rfl,-⟩:=h1;obtain ⟨_,a2,c2,rfl,-⟩:=h2;have hpr:=mix_pr p q (by omega);have hml:=mix_len p.a q.a;obtain ⟨b,hbb⟩:∃ b,Sg.both p.e q.e=b:=⟨_,rfl⟩
  obtain ⟨rs,hrs⟩:∃ rs,mix p.a q.a=rs:=⟨_,rfl⟩
  rw [hbb,hrs] at hpr;rw [hrs] at MT hml;unfold OutT;rw [← hpr];have BT:=Lib.hid (Sg.z5k p.e q.e);rw [hbb] at BT;clear hbb hrs hpr
  go_enter Tryz.func175,Tryz.ntmps175
  go_wp2_with (go_at_call 182; refine (BT.out _).mono ?_; rintro e w' ⟨rfl,rfl⟩);refine (MT.out _ _).mono ?_;rintro e wm ⟨vm,rfl,hrm,hbm⟩;have BM:=Lib.hid ((HB.out _ _).trans (hbm.mono (HB.out _ _).size));obtain ⟨am,cm,rfl,_,hm⟩:=rwsf_val hrm;have HM:=Lib.hid hm;clear hm hbm hrm;go_wp2_with fail
  go_loopw [6,20] (fun v i wr=>∃ (k:Nat) (cs:List Value),k≤rs.length∧i=.int .i64 k∧Below wm.heap.size wm wr∧wr.ownsRow wm.heap.size 67 2 v ((rs.take k).map fun r=>(⟨r,b⟩:Tr)).length cs∧Cl (ET (fun b=>w.heap.size≤b) wm) 2 ((rs.take k).map fun r=>(⟨r,b⟩:Tr)) cs) (fun _ i _=>rs.length-(intOf i).toNat)
  case atStart=>exact ⟨0,[],Nat.zero_le _,rfl,Below.refl _ _,⟨rfl,.inl ⟨rfl,rfl⟩⟩,rfl⟩
  case round=>
    obtain ⟨k,cs,hk,rfl,hb,hown,hcs⟩:=hrel;have WB:=Lib.hid hb;have WO:=Lib.hid hown;have WC:=Lib.hid hcs;clear hb hown hcs
    by_cases hlt:k<rs.length
    · obtain ⟨b1,o1,a,rfl,e1,hs⟩:=HM.out k hlt;have c1:wr.cell? ⟨b1,o1+k,none⟩=some a:=by rw [WB.out.cell (Ap.z0a e1)]; exact e1
      have HS:=Lib.hid hs;have HMS:=Lib.hid (map_snoc (fun r=>(⟨r,b⟩:Tr)) rs k hlt);generalize rs[k]=r at *;have hs':=HS.out;obtain ⟨_,av,cv,rfl,_⟩:=hs';obtain ⟨v2',w2,hrun,ho2,hg2,hb2,hf2⟩:=z8x (wr:=wr) (t:=⟨r,b⟩) WO.out WB.out.size (z1z HS.out) (by simp; omega);have RUN:=Lib.hid hrun;have O2:=Lib.hid ho2;have B2:Hid (Below wm.heap.size wm w2):=WB.out.trans hb2;clear hrun ho2 hg2 hb2 hf2 e1 hs;go_wp2_with (at_builtin; refine Ap.wpList_append_run (by rfl) _ _ _ _ rfl _ _ rfl rfl v2' w2 RUN.out ?_)
      go_roundw
      case rel=>exact ⟨k+1,_,by omega,by go_num,B2.out,by rw [HMS.out]; exact O2.out,by rw [HMS.out]; exact Cl.append ET.len (Cl.one ⟨_,rfl,z0x HS.out fun b _ h=>Nat.le_trans (HB.out _ _).size h⟩ rfl) WC.out⟩
      case measure=>simp [intOf]; omega
    · go_wp2_with fail;go_ret;have h1:=WO.out;have h2:=WC.out;rw [List.take_of_length_le (by omega)] at h1 h2;have h3:=Ap.RdO.fresh h1;obtain ⟨_,a6,n6,rfl,_⟩:=id h3;exact ⟨_,_,rfl,⟨cs,Ap.RdO.imp h3 fun b _ h=>.inr (Nat.le_trans BM.out.size h),Cl.imp (ET.map fun _ _ h=>z0e (z0x h fun _ _ h=>.inr h) WB.out) h2⟩,BM.out.trans (WB.out.mono BM.out.size)⟩
theorem tcon:TCon where
  cCmp v1 v2 p q w h1 h2 hl hm:=y4a v1 v2 p q w h1 h2 hl hm
  cSet x l w hx hlen hl:=x0a x l w hx hlen fun t ht=>by have:=hl t ht; omega
  cOr x y l m w hx hy hlen hl:=orT_any x y l m w hx hy hlen fun t ht=>by have:=hl t ht; omega
  cThn v1 v2 p q w h1 h2 hlen:=x5p v1 v2 p q w h1 h2 (by omega)
  cPar v1 v2 p q w h1 h2 hlen:=parF_any v1 v2 p q w h1 h2 hlen
end Mn
namespace Mn
open Go Go.RowKit Go.Sort Tr
structure ElP (w:World) (g:Nat) where
  v:Value
  v':Value
  t:Pr
  hs:StrsO (fun b=>b≠g) w v t.p.a
  hs':StrsO (fun b=>b≠g) w v' t.q.a
  hl:t.p.a.length≤1000000
  hl':t.q.a.length≤1000000
instance (w:World) (g:Nat):Inhabited (ElP w g):=⟨⟨.slice none 0 0,.slice none 0 0,⟨⟨[],0⟩,⟨[],0⟩⟩,z4n _ _,z4n _ _,by simp,by simp⟩⟩
def ElP.qd {w:World} {g:Nat} (x:ElP w g):Qd:=⟨x.v,.int .i64 x.t.p.e,x.v',.int .i64 x.t.q.e⟩
def encP {w:World} {g:Nat} (x:ElP w g):List Value:=[x.v,.int .i64 x.t.p.e,x.v',.int .i64 x.t.q.e]
def cfP {w:World} {g:Nat} (x y:ElP w g):Int:=pcmp x.t y.t
theorem z5a {w:World} {g:Nat} {v:Value} {l:List ByteArray} (h:StrsO (fun b=>b≠g) w v l) (m:Nat) (dk:Array (ElP w g)) (os:Array Obj):Strs (sortWorldK encP 4 w g 0 m dk os) v l:=by
  obtain ⟨hl,a,cap,hv,hc,hn,hcell⟩:=h;refine ⟨hl,a,cap,hv,hc,hn,fun h0=>?_⟩;obtain ⟨b,off,ha,hne,hlt,hj⟩:=hcell h0;refine ⟨b,off,ha,fun j u hu=>?_⟩;unfold sortWorldK;rw [cell?_grow _ _ _ (by rw [size_putRowK]; exact hlt),cell?_putRowK_other _ _ _ _ _ _ _ hne];exact hj j u hu
theorem swoP (w:World) (g:Nat):SWO (ltOf (cfP (w:=w) (g:=g))) where
  irrefl x:=by simp [ltOf,cfP,z6f]
  trans x y z h1 h2:=decide_eq_true (z3l (of_decide_eq_true h1) (of_decide_eq_true h2))
  ntrans x y z h1 h2:=by
    refine decide_eq_false fun h=>?_
    replace h:pcmp x.t z.t<0:=h;replace h1:¬ pcmp x.t y.t<0:=of_decide_eq_false h1;replace h2:¬ pcmp y.t z.t<0:=of_decide_eq_false h2
    rcases Int.lt_trichotomy (pcmp x.t y.t) 0 with h3 | h3 | h3
    · exact h1 h3
    · rw [y2z h3] at h;exact h2 h
    · have h4:pcmp y.t x.t<0:=by have:=z9f x.t y.t; omega
      exact h2 (z3l h4 h)
theorem cmpLaysP (w:World) (g n:Nat):CmpLays Tryz.prog 158 #[] (encP (w:=w) (g:=g)) 4 cfP g 0 n w:=
  fun m os dk _ x y=>z7o x.v x.v' y.v y.v' x.t y.t _ (z5a x.hs m dk os) (z5a x.hs' m dk os) (z5a y.hs m dk os) (z5a y.hs' m dk os) x.hl x.hl' y.hl y.hl'
theorem encP_one {w:World} {g:Nat} (x:ElP w g):∀ v∈encP x,v.oneCell'=true:=by
  intro v hv;simp only [encP,List.mem_cons,List.mem_nil_iff,or_false] at hv
  rcases hv with rfl | rfl | rfl | rfl
  · exact z4l x.hs
  · rfl
  · exact z4l x.hs'
  · rfl
theorem holdsP {w:World} {g cap:Nat} {e:TypeId} (d:Array (ElP w g)) (h:Own4 w g e cap (d.toList.map ElP.qd)):HoldsK encP 4 w g 0 d:=by
  intro j hj;rw [size_flatK] at hj;refine ⟨?_,?_⟩
  · rw [get_flatK encP 4 d j hj];have hj2:j / 4<d.size:=by omega
    have hl:j / 4<(d.toList.map ElP.qd).length:=by simpa using hj2
    obtain ⟨h0,h1,h2,h3⟩:=h.cell (j / 4) hl;have e:d[j / 4]! = d[j / 4]:=getElem!_pos d (j / 4) hj2;simp only [List.getElem_map,Array.getElem_toList] at h0 h1 h2 h3;rw [e,Nat.zero_add];have hm:j % 4=0∨j % 4=1∨j % 4=2∨j % 4=3:=by omega
    rcases hm with hm | hm | hm | hm
    · rw [show j / 4*4=j by omega] at h0;rw [hm,h0]
      rfl
    · rw [show j / 4*4+1=j by omega] at h1;rw [hm,h1]
      rfl
    · rw [show j / 4*4+2=j by omega] at h2;rw [hm,h2]
      rfl
    · rw [show j / 4*4+3=j by omega] at h3;rw [hm,h3]
      rfl
  · exact h.soft _
theorem ownP {w:World} {g cap n:Nat} {e:TypeId} {d d':Array (ElP w g)} {os:Array Obj} (h:Own4 w g e cap (d.toList.map ElP.qd)) (hs:d'.size=d.size):Own4 (sortWorldK encP 4 w g 0 n d' os) g e cap (d'.toList.map ElP.qd):=by
  have hlt:=h.lt;obtain ⟨cur,hg,hsz,hl,hc⟩:=h;have hl':d.size≤cap:=by simpa using hl
  refine ⟨putCells id 0 (flatK encP 4 d') cur,?_,by simpa [putCells] using hsz,by simpa [hs] using hl',fun j hj=>?_⟩
  · unfold sortWorldK
    show ((putRowK encP 4 (Sort.ahead w n) g 0 d').heap++os)[g]?=_
    rw [Array.getElem?_append_left (by rw [size_putRowK]; exact hlt)];simp [putRowK,putRow,mapBlock,Sort.ahead,Array.getElem?_modify,hg,onCells]
  · have hj':j<d'.size:=by simpa using hj
    have e:d'[j]! = d'[j]:=getElem!_pos d' j hj';simp only [List.getElem_map,Array.getElem_toList];refine ⟨?_,?_,?_,?_⟩
    · rw [putCells,Array.getElem?_mapIdx,Array.getElem?_eq_getElem (by omega),Option.map_some,if_pos (by simp; omega)];rw [Nat.sub_zero,get_flatK encP 4 d' _ (by omega),show j*4 / 4=j by omega,show j*4 % 4=0 by omega,e]
      rfl
    · rw [putCells,Array.getElem?_mapIdx,Array.getElem?_eq_getElem (by omega),Option.map_some,if_pos (by simp; omega)];rw [Nat.sub_zero,get_flatK encP 4 d' _ (by omega),show (j*4+1) / 4=j by omega,show (j*4+1) % 4=1 by omega,e]
      rfl
    · rw [putCells,Array.getElem?_mapIdx,Array.getElem?_eq_getElem (by omega),Option.map_some,if_pos (by simp; omega)];rw [Nat.sub_zero,get_flatK encP 4 d' _ (by omega),show (j*4+2) / 4=j by omega,show (j*4+2) % 4=2 by omega,e]
      rfl
    · rw [putCells,Array.getElem?_mapIdx,Array.getElem?_eq_getElem (by omega),Option.map_some,if_pos (by simp; omega)];rw [Nat.sub_zero,get_flatK encP 4 d' _ (by omega),show (j*4+3) / 4=j by omega,show (j*4+3) % 4=3 by omega,e]
      rfl
theorem gbP {w:World} {g n:Nat} {d':Array (ElP w g)} {os:Array Obj}:w.grownBy (sortWorldK encP 4 w g 0 n d' os) (some g):=
  ⟨rfl,rfl,rfl,by
    show w.heap.size≤((putRowK encP 4 (Sort.ahead w n) g 0 d').heap++os).size
    rw [Array.size_append,size_putRowK];exact Nat.le_add_right _ _,fun k hk hr=>by
    show ((putRowK encP 4 (Sort.ahead w n) g 0 d').heap++os)[k]?=_
    rw [Array.getElem?_append_left (by rw [size_putRowK]; exact hk)];have hne:g≠k:=fun e=>hr (by rw [e])
    simp [putRowK,putRow,mapBlock,Sort.ahead,Array.getElem?_modify,hne]⟩
theorem x5x (g cap:Nat) (w:World) (d:Array (ElP w g)) (h:Own4 w g 97 cap (d.toList.map ElP.qd)) (hlen:d.size≤1000000000000) :
    Calls Tryz.prog 157 #[.slice (some ⟨g,0,none⟩) d.size cap,.func (.func 158) #[] #[]] w fun e w'=>
      e=.returned (.tuple #[])∧∃ d':Array (ElP w g),d'.toList.Perm d.toList∧(d'.toList.Pairwise fun x y=>¬ pcmp y.t x.t<0)∧Own4 w' g 97 cap (d'.toList.map ElP.qd)∧w.grownBy w' (some g):=by
  have eg:∀ args w,(callFunc 158 args).run Tryz.prog w=.ok (.enter 158 args) w:=enters_of Tryz.func158 (by kernel_rfl) rfl;have hcon:=AnyQ.slices_SortFunc Tryz.laysSoP 4 Tryz.isAgg97 Tryz.sizeOf97 encP (fun _=>rfl) encP_one cfP (swoP w g) 158 #[] g 0 cap d w eg (cmpLaysP w g d.size) (holdsP d h) h.lt (by omega);change Calls Tryz.prog 157 _ _ _ at hcon;refine hcon.mono fun e w' ⟨he,d',n,os,hp,hs,hw⟩=>⟨he,d',?_,?_,?_,?_⟩
  · obtain ⟨hsz,_,hperm⟩:=hp;have e1:d'.extract 0 d.size=d':=by rw [← hsz]; exact Array.extract_size
    rw [e1,Array.extract_size] at hperm;exact hperm
  · rw [List.pairwise_iff_getElem];intro i j hi hj hij;have hi':i<d'.size:=by simpa using hi
    have hj':j<d'.size:=by simpa using hj
    have:=hs i j (Nat.zero_le _) hij (by rw [← hp.1]; exact hj');rw [getElem!_pos d' i hi',getElem!_pos d' j hj'] at this
    show ¬ pcmp d'[j].t d'[i].t<0
    exact of_decide_eq_false this
  · rw [hw]; exact ownP h hp.1
  · rw [hw]; exact gbP
theorem tr_ext {p q:Tr} (h1:p.a=q.a) (h2:p.e=q.e):p=q:=by
  cases p; cases q
  simp only at h1 h2;rw [h1,h2]
theorem ElP.t_of {w:World} {g:Nat} {x y:ElP w g} (h:x.qd=y.qd):x.t=y.t:=by
  have h1:x.v=y.v:=congrArg Qd.a h;have h2:(Value.int .i64 x.t.p.e)=.int .i64 y.t.p.e:=congrArg Qd.b h;have h3:x.v'=y.v':=congrArg Qd.c h;have h4:(Value.int .i64 x.t.q.e)=.int .i64 y.t.q.e:=congrArg Qd.d h;have e1:x.t.p.a=y.t.p.a:=Strs.inj (Ap.RdO.rd x.hs) (by rw [h1]; exact Ap.RdO.rd y.hs);have e2:x.t.q.a=y.t.q.a:=Strs.inj (Ap.RdO.rd x.hs') (by rw [h3]; exact Ap.RdO.rd y.hs');have e3:x.t.p=y.t.p:=tr_ext e1 (by injection h2);have e4:x.t.q=y.t.q:=tr_ext e2 (by injection h4)
  cases hx:x.t; cases hy:y.t
  rw [hx,hy] at e3 e4;simp only at e3 e4;rw [e3,e4]
theorem v0j {ok:Nat→Prop} {w w1:World} {g:Nat} (hb:Below w.heap.size w w1) (hg:w.heap.size≤g):∀ {l:List Pr} {cs:List Value},Cl (EP ok w) 4 l cs→(∀ t∈l,t.p.a.length≤1000000∧t.q.a.length≤1000000)→∃ els:List (ElP w1 g),els.map (·.t)=l∧flat4 (els.map ElP.qd)=cs
  | [],cs,h,_=>⟨[],rfl,(show cs=[] from h).symm⟩
  | t::l,cs,h,hl=>by
    obtain ⟨els,h1,h2⟩:=v0j hb hg h.2 fun u hu=>hl u (by simp [hu])
    obtain ⟨a,b,h3,h4,h5⟩:=h.1;refine ⟨⟨a,b,t,Ap.RdO.below (Ap.RdO.imp h4 fun b hlt _=>by omega) hb,Ap.RdO.below (Ap.RdO.imp h5 fun b hlt _=>by omega) hb,(hl t (by simp)).1,(hl t (by simp)).2⟩::els,by simp [h1],?_⟩;have e:=List.take_append_drop 4 cs;rw [h3,← h2] at e;rw [← e]
    rfl
theorem eq_qds (w:World) (g:Nat):∃ q:Qd→Qd→Bool,∀ x y:ElP w g,q x.qd y.qd=(pcmp x.t y.t==0):=by
  refine ⟨fun a b=>@decide (∃ x y:ElP w g,x.qd=a∧y.qd=b∧pcmp x.t y.t=0) (Classical.propDecidable _),fun x y=>?_⟩;rw [Bool.eq_iff_iff];simp only [decide_eq_true_eq,beq_iff_eq]
  constructor
  · rintro ⟨x',y',h1,h2,h3⟩;rw [← ElP.t_of h1,← ElP.t_of h2];exact h3
  · intro h;exact ⟨x,y,rfl,rfl,h⟩
theorem x1p:∀ (p:Pr) (l:List Pr),(p::l).Pairwise (fun x y=>¬ pcmp y x<0)→PUp (p::cptF (fun x y=>pcmp x y==0) p l)∧∀ t,(t∈p::cptF (fun x y=>pcmp x y==0) p l↔t∈p::l)
  | p,[],_=>⟨List.pairwise_singleton _ _,fun t=>Iff.rfl⟩
  | p,x::l,h=>by
    obtain ⟨h1,h2⟩:=List.pairwise_cons.1 h;obtain ⟨u1,u2⟩:=x1p x l h2;have hxp:=h1 x (by simp);rw [cptF]
    by_cases hc:pcmp x p=0
    · have e:=y2z hc;subst e;rw [if_pos (by simpa using hc)];refine ⟨u1,fun t=>?_⟩;rw [u2 t];simp
    · rw [if_neg (by simpa using hc)];have hpx:pcmp p x<0:=by have:=z9f p x; omega
      refine ⟨?_,fun t=>?_⟩
      · refine List.pairwise_cons.2 ⟨fun y hy=>?_,u1⟩;obtain ⟨v1,_⟩:=List.pairwise_cons.1 u1
        rcases List.mem_cons.1 hy with rfl | hy
        · exact hpx
        · exact z3l hpx (v1 y hy)
      · rw [List.mem_cons,u2 t,← List.mem_cons]
theorem v0n (l:List Pr) (h:l.Pairwise fun x y=>¬ pcmp y x<0):cpt (fun x y=>pcmp x y==0) l=pnorm l:=by
  cases l with
  | nil=>rfl
  | cons p l=>
    obtain ⟨u1,u2⟩:=x1p p l h;exact x0i u1 u2
def PP (w:World) (g:Nat) (ys:List Qd) (ts:List Pr):Prop:=
  ys.length=ts.length∧∀ j (h:j<ts.length) (h':j<ys.length),StrsO (fun b=>b≠g) w ys[j].a ts[j].p.a∧ys[j].b=.int .i64 ts[j].p.e∧StrsO (fun b=>b≠g) w ys[j].c ts[j].q.a∧ys[j].d=.int .i64 ts[j].q.e
theorem PP.cells {w:World} {g:Nat}:∀ {ys:List Qd} {ts:List Pr},PP w g ys ts→Cl (EP any w) 4 ts (flat4 ys)
  | [],[],_=>rfl
  | [],_::_,h=>by have:=h.1; simp at this
  | _::_,[],h=>by have:=h.1; simp at this
  | y::ys,t::ts,h=>by
    obtain ⟨h1,h2,h3,h4⟩:=h.2 0 (by simp) (by simp);refine ⟨⟨y.a,y.c,?_,z0x h1 fun _ _ _=>trivial,z0x h3 fun _ _ _=>trivial⟩,?_⟩
    · show [y.a,y.b,y.c,y.d]=_
      simp only [List.getElem_cons_zero] at h2 h4;rw [h2,h4]
    · refine PP.cells (g:=g) ⟨by have:=h.1; simpa using this,fun j h1 h2=>?_⟩;have:=h.2 (j+1) (by simpa using h1) (by simpa using h2)
      simpa using this
theorem so_gb1 {w w':World} {g:Nat} {v:Value} {l:List ByteArray} (h:StrsO (fun b=>b≠g) w v l) (hg:w.grownBy w' (some g)):StrsO (fun b=>b≠g) w' v l:=
  z0x (so_gb (ok:=any) (z0x h fun _ _ h=>⟨trivial,h⟩) hg) fun _ _ h=>h.2
theorem PP.gb {w w':World} {g:Nat} {ys:List Qd} {ts:List Pr} (h:PP w g ys ts) (hg:w.grownBy w' (some g)):PP w' g ys ts:=
  ⟨h.1,fun j h1 h2=>by
    obtain ⟨a,b,c,d⟩:=h.2 j h1 h2;exact ⟨so_gb1 a hg,b,so_gb1 c hg,d⟩⟩
theorem PP.els {w:World} {g:Nat} (els:List (ElP w g)):PP w g (els.map ElP.qd) (els.map (·.t)):=
  ⟨by simp,fun j h1 h2=>by
    simp only [List.getElem_map];exact ⟨(els[j]'(by simpa using h1)).hs,rfl,(els[j]'(by simpa using h1)).hs',rfl⟩⟩
theorem PP.set {w:World} {g:Nat} {ys:List Qd} {ts:List Pr} (h:PP w g ys ts) (k:Nat) (hk:k<ts.length) (v v':Value) (hv:StrsO (fun b=>b≠g) w v ts[k].p.a) (hv':StrsO (fun b=>b≠g) w v' ts[k].q.a):PP w g (ys.set k ⟨v,.int .i64 ts[k].p.e,v',.int .i64 ts[k].q.e⟩) ts:=by
  refine ⟨by simpa using h.1,fun j h1 h2=>?_⟩
  by_cases hjk:k=j
  · subst hjk;simp only [List.getElem_set_self];exact ⟨hv,trivial,hv',trivial⟩
  · rw [List.getElem_set_ne hjk];exact h.2 j h1 (by simpa using h2)
theorem x6c (v1 v1' v2 v2':Value) (x y:Pr) (w:World) (h1:Strs w v1 x.p.a) (h1':Strs w v1' x.q.a) (h2:Strs w v2 y.p.a) (h2':Strs w v2' y.q.a)
    (l1:x.p.a.length≤1000000) (l1':x.q.a.length≤1000000) (l2:y.p.a.length≤1000000) (l2':y.q.a.length≤1000000) :
    Calls Tryz.prog 160 #[.agg #[v1,.int .i64 x.p.e,v1',.int .i64 x.q.e],.agg #[v2,.int .i64 y.p.e,v2',.int .i64 y.q.e]] w fun e w'=>e=.returned (.bool (pcmp x y==0))∧Below w.heap.size w w':=by
  have HB:=Lib.hid (fun o o'=>bel2 w o o');have A:=Lib.hid (fun w1 (hb:Below w.heap.size w w1)=>z7o v1 v1' v2 v2' x y w1 (h1.below hb) (h1'.below hb) (h2.below hb) (h2'.below hb) l1 l1' l2 l2');obtain ⟨_,a1,c1,rfl,-⟩:=h1;obtain ⟨_,a1',c1',rfl,-⟩:=h1';obtain ⟨_,a2,c2,rfl,-⟩:=h2;obtain ⟨_,a2',c2',rfl,-⟩:=h2'
  cases hc:pcmp x y==0 with
  | true=>
    have hc':pcmp x y=0:=by simpa using hc
    rw [hc'] at A;clear hc hc'
    go_enter Tryz.func160,Tryz.ntmps160
    go_wp2_with fail;refine (A.out _ (HB.out _ _)).mono ?_;rintro e w' ⟨rfl,hg⟩;have B:=Lib.hid ((HB.out _ _).trans (hg.below.mono (HB.out _ _).size));clear hg;go_wp2_with fail;go_ret;exact ⟨rfl,B.out⟩
  | false=>
    have hc':pcmp x y≠0:=by simpa using hc
    generalize pcmp x y=c at A hc' ⊢;clear hc
    go_enter Tryz.func160,Tryz.ntmps160
    go_wp2_with fail;refine (A.out _ (HB.out _ _)).mono ?_;rintro e w' ⟨rfl,hg⟩;have B:=Lib.hid ((HB.out _ _).trans (hg.below.mono (HB.out _ _).size));clear hg;go_wp2_with fail;go_ret;exact ⟨by simp [hc'],B.out⟩
theorem y6q (c:Nat) (w:World):Calls Tryz.prog 159 #[.slice none 0 c,.func (.func 160) #[] #[]] w fun e w'=>e=.returned (.slice none 0 c)∧w'=w:=by
  go_enter Tryz.func159,Tryz.ntmps159
  go_wp2_with fail;go_ret;exact ⟨rfl,rfl⟩
theorem x5w (c:Nat) (fv:Value) (w:World):Calls Tryz.prog 157 #[.slice none 0 c,fv] w fun e w'=>e=.returned (.tuple #[])∧w'=w:=by
  have hcon:=AnyF.slices_SortFunc_none Tryz.laysSoP none c fv w;change Calls Tryz.prog 157 _ _ _ at hcon;exact hcon
theorem y6r {w:World} {g cap:Nat} (d:Array (ElP w g)) (w1:World) (hs:d.toList.Pairwise fun x y=>¬ pcmp y.t x.t<0) (ho:Own4 w1 g 97 cap (d.toList.map ElP.qd)) (hg:w.grownBy w1 (some g)) (hlen:d.size≤1000000000000) :
    Calls Tryz.prog 159 #[.slice (some ⟨g,0,none⟩) d.size cap,.func (.func 160) #[] #[]] w1 fun e w'=>
      ∃ ys,e=.returned (.slice (some ⟨g,0,none⟩) (pnorm (d.toList.map (·.t))).length cap)∧Own4 w' g 97 cap ys∧PP w' g ys (pnorm (d.toList.map (·.t)))∧w1.grownBy w' (some g):=by
  obtain ⟨q,hq⟩:=eq_qds w g
  have hcon:=compactP g cap q (d.toList.map ElP.qd) w1 ho (by simpa using hlen)
    (fun x hx=>by
      obtain ⟨el,_,rfl⟩:=List.mem_map.1 hx;obtain ⟨_,a,c,hv,_⟩:=el.hs;obtain ⟨_,a',c',hv',_⟩:=el.hs';exact ⟨a,_,c,_,a',_,c',_,hv,rfl,hv',rfl⟩)
    (fun W hW x hx y hy=>by
      obtain ⟨ex,_,rfl⟩:=List.mem_map.1 hx;obtain ⟨ey,_,rfl⟩:=List.mem_map.1 hy;have k:=(PP.els [ex,ey]).gb (z0c hg hW);have k0:=k.2 0 (by simp) (by simp);have k1:=k.2 1 (by simp) (by simp);have hc:=x6c ex.v ex.v' ey.v ey.v' ex.t ey.t W (Ap.RdO.rd k0.1) (Ap.RdO.rd k0.2.2.1) (Ap.RdO.rd k1.1) (Ap.RdO.rd k1.2.2.1) ex.hl ex.hl' ey.hl ey.hl';rw [← hq] at hc;exact hc)
  have e1:cpt q (d.toList.map ElP.qd)=(cpt (fun x y:ElP w g=>pcmp x.t y.t==0) d.toList).map ElP.qd:=y0f ElP.qd q _ hq _
  have e2:(cpt (fun x y:ElP w g=>pcmp x.t y.t==0) d.toList).map (·.t)=pnorm (d.toList.map (·.t)):=by
    rw [← v0n (d.toList.map (·.t)) (by rw [List.pairwise_map]; exact hs)];exact (y0f (fun x:ElP w g=>x.t) (fun x y=>pcmp x y==0) _ (fun _ _=>rfl) _).symm
  rw [List.length_map,Array.length_toList] at hcon;refine hcon.mono fun e w' ⟨he,ho',hg'⟩=>⟨_,?_,ho',?_,hg'⟩
  · rw [he,e1,← e2,List.length_map,List.length_map]
  · rw [e1,← e2];exact (PP.els _).gb (z0c hg hg')
end Mn
namespace Mn
open Go Go.RowKit Tr
theorem v1e (ok:Nat→Prop) (bx:Nat) (a y:Value) (t:Tr) (l:List Tr) (w:World) (hb:w.cell? ⟨bx,0,none⟩=some y) (hs:StrsO ok w a t.a) (hl:TsO ok w y l) (hlen:l.length≤1000000000000) :
    Calls Tryz.prog 204 #[.agg #[a,.int .i64 t.e],.pointer (some ⟨bx,0,none⟩)] w (OutP ok (l.map (Pr.mk t)) w):=by
  have HB:=Lib.hid (fun o=>bel1 w o);have C:=Lib.hid (fun w1 (hb:Below w.heap.size w w1)=>z5z ok a y t l w1 (z0e hs hb) (hl.below hb) hlen);have hlt:=Ap.z0a hb;generalize l.map (Pr.mk t)=L at C ⊢;obtain ⟨_,a1,k1,rfl,_⟩:=hs;obtain ⟨_,⟨_,a2,k2,rfl,_⟩,_⟩:=hl
  go_enter Tryz.func204,Tryz.ntmps204
  go_wp2_with fail;refine (C.out _ (HB.out _)).mono ?_;intro e w2 ho;have HO:=Lib.hid (ho.up (HB.out _) fun b h=>.inl h);obtain ⟨a4,k4,rfl,_,_⟩:=ho;go_wp2_with fail;go_ret;exact HO.out
theorem bes1_any (T:TCon) (ok:Nat→Prop) (bx:Nat) (v1 v2 u1 u2:Value) (x y:Pr) (w:World) (hb:BoxP w bx v1 x.p.e v2 x.q.e) (h1:StrsO ok w v1 x.p.a) (h2:StrsO ok w v2 x.q.a) (h3:StrsO ok w u1 y.p.a) (h4:StrsO ok w u2 y.q.a)
    (l1:x.p.a.length+y.p.a.length≤9) (l2:x.q.a.length+y.q.a.length≤9) (hout:(par1 x y).length≤1000000000000) (hp:(pr x.p y.p).length≤1000000000000) (hq:(pr x.q y.q).length≤1000000000000) :
    Calls Tryz.prog 203 #[.agg #[u1,.int .i64 y.p.e,u2,.int .i64 y.q.e],.pointer (some ⟨bx,0,none⟩)] w (OutP ok (par1 x y) w):=by
  have eg:∀ args w,(callFunc 204 args).run Tryz.prog w=.ok (.enter 204 args) w:=enters_of Tryz.func204 (by kernel_rfl) rfl;have HB:=Lib.hid (fun o=>bel1 w o);have T1:=Lib.hid (fun w1 (hb:Below w.heap.size w w1)=>T.cPar v2 u2 x.q y.q w1 (z1z (z0e h2 hb)) (z1z (z0e h4 hb)) l2);have T2:=Lib.hid (fun w1 (hb:Below w.heap.size w w1)=>T.cPar v1 u1 x.p y.p w1 (z1z (z0e h1 hb)) (z1z (z0e h3 hb)) l1);have hlt:=Ap.z0a hb.1;have HX:=Lib.hid (fun w1 (hb1:Below w.heap.size w w1)=>hb.below hb1);unfold par1 at hout ⊢;obtain ⟨_,a1,k1,rfl,_⟩:=h1;obtain ⟨_,a2,k2,rfl,_⟩:=h2;obtain ⟨_,b1,m1,rfl,_⟩:=h3;obtain ⟨_,b2,m2,rfl,_⟩:=h4;generalize pr x.p y.p=s at *;generalize pr x.q y.q=t at *;obtain ⟨c0,c1,c2,c3⟩:=hb;obtain ⟨L,hL⟩:∃ L,(s.flatMap fun p=>t.map (Pr.mk p))=L:=⟨_,rfl⟩
  rw [hL] at hout ⊢;have HL:=Lib.hid hL;clear hL
  go_enter Tryz.func203,Tryz.ntmps203
  go_wp2_with fail;refine (T1.out _ (HB.out _)).mono ?_;rintro e w1 ⟨a3,k3,rfl,ht1,hb1⟩;have kz:BoxP w1 w.heap.size (.slice b1 y.p.a.length m1) y.p.e (.slice b2 y.q.a.length m2) y.q.e:=BoxP.below ⟨by simp [go_sem],by simp [go_sem],by simp [go_sem],by simp [go_sem]⟩ hb1;have B1:=Lib.hid ((HB.out _).trans (hb1.mono (HB.out _).size));have x1:=HX.out _ B1.out;have TB:=Lib.hid (ht1.imp (ok':=fun b=>ok b∨w.heap.size≤b) fun b _ h=>h.elim (fun h=>h.elim) fun h=>.inr (Nat.le_trans (HB.out _).size h));clear ht1 hb1 c0 c1 c2 c3;have hw1:w.heap.size<w1.heap.size:=Ap.z0a kz.1;have hbx1:bx<w1.heap.size:=Ap.z0a x1.1;obtain ⟨z0,z1,z2,z3⟩:=id kz;obtain ⟨q0,q1,q2,q3⟩:=id x1;go_wp2_with fail;refine (T2.out _ (B1.out.alloc B1.out.size _)).mono ?_;rintro e w2 ⟨a4,k4,rfl,ht2,hb2⟩;have hc2:w2.cell? ⟨w1.heap.size,0,none⟩=some (.slice a3 t.length k3):=by rw [hb2.cell (p:=⟨w1.heap.size,0,none⟩) (by simp)]; exact z2v _ _ _
  have B2:=Lib.hid ((B1.out.alloc B1.out.size _).trans (hb2.mono (B1.out.alloc B1.out.size _).size));have TB2:=Lib.hid ((TB.out.below (bel1 _ _)).below hb2);have TA2:=Lib.hid (ht2.imp (ok':=fun b=>ok b∨w.heap.size≤b) fun b _ h=>h.elim (fun h=>h.elim) fun h=>.inr (Nat.le_trans (B1.out.alloc B1.out.size _).size h))
  have C:=Lib.hid (v0k 204 #[.pointer (some ⟨w1.heap.size,0,none⟩)] eg (fun b=>ok b∨w.heap.size≤b) _ s (fun p=>t.map (Pr.mk p)) w2 TA2.out
    (fun wr hb u hu a ha=>by
      have hc:wr.cell? ⟨w1.heap.size,0,none⟩=some (.slice a3 t.length k3):=by rw [hb.cell (p:=⟨w1.heap.size,0,none⟩) (Ap.z0a hc2)]; exact hc2
      have hY:=(TB2.out.imp (ok':=fun b=>(ok b∨w.heap.size≤b)∧b<w2.heap.size) fun b hlt h=>⟨h,hlt⟩).below hb;exact v1e _ w1.heap.size a _ u t wr hc ha hY hq) hp (by rw [HL.out]; exact hout))
  rw [HL.out] at C;clear ht2 hb2 hc2;go_wp2_with fail;refine C.out.mono ?_;intro e w3 ho;have HO:=Lib.hid (ho.up (ok:=ok) B2.out fun b h=>h);obtain ⟨a5,k5,rfl,_,_⟩:=ho;go_wp2_with fail;go_ret;exact HO.out
theorem pbes_any (T:TCon) (ok:Nat→Prop) (v1 v2 y:Value) (x:Pr) (Y:List Pr) (w:World) (h1:StrsO ok w v1 x.p.a) (h2:StrsO ok w v2 x.q.a) (hy:PsO ok w y Y) (hlen:Y.length≤1000000000000) (hrow:∀ t∈Y,x.p.a.length+t.p.a.length≤9∧x.q.a.length+t.q.a.length≤9) (hout:(Y.flatMap (par1 x)).length≤1000000000000)
    (hin:∀ t∈Y,(pr x.p t.p).length≤1000000000000∧(pr x.q t.q).length≤1000000000000) :
    Calls Tryz.prog 170 #[.agg #[v1,.int .i64 x.p.e,v2,.int .i64 x.q.e],y] w (OutP ok (Y.flatMap (par1 x)) w):=by
  have eg:∀ args w,(callFunc 203 args).run Tryz.prog w=.ok (.enter 203 args) w:=enters_of Tryz.func203 (by kernel_rfl) rfl
  have C:=Lib.hid (fun ty=>y6e 203 #[.pointer (some ⟨w.heap.size,0,none⟩)] eg ok y Y (par1 x) (w.alloc (.cells #[v1,.int .i64 x.p.e,v2,.int .i64 x.q.e] ty)) (hy.below (bel1 _ _))
    (fun wr hb t ht a a' ha ha'=>bes1_any T _ w.heap.size v1 v2 a a' x t wr (BoxP.below (x1u _ _ _ _ _ _) hb) (z0e (z0e (z0x h1 fun b hlt h=>⟨h,by simp; omega⟩) (bel1 _ _)) hb) (z0e (z0e (z0x h2 fun b hlt h=>⟨h,by simp; omega⟩) (bel1 _ _)) hb) ha ha' (hrow t ht).1 (hrow t ht).2 (Nat.le_trans (z6q (par1 x) ht) hout) (hin t ht).1 (hin t ht).2) hlen hout)
  generalize Y.flatMap (par1 x)=L at C ⊢;obtain ⟨_,a1,k1,rfl,_⟩:=h1;obtain ⟨_,a2,k2,rfl,_⟩:=h2;obtain ⟨_,⟨_,a3,k3,rfl,_⟩,_⟩:=hy
  go_enter Tryz.func170,Tryz.ntmps170
  go_wp2_with fail;refine (C.out _).mono ?_;intro e w2 ho;have HO:=Lib.hid (ho.up (bel1 w _) fun b h=>.inl h);obtain ⟨a4,k4,rfl,_,_⟩:=ho;go_wp2_with fail;go_ret;exact HO.out
theorem x6v (T:TCon) (ok:Nat→Prop) (bx:Nat) (v1 v2 y:Value) (x:Pr) (Y:List Pr) (w:World) (hb:w.cell? ⟨bx,0,none⟩=some y) (h1:StrsO ok w v1 x.p.a) (h2:StrsO ok w v2 x.q.a) (hy:PsO ok w y Y) (hlen:Y.length≤1000000000000) (hrow:∀ t∈Y,x.p.a.length+t.p.a.length≤1000000∧t.q.a.length+x.q.a.length≤1000000) :
    Calls Tryz.prog 167 #[.agg #[v1,.int .i64 x.p.e,v2,.int .i64 x.q.e],.pointer (some ⟨bx,0,none⟩)] w (OutP ok (seq1 Y x) w):=by
  have HB:=Lib.hid (fun o=>bel1 w o);have C:=Lib.hid (fun w1 (hb:Below w.heap.size w w1)=>x6r T ok v1 v2 y x Y w1 (z0e h1 hb) (z0e h2 hb) (hy.below hb) hlen hrow);have hlt:=Ap.z0a hb;generalize seq1 Y x=L at C ⊢;obtain ⟨_,a1,k1,rfl,_⟩:=h1;obtain ⟨_,a2,k2,rfl,_⟩:=h2;obtain ⟨_,⟨_,a3,k3,rfl,_⟩,_⟩:=hy
  go_enter Tryz.func167,Tryz.ntmps167
  go_wp2_with fail;refine (C.out _ (HB.out _)).mono ?_;intro e w2 ho;have HO:=Lib.hid (ho.up (HB.out _) fun b h=>.inl h);obtain ⟨a4,k4,rfl,_,_⟩:=ho;go_wp2_with fail;go_ret;exact HO.out
theorem x6u (T:TCon) (ok:Nat→Prop) (bx:Nat) (v1 v2 y:Value) (x:Pr) (Y:List Pr) (w:World) (hb:w.cell? ⟨bx,0,none⟩=some y) (h1:StrsO ok w v1 x.p.a) (h2:StrsO ok w v2 x.q.a) (hy:PsO ok w y Y) (hlen:Y.length≤1000000000000) (hrow:∀ t∈Y,x.p.a.length+t.p.a.length≤9∧x.q.a.length+t.q.a.length≤9) (hout:(Y.flatMap (par1 x)).length≤1000000000000)
    (hin:∀ t∈Y,(pr x.p t.p).length≤1000000000000∧(pr x.q t.q).length≤1000000000000) :
    Calls Tryz.prog 169 #[.agg #[v1,.int .i64 x.p.e,v2,.int .i64 x.q.e],.pointer (some ⟨bx,0,none⟩)] w (OutP ok (Y.flatMap (par1 x)) w):=by
  have HB:=Lib.hid (fun o=>bel1 w o);have C:=Lib.hid (fun w1 (hb:Below w.heap.size w w1)=>pbes_any T ok v1 v2 y x Y w1 (z0e h1 hb) (z0e h2 hb) (hy.below hb) hlen hrow hout hin);have hlt:=Ap.z0a hb;generalize Y.flatMap (par1 x)=L at C ⊢;obtain ⟨_,a1,k1,rfl,_⟩:=h1;obtain ⟨_,a2,k2,rfl,_⟩:=h2;obtain ⟨_,⟨_,a3,k3,rfl,_⟩,_⟩:=hy
  go_enter Tryz.func169,Tryz.ntmps169
  go_wp2_with fail;refine (C.out _ (HB.out _)).mono ?_;intro e w2 ho;have HO:=Lib.hid (ho.up (HB.out _) fun b h=>.inl h);obtain ⟨a4,k4,rfl,_,_⟩:=ho;go_wp2_with fail;go_ret;exact HO.out
end Mn
namespace Mn
open Go Go.RowKit Go.Sort Tr
theorem boxP_gb {w w':World} {b g:Nat} {v v':Value} {e e':Int} (h:BoxP w b v e v' e') (hg:w.grownBy w' (some g)) (hne:g≠b):BoxP w' b v e v' e':=by
  have k:=hg.block b (Ap.z0a h.1) fun e=>hne (by cases e; rfl)
  exact ⟨by rw [World.cell?_of_block (w:=w) (a:=⟨b,0,none⟩) k]; exact h.1,by rw [World.cell?_of_block (w:=w) (a:=⟨b,1,none⟩) k]; exact h.2.1,by rw [World.cell?_of_block (w:=w) (a:=⟨b,2,none⟩) k]; exact h.2.2.1,by rw [World.cell?_of_block (w:=w) (a:=⟨b,3,none⟩) k]; exact h.2.2.2⟩
theorem setP_any (ok:Nat→Prop) (x:Value) (l:List Pr) (w:World) (hx:PsO ok w x l) (hlen:l.length≤1000000000000) (hl:∀ t∈l,t.p.a.length≤1000000∧t.q.a.length≤1000000):Calls Tryz.prog 108 #[x] w (OutP any (pnorm l) w):=by
  obtain ⟨cs,hrd,hcl⟩:=hx;have HC:=Lib.hid (x4h x l.length cs w (Ap.RdO.rd hrd) (Cl.cells _ EP.one hcl) hlen);have HT:=Lib.hid hcl;have HL:=Lib.hid hl;have HLN:=Lib.hid (fun t ht=>hl t ((z0o t l).1 ht));have hnl:=z1m l;obtain ⟨_,a,c,rfl,_⟩:=Ap.RdO.rd hrd;unfold OutP;clear hcl hl hrd;obtain ⟨nl,hnn⟩:∃ nl,pnorm l=nl:=⟨_,rfl⟩
  rw [hnn] at hnl HLN ⊢;have HNN:=Lib.hid hnn;clear hnn
  go_enter Tryz.func108,Tryz.ntmps108
  go_wp2_with fail;refine HC.out.mono ?_;rintro e w1 ⟨v1,rfl,hown,hb1⟩;obtain ⟨_,⟨rfl,h0⟩ | ⟨g,cap,cur,rfl,hrest⟩⟩:=id hown
  · obtain rfl:l=[]:=List.eq_nil_of_length_eq_zero h0;have HB:=Lib.hid hb1;clear hb1 hown
    go_wp2_with (first
      | (go_at_call 157; refine (x5w _ _ _).mono ?_; rintro e w' ⟨rfl,rfl⟩)
      | (go_at_call 159; refine (y6q _ _).mono ?_; rintro e w' ⟨rfl,rfl⟩))
    refine Go.wp_loop_rounds 1 ?_;rw [rounds_succ];go_wp2_with fail;go_ret;rw [← HNN.out];exact ⟨none,0,rfl,⟨[],⟨rfl,none,0,rfl,Nat.le_refl _,fun _=>⟨rfl,rfl⟩,fun h=>absurd h (Nat.lt_irrefl _)⟩,rfl⟩,HB.out⟩
  · clear hrest;obtain ⟨ys,hf,hyl,ho,hbg,hcm⟩:=Own4.of hown;obtain ⟨els,he1,he2⟩:=v0j hb1 hbg HT.out HL.out
    have hys:ys=els.map ElP.qd:=by
      have hlen2:els.length=ys.length:=by rw [hyl,← he1,List.length_map]
      refine List.ext_getElem (by simpa using hlen2.symm) fun k hk hk'=>?_
      have f1:=z6r ys k hk;have f2:=z6r (els.map ElP.qd) k hk';rw [hf,← he2,f2.1,f2.2.1,f2.2.2.1,f2.2.2.2] at f1;obtain ⟨g1,g2,g3,g4⟩:=f1
      cases hy:ys[k]; cases hz:(els.map ElP.qd)[k]
      rw [hy,hz] at g1 g2 g3 g4;injection g1 with g1; injection g2 with g2; injection g3 with g3; injection g4 with g4;simp only at g1 g2 g3 g4;rw [g1,g2,g3,g4]
    have hel:els.toArray.size=l.length:=by rw [← he1]; simp
    have S1:=Lib.hid (x5x g cap w1 els.toArray (by rw [← hys]; exact ho) (by omega));rw [hel] at S1;have HB:=Lib.hid hb1;have HBG:=Lib.hid hbg;have HE:=Lib.hid he1;have HW:=Lib.hid hb1.size;clear hys ho hown hf hyl he2 hb1 he1 hbg ys;go_wp2_with fail;refine S1.out.mono ?_;rintro e w2 ⟨rfl,d,hp,hs,ho2,hg2⟩;have hdl:d.size=l.length:=by rw [← hel]; have:=hp.length_eq; simpa using this
    have S2:=Lib.hid (y6r d w2 (hs.imp fun {x y} h=>by omega) ho2 hg2 (by omega))
    have e3:pnorm (d.toList.map (·.t))=nl:=by
      rw [← HNN.out];refine z2y fun t=>?_
      rw [← HE.out];exact (hp.map (·.t)).mem_iff
    rw [hdl,e3] at S2;have HG2:=Lib.hid hg2;clear hp hs ho2 hg2 e3 hdl S1;go_wp2_with fail;refine S2.out.mono ?_;rintro e w3 ⟨ys,rfl,ho3,hpt3,hg3⟩;have HO3:=Lib.hid ho3;have HP3:=Lib.hid hpt3;have HG3:=Lib.hid (z0c HG2.out hg3);clear ho3 hpt3 hg3 S2;go_wp2_with fail
    go_loopw [13] (fun kv wr=>∃ (k:Nat) (zs:List Qd),k≤nl.length∧kv=.int .i64 (k:Int)∧Own4 wr g 97 cap zs∧PP wr g zs nl∧w1.grownBy wr (some g)) (fun kv _=>nl.length-(intOf kv).toNat)
    case atStart=>exact ⟨0,ys,Nat.zero_le _,rfl,HO3.out,HP3.out,HG3.out⟩
    case round=>
      obtain ⟨k,zs,hk,rfl,ho,hpt,hg⟩:=hrel;have HO:=Lib.hid ho;have HP:=Lib.hid hpt;have HG:=Lib.hid hg;have hzl:=hpt.1;clear ho hpt hg
      by_cases hlt:k<nl.length
      · have hkz:k<zs.length:=by omega
        obtain ⟨p0,p1,p2,p3⟩:=HP.out.2 k hlt hkz;obtain ⟨c0,c1,c2,c3⟩:=HO.out.cell k hkz;have LK:=Lib.hid (HLN.out _ (List.getElem_mem hlt));have P0:=Lib.hid p0;have P2:=Lib.hid p2;have OW:=Lib.hid (fun w4 (hb:Below wr.heap.size wr w4)=>x7g zs[k].a nl[k].p w4 (Ap.RdO.rd (z0e p0 hb)) LK.out.1);have OW':=Lib.hid (fun w4 (hb:Below wr.heap.size wr w4)=>x7g zs[k].c nl[k].q w4 (Ap.RdO.rd (z0e p2 hb)) LK.out.2);rw [p1] at c1;rw [p3] at c3;have ST:=Lib.hid (fun w4 v v' (hb:Below wr.heap.size wr w4) h h'=>PP.gb ((HP.out.gb (z0r hb)).set k hlt v v' h h') (y3t w4 g (k*4) v (.int .i64 nl[k].p.e) v' (.int .i64 nl[k].q.e)));obtain ⟨_,a1,n1,hv,_⟩:=p0;obtain ⟨_,a2,n2,hv',_⟩:=p2;rw [hv] at c0 OW;rw [hv'] at c2 OW';clear p1 p3 hv hv';generalize nl[k]=t at *;go_wp2_with fail;have hgl:=HO.out.lt;have HB1:=Lib.hid (fun o=>(bel1 wr o).drew)
        go_region_held3 (fun w'=>w'.cell? ⟨wr.heap.size,0,none⟩=some (.slice a1 t.p.a.length n1)∧w'.cell? ⟨wr.heap.size,1,none⟩=some (.int .i64 t.p.e)∧w'.cell? ⟨wr.heap.size,2,none⟩=some (.slice a2 t.q.a.length n2)∧w'.cell? ⟨wr.heap.size,3,none⟩=some (.int .i64 t.q.e)) (first | (simp [go_sem]; done) | exact kz | exact ky | exact ks _ _ _ _ | fail) (first
          | (go_at_call 161
             (with_reducible refine (OW.out _ (HB1.out _)).mono ?_)
             rintro e w4 ⟨a3,n3,rfl,hs3,hb3⟩;have kz:BoxP w4 wr.heap.size (.slice a1 t.p.a.length n1) t.p.e (.slice a2 t.q.a.length n2) t.q.e:=BoxP.below ⟨by simp [go_sem],by simp [go_sem],by simp [go_sem],by simp [go_sem]⟩ hb3;have B4:=Lib.hid ((HB1.out _).trans (hb3.mono (HB1.out _).size));have S4:=Lib.hid (z0x hs3 (ok':=fun b=>b≠g) fun b _ h=>by simp at h; omega);clear hs3 hb3)
          | (go_at_call 161
             (with_reducible refine (OW'.out _ B4.out).mono ?_)
             rintro e w5 ⟨a4,n4,rfl,hs4,hb4⟩;have ky:=BoxP.below kz hb4;have B5:=Lib.hid (B4.out.trans (hb4.mono B4.out.size));have h45:=B4.out.size;have S5:=Lib.hid (z0e S4.out hb4);have S5':=Lib.hid (z0x hs4 (ok':=fun b=>b≠g) fun b _ h=>by omega);have O5:=Lib.hid (HO.out.below B5.out);have f0:=O5.out.soft (k*4);have f1:=O5.out.soft (k*4+1);have f2:=O5.out.soft (k*4+2);have f3:=O5.out.soft (k*4+3);obtain ⟨t0,t1,t2,t3⟩:=O5.out.cell k hkz;have ks:∀ x y z u:Value,BoxP ((((w5.setCell ⟨g,k*4,none⟩ x).setCell ⟨g,k*4+1,none⟩ y).setCell ⟨g,k*4+2,none⟩ z).setCell ⟨g,k*4+3,none⟩ u) wr.heap.size (.slice a1 t.p.a.length n1) t.p.e (.slice a2 t.q.a.length n2) t.q.e:=fun x y z u=>boxP_gb ky (y3t w5 g (k*4) x y z u) (by omega)
             clear hs4 hb4)
          | fail)
        go_wp2_with fail
        go_roundw
        case rel=>exact ⟨k+1,_,by omega,by go_num,O5.out.store k hkz _ _ _ _,ST.out w5 _ _ B5.out S5.out S5'.out,z0c (z0c HG.out (z0r B5.out)) (y3t _ _ _ _ _ _ _)⟩
        case measure=>simp [intOf]; omega
      · go_wp2_with fail;go_ret;have hzn:zs.length=nl.length:=by omega
        have:=HO.out.owns HBG.out hcm;rw [hzn] at this;refine ⟨_,_,rfl,⟨flat4 zs,Ap.RdO.of (by omega) (Ap.Rd.owned this) |>.imp fun _ _ _=>.inl trivial,Cl.imp (EP.map fun _ _ h=>z0x h fun _ _ _=>.inl trivial) HP.out.cells⟩,z6v HB.out HG.out HBG.out HW.out⟩
end Mn
end Go.Proofs.YtaapnkoooofalaaGreat
