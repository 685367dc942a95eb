/- Laws that the last text leans on. -/
import Derived.Test.YtpingbiibbmcaaaGreatDoorQ33

set_option maxRecDepth 20000
set_option maxHeartbeats 1000000
namespace Go.Proofs.YtpingbiibbmcaaaGreatDoor
namespace St
open Go Go.RowKit Rw YtpingbiibbmcaaaGreatDoor.So Se Do Sp Me
theorem way_of {s u:Tm} {h:Int} {o:Option ByteArray} (k:Made s h o u) (q:List Nd):Way (kn (flat s++q) 0) h∧(kn (flat s++q) 0≠1→kn (flat s++q) 0≠4→(kids (flat s++q)).length=2)∧nmAt (flat s++q) 0=o.getD ⟨#[]⟩:=by
  have two:∀ (n:Nd) (a b:Tm),ar n.k=2→kids ((n::(flat a++flat b))++q)=[flat a,flat b]:=fun n a b hk=>by
    have:=z6h (n:=n) a b q hk;rw [List.cons_append,List.append_assoc];exact this
  cases k with
  | act s=>exact ⟨.inl ⟨rfl,rfl⟩,fun h=>absurd rfl h,rfl⟩
  | altl _ b=>exact ⟨.inr (.inr (.inr (.inl ⟨rfl,rfl⟩))),fun _ _=>by rw [show flat (.alt u b)=nOf 6::(flat u++flat b) from rfl,two _ _ _ rfl]; rfl,rfl⟩
  | altr a _=>exact ⟨.inr (.inr (.inr (.inr (.inl ⟨rfl,rfl⟩)))),fun _ _=>by rw [show flat (.alt a u)=nOf 6::(flat a++flat u) from rfl,two _ _ _ rfl]; rfl,rfl⟩
  | yieldg=>exact ⟨.inr (.inl ⟨rfl,rfl⟩),fun _ h=>absurd rfl h,rfl⟩
  | yields=>exact ⟨.inr (.inr (.inl ⟨rfl,rfl⟩)),fun _ h=>absurd rfl h,rfl⟩
  | pairg a b=>exact ⟨.inr (.inr (.inr (.inr (.inr (.inl ⟨rfl,rfl⟩))))),fun _ _=>by rw [show flat (.pair a b)=nOf 10::(flat a++flat b) from rfl,two _ _ _ rfl]; rfl,rfl⟩
  | pairs a b=>exact ⟨.inr (.inr (.inr (.inr (.inr (.inr ⟨rfl,rfl⟩))))),fun _ _=>by rw [show flat (.pair a b)=nOf 10::(flat a++flat b) from rfl,two _ _ _ rfl]; rfl,rfl⟩
theorem kids_sum (l:List Nd):(kids l).flatten.length≤l.length:=by
  by_cases h:size l=0
  · rw [show kids l=[] from if_pos h]; simp
  · cases l with
    | nil=>exact absurd rfl h
    | cons n r=>
      have:=congrArg List.length (z6e h);rw [List.length_cons,List.length_take] at this;omega
theorem put_at (l:List Nd) (q:Nat) (x:List Nd) (hq:q<l.length):putR l (q:Int) x=putN l q x:=if_neg (by omega)
theorem nextP_no (v:Value) (l:List Nd) (m:Mv) (w:World) (hv:Nds w v l) (hl:l.length≤1000) (hm:Nms l) (h0:m∉enR l) :
    Calls Tryz.prog 74 #[v,mvV m] w fun e w'=>∃ y,e=.returned (.tuple #[y,.string (nxS l m),.int .i64 (nxE l m)])∧Nds w' y (nxL l m)∧Below w.heap.size w w':=by
  rw [show nxL l m=[] from if_neg h0,show nxS l m=⟨#[]⟩ from if_neg fun h=>h0 h.1,show nxE l m=120 from if_neg h0];have HI:=Lib.hid (fun w1 (hb:Below w.heap.size w w1)=>v1o v l m w1 (hv.below hb) hl hm);rw [decide_eq_false h0] at HI;have D0:=Lib.hid (z0b w (.cells #[.int .i64 m.p,.int .i64 m.h] 71));obtain ⟨mp,mh⟩:=m;obtain ⟨_,a,c,rfl,-⟩:=id hv;clear hv hm h0
  go_enter Tryz.func74,Tryz.ntmps74
  go_wp2_with fail;refine (HI.out _ D0.out).mono ?_;rintro e w1 ⟨rfl,hb⟩;have D:=Lib.hid (D0.out.trans (hb.mono D0.out.size));clear hb;go_wp2_with fail
  go_ret3
  exact ⟨_,rfl,nds_nil _,D.out⟩
theorem v0m (v:Value) (l:List Nd) (m:Mv) (w:World) (hv:Nds w v l) (hl:l.length≤1000) (hm:Nms l) :
    Calls Tryz.prog 74 #[v,mvV m] w fun e w'=>∃ y,e=.returned (.tuple #[y,.string (nxS l m),.int .i64 (nxE l m)])∧Nds w' y (nxL l m)∧Below w.heap.size w w':=by
  by_cases h0:m∈enR l
  · obtain ⟨t,rfl,hg,hn⟩:=x3d h0;obtain ⟨mo,h1,rfl⟩:=y0n hg hn h0;obtain ⟨n1,n2,n3⟩:=z6v hg hn h1;have hI:=fun w1 (hb:Below w.heap.size w w1)=>v1o v (flat t) (mvOf mo) w1 (hv.below hb) hl hm
    rw [decide_eq_true h0] at hI;obtain ⟨pre,s,post,u,e1,e2,e3,hmd⟩:=y1o t true 0 mo h1;obtain ⟨p1,p2⟩:=x8x pre (flat s) post (flat u) (z0i s);have hr:=z6x hg h1;have ht:=hg.2.1;have hr2:=hr.2.1;have l1:=congrArg List.length e1;have l3:=congrArg List.length e3;rw [Se.flat_len] at l1 l3;simp only [List.length_append,Se.flat_len] at l1 l3;have hq:pre.length<(flat t).length:=by rw [Se.flat_len,l1]; have:=z0e s; omega
    have e2':mo.p=pre.length:=by omega
    have ev:mvV (mvOf mo)=.agg #[.int .i64 (pre.length:Int),.int .i64 mo.h]:=by
      show Value.agg #[.int .i64 (mo.p:Int),.int .i64 mo.h]=_
      rw [e2']
    rw [n1,n2,n3,ev];rw [ev] at hI;obtain ⟨w1,w2,w3⟩:=way_of hmd post;have d1:(flat t).drop pre.length=flat s++post:=by rw [e1]; exact p2
    have pR:putR (flat t) (pre.length:Int) (flat u)=flat mo.r:=by rw [put_at _ _ _ hq,e1,p1,← e3]
    have hX:mdK (kids ((flat t).drop pre.length)) (kn (flat s++post) 0) mo.h=flat u:=by
      rw [d1,← mdR_K];exact v1c hmd post
    have hget:(flat t)[pre.length]?=(flat s++post)[0]?:=by
      rw [e1,List.getElem?_append_right (Nat.le_refl _),Nat.sub_self]
    have hk:(flat t)[pre.length].k=kn (flat s++post) 0∧(flat t)[pre.length].n=nmAt (flat s++post) 0:=by
      rw [List.getElem?_eq_getElem hq] at hget
      constructor
      · unfold kn;rw [show ((0:Int)).toNat=0 from rfl,← hget]
      · unfold nmAt;rw [← hget]
    rcases hv.form with ⟨hz,_⟩ | ⟨b,o,c,rfl,hc,hat⟩
    · rw [hz] at hq; simp at hq
    have hA:=at_keep hat pre.length hq;rw [hk.1,hk.2,w3] at hA;refine v0l b o c (flat t).length pre.length (kn (flat s++post) 0) mo.h (mo.l.getD ⟨#[]⟩) (kids ((flat t).drop pre.length)) (flat u) _ w hq hA hI ?_ ?_
    · intro wx
      have:=done_any (kn (flat s++post) 0) mo.h w1 (kids ((flat t).drop pre.length)) wx (by rw [d1]; exact w2) (by
        have:=kids_sum ((flat t).drop pre.length);rw [List.length_drop] at this;omega)
      rwa [hX] at this
    · intro wx f hb hf;have:=v4e _ f (flat t) (flat u) pre.length wx (hv.below hb) (by rw [Se.flat_len]; omega) (by rw [Se.flat_len]; omega) hq hf (by rw [pR]; exact z2c hr.1) (by rw [pR,Se.flat_len]; omega)
      rwa [pR,y5k hr] at this
  · exact nextP_no v l m w hv hl hm h0
end St
namespace St
open Go Rw YtpingbiibbmcaaaGreatDoor.So Se Tr Mn Do Sp Me
def ahN (s:ByteArray) (x:Tr):Tr:=if s=⟨#[]⟩ then x else ⟨s::x.a,x.e⟩
noncomputable def gM (l:List Nd) (m:Mv):List Tr:=(MtR (nxL l m)).map (ahN (nxS l m))
theorem z4k:∀ (t:Tm) (d:Bool) (i:Nat),(mvs d t i).length≤2*sz t
  | .act _,_,_=>by simp [mvs,sz]
  | .alt a b,_,_=>by simp [mvs,sz]; omega
  | .yield,d,_=>by cases d <;> simp [mvs,sz]
  | .pair a b,d,_=>by cases d <;> simp [mvs,sz] <;> omega
  | .seq a b,d,i=>by have:=z4k a d (i+1); simp [mvs,sz]; omega
  | .hand a b,d,i=>by have:=z4k a d (i+1); simp [mvs,sz]; omega
  | .going a b,d,i=>by have:=z4k a d (i+1); simp [mvs,sz]; omega
  | .stack a b,d,i=>by have:=z4k a d (i+1); simp [mvs,sz]; omega
  | .block a,d,i=>by have:=z4k a false (i+1); simp [mvs,sz]; omega
  | .par a b,d,i=>by have h1:=z4k a (d||bangT b) (i+1); have h2:=z4k b (d||bangT a) (i+1+sz a); simp [mvs,sz]; omega
  | .skip,_,_=>by simp [mvs]
  | .throw,_,_=>by simp [mvs]
  | .over _,_,_=>by simp [mvs]
  | .fin _ _,_,_=>by simp [mvs]
theorem z8g {l:List Nd} (h:why l false=0):(Mt l).length≤12079595520∧∀ t∈Mt l,t.a.length≤6:=by
  obtain ⟨h1,h2⟩:=why_ok h;have g:=gt (Sx.whole_tre (x1x h1).1) (x1x h1).2;obtain ⟨s1,s2⟩:=z5w h2;refine ⟨Nat.le_trans g.len (K_last s1 s2),fun x hx=>?_⟩;have:=(g.cnt all).len hx;unfold acs at s2;omega
theorem z8d {t:Tm} (hg:Goes t) (hs:smallB (flat t)=true) (ho:onB (flat t) false=true) {mo:Mo} (h:mo∈mvs true t 0):why (flat (S mo.r)) false=0:=by
  obtain ⟨s1,s2⟩:=z5w hs;have hb:onB (flat (S mo.r)) false=true:=by rw [(y9d hg h).2 false]; exact ho
  have hz:smallB (flat (S mo.r))=true:=by
    unfold smallB;have z1:=S_sz mo.r;have z2:=mv_sz t true 0 mo h;have a1:=S_ac mo.r;have a2:=mv_ac t true 0 mo h;rw [Se.flat_len] at s1 ⊢;rw [v4f] at s2 ⊢;rw [Bool.and_eq_true,decide_eq_true_eq,decide_eq_true_eq];omega
  unfold why;rw [hb,hz]
  rfl
theorem ah_name {t:Tm} (hg:Goes t) (hn:Nf t) {mo:Mo} (h:mo∈mvs true t 0):ahN (nxS (flat t) (mvOf mo))=ah mo.l:=by
  obtain ⟨_,n2,_⟩:=z6v hg hn h;obtain ⟨_,l1,_⟩:=z3y (mo_in hg hn h);obtain ⟨pre,s,post,u,e1,_,_,hm⟩:=y1o t true 0 mo h;rw [n2] at l1 ⊢;have hh:(mvOf mo).h=mo.h:=rfl;rw [hh] at l1;generalize mo.h=x at hm l1;generalize mo.l=oo at hm l1 ⊢
  funext y
  cases hm with
  | act s=>exact if_neg (l1 rfl)
  | _=>exact if_pos rfl
theorem z9w {l:List Nd} (hset:setB l=true) (hs:smallB l=true) (ho:onB l false=true) (hk:kn l 0≠11) :
    norm ((enR l).flatMap (gM l))=MtR l∧((enR l).length≤48)∧(∀ m∈enR l,why (nxL l m) false=0∧(gM l m).length≤12079595520∧∀ x∈gM l m,x.a.length≤7):=by
  obtain ⟨t,rfl,hg,hn⟩:=z0k.1 hset;have f1:=z2u hg.1 hg.2.1 false;simp only [Bool.false_eq_true,if_false] at f1;have h3:is t 3=true:=by rw [← f1]; exact ho
  have hw:why (flat t) false=0:=by unfold why; rw [ho,hs]; rfl
  have hover:isOver t=false:=by
    cases t with
    | over s=>exact absurd rfl hk
    | _=>rfl
  obtain ⟨s1,s2⟩:=z5w hs;have hac:ac t≤19:=by rw [← v4f]; omega
  have hM:MtR (flat t)=Mt (flat t):=if_pos hw
  have hone:∀ mo∈mvs true t 0,gM (flat t) (mvOf mo)=(Mt (flat (S mo.r))).map (ah mo.l):=fun mo h=>by
    unfold gM;rw [(z6v hg hn h).1,ah_name hg hn h,show MtR (flat (S mo.r))=Mt (flat (S mo.r)) from if_pos (z8d hg hs ho h)]
  refine ⟨?_,?_,fun m hm=>?_⟩
  · rw [hM];refine z3w (x7m h3) fun x=>?_
    rw [mv_means hn hg.1 hac h3 hover 0 x,List.mem_flatMap]
    constructor
    · rintro ⟨mo,h,y,hy,rfl⟩;refine ⟨mvOf mo,mo_in hg hn h,?_⟩;rw [hone mo h];exact List.mem_map.2 ⟨y,hy,rfl⟩
    · rintro ⟨m,hm,hx⟩;obtain ⟨mo,h,rfl⟩:=y0n hg hn hm;rw [hone mo h] at hx;obtain ⟨y,hy,rfl⟩:=List.mem_map.1 hx;exact ⟨mo,h,y,hy,rfl⟩
  · rw [z4r hg hn,List.length_map];have:=z4k t true 0;rw [Se.flat_len] at s1;omega
  · obtain ⟨mo,h,rfl⟩:=y0n hg hn hm;have hz:=z8d hg hs ho h;have m1:=z8g hz;rw [(z6v hg hn h).1,hone mo h];refine ⟨hz,by rw [List.length_map]; exact m1.1,fun x hx=>?_⟩;obtain ⟨y,hy,rfl⟩:=List.mem_map.1 hx;rw [y0w];have:=m1.2 y hy;have:lb mo.l≤1:=by cases mo.l <;> simp [lb]
    omega
end St
namespace Ru
open Go Rw YtpingbiibbmcaaaGreatDoor.So Se Tr Mn Do Sp Me St
def endB (l:List Nd):Bool:=decide (l.length=1)&&(kn l 0==11)
def sgn (l:List Nd):Int:=match l with | []=>0 | x::_=>x.s
def trR (r:Rn):Tr:=if endB r.l then ⟨r.a,sgn r.l⟩ else ⟨[],0⟩
noncomputable def errR (l:List Nd):Int:=if onB l false&&setB l then (if smallB l then 0 else 70) else 1
noncomputable def allR (l:List Nd):List Tr:=if errR l=0 then MtR l else []
def hasT (L:List Tr) (t:Tr):Bool:=L.any fun u=>cmp u t==0
theorem z1p {L:List Tr} {t:Tr}:hasT L t=true↔t∈L:=by
  unfold hasT;rw [List.any_eq_true]
  constructor
  · rintro ⟨u,hu,h⟩;rw [← z5r (beq_iff_eq.1 h)];exact hu
  · intro h;exact ⟨t,h,by rw [z3g]; rfl⟩
def restR (t:Tr) (h:Int) (s:ByteArray):Option Tr:=if h≠1 then some t else match t.a with | []=>none | x::a=>if x=s then some ⟨a,t.e⟩ else none
noncomputable def okM (l:List Nd) (t:Tr) (m:Mv):Bool:=match restR t m.h (nxS l m) with | none=>false | some u=>hasT (MtR (nxL l m)) u
noncomputable def firstR (l:List Nd) (t:Tr):Option Nat:=(enR l).findIdx? (okM l t)
noncomputable def findN:Nat→List Nd→Tr→Option (List Nat)
  | 0,_,_=>none
  | n+1,l,t=>if endB l then some [] else match firstR l t with
    | none=>none
    | some k=>match (enR l)[k]? with
      | none=>none
      | some m=>(findN n (nxL l m) ((restR t m.h (nxS l m)).getD t)).map (k::·)
noncomputable def findR (l:List Nd) (t:Tr):Option (List Nat):=if errR l==0&&hasT (MtR l) t then findN (l.length+1) l t else none
theorem z1r {l:List Nd}:errR l=0↔onB l false=true∧setB l=true∧smallB l=true:=by
  unfold errR
  cases onB l false <;> cases setB l <;> cases smallB l <;> simp
theorem y0v {t u:Tr} {h:Int} {s:ByteArray} (hs:h=1→s≠⟨#[]⟩) (hn:h≠1→s=⟨#[]⟩):restR t h s=some u↔t=ahN s u:=by
  unfold restR ahN
  by_cases h1:h=1
  · rw [if_neg (fun k=>k h1),if_neg (hs h1)];obtain ⟨a,e⟩:=t;obtain ⟨b,f⟩:=u
    cases a with
    | nil=>simp
    | cons x a=>
      simp only
      split
      · rename_i e1
        simp [e1]
      · rename_i e1
        simp [e1]
  · rw [if_pos h1,if_pos (hn h1),Option.some_inj]
theorem y4f {t:Tm}:endB (flat t)=true↔∃ s,t=.over s:=by
  constructor
  · intro h;unfold endB at h;rw [Bool.and_eq_true,decide_eq_true_eq,beq_iff_eq] at h
    cases t with
    | over s=>exact ⟨s,rfl⟩
    | act s=>exact absurd h.2 (by show ¬ ((1:Int)=11); decide)
    | skip=>exact absurd h.2 (by show ¬ ((2:Int)=11); decide)
    | throw=>exact absurd h.2 (by show ¬ ((3:Int)=11); decide)
    | yield=>exact absurd h.2 (by show ¬ ((4:Int)=11); decide)
    | seq a b=>exact absurd h.2 (by show ¬ ((5:Int)=11); decide)
    | alt a b=>exact absurd h.2 (by show ¬ ((6:Int)=11); decide)
    | par a b=>exact absurd h.2 (by show ¬ ((7:Int)=11); decide)
    | hand a b=>exact absurd h.2 (by show ¬ ((8:Int)=11); decide)
    | block a=>exact absurd h.2 (by show ¬ ((9:Int)=11); decide)
    | pair a b=>exact absurd h.2 (by show ¬ ((10:Int)=11); decide)
    | going a b=>exact absurd h.2 (by show ¬ ((12:Int)=11); decide)
    | stack a b=>exact absurd h.2 (by show ¬ ((13:Int)=11); decide)
    | fin s c=>exact absurd h.2 (by show ¬ ((14:Int)=11); decide)
  · rintro ⟨s,rfl⟩
    rfl
theorem y3l {l:List Nd} (h:errR l=0) {m:Mv} (hm:m∈enR l):errR (nxL l m)=0:=by
  obtain ⟨h1,h2,h3⟩:=z1r.1 h;obtain ⟨t,rfl,hg,hn⟩:=z0k.1 h2;obtain ⟨mo,hmo,rfl⟩:=y0n hg hn hm;have hw:=z8d hg h3 h1 hmo;have hk:=(y9d hg hmo).1;rw [(z6v hg hn hmo).1];obtain ⟨w1,w2⟩:=why_ok hw;exact z1r.2 ⟨w1,hk,w2⟩
theorem z7q {l:List Nd} (h:errR l=0):MtR l=Mt l:=by
  obtain ⟨h1,_,h3⟩:=z1r.1 h;have hw:why l false=0:=by unfold why; rw [h1,h3]; rfl
  exact if_pos hw
theorem z5g {l:List Nd} (h:errR l=0) (he:endB l=false) {t:Tr}:t∈MtR l↔∃ m∈enR l,okM l t m=true:=by
  obtain ⟨h1,h2,h3⟩:=z1r.1 h
  have hk:kn l 0≠11:=by
    obtain ⟨u,rfl,hg,hn⟩:=z0k.1 h2;intro hk
    cases u with
    | over s=>cases he
    | _=>exact absurd hk (by first | (show ¬ ((1:Int)=11); decide) | (show ¬ ((2:Int)=11); decide) | (show ¬ ((3:Int)=11); decide) | (show ¬ ((4:Int)=11); decide) | (show ¬ ((5:Int)=11); decide) | (show ¬ ((6:Int)=11); decide) | (show ¬ ((7:Int)=11); decide) | (show ¬ ((8:Int)=11); decide) | (show ¬ ((9:Int)=11); decide) | (show ¬ ((10:Int)=11); decide) | (show ¬ ((12:Int)=11); decide) | (show ¬ ((13:Int)=11); decide) | (show ¬ ((14:Int)=11); decide))
  obtain ⟨q1,_,_⟩:=z9w h2 h3 h1 hk;rw [← q1,z0s,List.mem_flatMap]
  have key:∀ m∈enR l,(t∈gM l m↔okM l t m=true):=fun m hm=>by
    obtain ⟨_,l1,l2⟩:=z3y hm;unfold gM okM;rw [List.mem_map]
    constructor
    · rintro ⟨u,hu,rfl⟩;rw [(y0v l1 l2).2 rfl];exact z1p.2 hu
    · intro ho
      split at ho
      · cases ho
      · rename_i u hu
        exact ⟨u,z1p.1 ho,((y0v l1 l2).1 hu).symm⟩
  exact ⟨fun ⟨m,hm,hx⟩=>⟨m,hm,(key m hm).1 hx⟩,fun ⟨m,hm,hx⟩=>⟨m,hm,(key m hm).2 hx⟩⟩
theorem z7d:∀ (n:Nat) (l:List Nd) (t:Tr),errR l=0→t∈MtR l→cnt l wK<n→∃ ks:List Nat,findN n l t=some ks∧(play l (ks.map Int.ofNat)).l=[⟨11,⟨#[]⟩,t.e⟩]∧(play l (ks.map Int.ofNat)).a=t.a∧(play l (ks.map Int.ofNat)).n=ks.length∧ks.length≤cnt l wK
  | 0,_,_,_,_,h=>absurd h (Nat.not_lt_zero _)
  | n+1,l,t,h,ht,hn=>by
    by_cases he:endB l=true
    · obtain ⟨u,rfl,_,_⟩:=z0k.1 (z1r.1 h).2.1;obtain ⟨s,rfl⟩:=y4f.1 he;rw [z7q h,z0u,List.mem_singleton] at ht;subst ht;refine ⟨[],?_,rfl,rfl,rfl,Nat.zero_le _⟩;unfold findN;rw [if_pos he]
    · obtain ⟨m,hm,ho⟩:=(z5g h (Bool.eq_false_iff.2 he)).1 ht
      obtain ⟨k,hk⟩:∃ k,firstR l t=some k:=by
        cases hf:firstR l t with
        | some k=>exact ⟨k,rfl⟩
        | none=>
          unfold firstR at hf;rw [List.findIdx?_eq_none_iff] at hf;exact absurd ho (by rw [hf m hm]; decide)
      have hk2:=hk;unfold firstR at hk2;rw [List.findIdx?_eq_some_iff_getElem] at hk2;obtain ⟨hlt,hok,_⟩:=hk2;have hin:=List.getElem_mem hlt;obtain ⟨x,hx⟩:∃ x,(enR l)[k]=x:=⟨_,rfl⟩
      rw [hx] at hok hin;obtain ⟨hc,l1,l2⟩:=z3y hin;unfold okM at hok
      obtain ⟨u,hu⟩:∃ u,restR t x.h (nxS l x)=some u:=by
        cases e:restR t x.h (nxS l x) with
        | none=>rw [e] at hok; cases hok
        | some u=>exact ⟨u,rfl⟩
      rw [hu] at hok;have hut:=(y0v l1 l2).1 hu;obtain ⟨ks,k1,k2,k3,k4,k5⟩:=z7d n (nxL l x) u (y3l h hin) (z1p.1 hok) (by omega);have hne:enR l≠[]:=fun e=>by rw [e] at hin; cases hin
      have hpk:pkM l (Int.ofNat k)=x:=by rw [show Int.ofNat k=(k:Int) from rfl,pkM_at hlt (nr_self hlt),hx]
      refine ⟨k::ks,?_,?_,?_,?_,by rw [List.length_cons]; omega⟩
      · unfold findN;rw [if_neg he,hk];simp only [List.getElem?_eq_getElem hlt,hx,hu,Option.getD_some,k1,Option.map_some]
      · rw [List.map_cons,z2t _ _ _ hne,hpk,k2,hut];unfold ahN
        split <;> rfl
      · rw [List.map_cons,z2t _ _ _ hne,hpk];simp only;rw [k3,hut];unfold ahN
        by_cases h1:x.h=1
        · rw [if_pos h1,if_neg (l1 h1)]; rfl
        · rw [if_neg h1,if_pos (l2 h1)]; rfl
      · rw [List.map_cons,z2t _ _ _ hne,hpk];simp only;rw [k4,List.length_cons];omega
theorem cnt_le (l:List Nd):cnt l wK≤l.length:=by
  unfold cnt;exact List.countP_le_length
theorem z7c {l:List Nd} {t:Tr} (h:errR l=0) (ht:t∈MtR l):∃ ks:List Nat,findR l t=some ks∧(play l (ks.map Int.ofNat)).l=[⟨11,⟨#[]⟩,t.e⟩]∧(play l (ks.map Int.ofNat)).a=t.a∧(play l (ks.map Int.ofNat)).n=ks.length∧ks.length≤cnt l wK:=by
  unfold findR;rw [if_pos (by rw [Bool.and_eq_true]; exact ⟨beq_iff_eq.2 h,z1p.2 ht⟩)];exact z7d _ l t h ht (by have:=cnt_le l; omega)
theorem x6k {l:List Nd} {t:Tr} (h:¬ (errR l=0∧t∈MtR l)):findR l t=none:=if_neg fun k=>h (by rw [Bool.and_eq_true] at k; exact ⟨beq_iff_eq.1 k.1,z1p.1 k.2⟩)
end Ru
namespace Ru
open Go Go.RowKit Rw YtpingbiibbmcaaaGreatDoor.So Se Tr Mn Do Sp Me St
theorem kc {W w1:World} {p:Addr} {u:Value} (hb:Below W.heap.size W w1) (h:W.cell? p=some u):w1.cell? p=some u:=by rw [hb.cell (Ap.z0a h)]; exact h
theorem kf {W w1:World} {p:Addr} (hb:Below W.heap.size W w1) (h:W.frozen? p=false) (hlt:p.block<W.heap.size):w1.frozen? p=false:=by rw [hb.frozen hlt]; exact h
theorem rd_off {w w':World} {g size n:Nat} {v:Value} {cs:List Value} {xs:Array Value} {T:TypeId} {fr:Nat × Nat} (h:Ap.Rd w size v n cs) (j:Nat) (hj:0<n→∃ s,cs[j]?=some (.string s)) (hg:w.heap[g]?=some (.cells xs T fr)) (hx:∀ u∈xs.toList,∀ s,u≠.string s) (hm:w.grownBy w' (some g)):Ap.Rd w' size v n cs:=by
  obtain ⟨hl,a,cap,hv,hc,hn,hcell⟩:=h;refine ⟨hl,a,cap,hv,hc,hn,fun h0=>?_⟩;obtain ⟨b,off,ha,hk⟩:=hcell h0;obtain ⟨s,hs⟩:=hj h0
  have hb:b≠g:=by
    rintro rfl;have h1:=hk j _ hs;simp only [World.cell?,hg] at h1;have h2:xs[off+j]?=some (.string s):=h1;exact hx _ (Array.mem_toList_iff.2 (Array.mem_of_getElem? h2)) s rfl
  refine ⟨b,off,ha,fun i u hu=>?_⟩;have h1:=hk i u hu;rw [World.cell?_of_block (hm.block _ (Ap.z0a h1) (fun e=>hb (Option.some.inj e)))];exact h1
theorem z9r {w w':World} {g:Nat} {v:Value} {l:List Nd} {xs:Array Value} {T:TypeId} {fr:Nat × Nat} (h:Nds w v l) (hg:w.heap[g]?=some (.cells xs T fr)) (hx:∀ u∈xs.toList,∀ s,u≠.string s) (hm:w.grownBy w' (some g)):Nds w' v l:=
  rd_off h 1 (fun h0=>by
    cases l with
    | nil=>cases h0
    | cons x l=>exact ⟨x.n,rfl⟩) hg hx hm
theorem z7x {w w':World} {g:Nat} {v:Value} {l:List ByteArray} {xs:Array Value} {T:TypeId} {fr:Nat × Nat} (h:Tr.Strs w v l) (hg:w.heap[g]?=some (.cells xs T fr)) (hx:∀ u∈xs.toList,∀ s,u≠.string s) (hm:w.grownBy w' (some g)):Tr.Strs w' v l:=
  rd_off h 0 (fun h0=>by
    cases l with
    | nil=>cases h0
    | cons x l=>exact ⟨x,rfl⟩) hg hx hm
theorem y2j (w:World) (b:Nat) (x y:Value):w.grownBy ((w.setCell ⟨b,0,none⟩ x).setCell ⟨b,1,none⟩ y) (some b):=
  ⟨rfl,rfl,rfl,by simp [World.setCell],fun k _ hk=>by rw [Below.heap_setCell _ _ _ k fun e=>hk (by rw [e]),Below.heap_setCell _ _ _ k fun e=>hk (by rw [e])]⟩
theorem z8p {w:World} {b:Nat} {u v:Value} (x y:Value) (h0:w.cell? ⟨b,0,none⟩=some u) (h1:w.cell? ⟨b,1,none⟩=some v):((w.setCell ⟨b,0,none⟩ x).setCell ⟨b,1,none⟩ y).cell? ⟨b,0,none⟩=some x∧((w.setCell ⟨b,0,none⟩ x).setCell ⟨b,1,none⟩ y).cell? ⟨b,1,none⟩=some y:=
  ⟨by rw [Se.z0v (by omega)]; exact Se.z0p h0,Se.z0p (by rw [Se.z0v (by omega)]; exact h1)⟩
theorem new2 (w:World) (o1 o2:Obj):((w.alloc o1).alloc o2).heap[w.heap.size+1]?=some o2:=by
  show ((w.heap.push o1).push o2)[w.heap.size+1]?=some o2
  rw [Array.getElem?_push,if_pos (by simp)]
theorem z7y (w:World):Tr.Strs w (.slice none 0 0) []:=⟨rfl,none,0,rfl,Nat.le_refl _,fun _=>⟨rfl,rfl⟩,fun h=>absurd h (Nat.lt_irrefl 0)⟩
def TrP (t:Tr) (b:Bool) (w:World) (e:Ending) (w':World):Prop:=∃ v,e=.returned (.tuple #[.agg #[v,.int .i64 t.e],.bool b])∧Tr.Strs w' v t.a∧Below w.heap.size w w'
end Ru
namespace Ru
open Go Rw YtpingbiibbmcaaaGreatDoor.So Se Tr Mn Do Sp Me St
inductive Two:Tm→Tm→Tm→Prop
  | alt (a b:Tm):Two (.alt a b) a b
  | yield:Two .yield (.over 1) (.over 3)
  | pair (a b:Tm):Two (.pair a b) (.going a b) (.fin 3 .skip)
  | seq {a u v:Tm} (b:Tm) (h:Two a u v):Two (.seq a b) (.seq u b) (.seq v b)
  | hand {a u v:Tm} (b:Tm) (h:Two a u v):Two (.hand a b) (.hand u b) (.hand v b)
  | going {a u v:Tm} (b:Tm) (h:Two a u v):Two (.going a b) (.going u b) (.going v b)
  | stack {a u v:Tm} (b:Tm) (h:Two a u v):Two (.stack a b) (.stack u b) (.stack v b)
  | block {a u v:Tm} (h:Two a u v):Two (.block a) (.block u) (.block v)
  | parl {a u v:Tm} (b:Tm) (h:Two a u v):Two (.par a b) (.par u b) (.par v b)
  | parr {b u v:Tm} (a:Tm) (h:Two b u v):Two (.par a b) (.par a u) (.par a v)
theorem Two.means {t u v:Tm} (h:Two t u v):(is t 3=true→∀ x∈Mt (flat t),x∈Mt (flat u)∨x∈Mt (flat v))∧(is t 4=true→∀ z∈Mp (flat t),z∈Mp (flat u)∨z∈Mp (flat v)):=by
  induction h with
  | alt a b=>exact ⟨fun _ x hx=>i_alt.1 hx,fun _ x hx=>j_alt.1 hx⟩
  | yield=>
    refine ⟨fun _ x hx=>?_,fun h=>by simp [is] at h⟩;rw [z5a] at hx;rw [z0u,z0u];simp only [List.mem_cons,List.not_mem_nil,or_false] at hx ⊢;exact hx
  | pair a b=>
    refine ⟨fun h=>by simp [is] at h,fun _ z hz=>?_⟩
    rcases x2r.1 hz with h | rfl
    · exact .inl h
    · exact .inr (v1l.2 ⟨tick,by rw [z9t]; exact List.mem_singleton.2 rfl,rfl⟩)
  | seq b h ih=>
    constructor
    · intro h x hx;simp [is] at h;obtain ⟨p,hp,q,hq,rfl⟩:=y9w.1 hx;exact (ih.1 h.1 p hp).imp (fun k=>y9w.2 ⟨p,k,q,hq,rfl⟩) (fun k=>y9w.2 ⟨p,k,q,hq,rfl⟩)
    · intro h z hz;simp [is] at h;obtain ⟨x,hx,hz⟩:=y6k.1 hz;exact (ih.2 h.1 x hx).imp (fun k=>y6k.2 ⟨x,k,hz⟩) (fun k=>y6k.2 ⟨x,k,hz⟩)
  | hand b h ih=>
    refine ⟨fun h x hx=>?_,fun h=>by simp [is] at h⟩;simp [is] at h;obtain ⟨p,hp,q,hq,rfl⟩:=y0d.1 hx;exact (ih.1 h.1 p hp).imp (fun k=>y0d.2 ⟨p,k,q,hq,rfl⟩) (fun k=>y0d.2 ⟨p,k,q,hq,rfl⟩)
  | going b h ih=>
    refine ⟨fun h=>by simp [is] at h,fun h z hz=>?_⟩;simp [is] at h;obtain ⟨p,hp,hz⟩:=z4n.1 hz;exact (ih.1 h.1 p hp).imp (fun k=>z4n.2 ⟨p,k,hz⟩) (fun k=>z4n.2 ⟨p,k,hz⟩)
  | stack b h ih=>
    refine ⟨fun h=>by simp [is] at h,fun h z hz=>?_⟩;simp [is] at h;obtain ⟨x,hx,c,hc,rfl⟩:=z5p.1 hz;exact (ih.2 h.1 x hx).imp (fun k=>z5p.2 ⟨x,k,c,hc,rfl⟩) (fun k=>z5p.2 ⟨x,k,c,hc,rfl⟩)
  | block h ih=>
    refine ⟨fun h x hx=>?_,fun h=>by simp [is] at h⟩;simp [is] at h;obtain ⟨z,hz,hx⟩:=z4o.1 hx;exact (ih.2 h z hz).imp (fun k=>z4o.2 ⟨z,k,hx⟩) (fun k=>z4o.2 ⟨z,k,hx⟩)
  | parl b h ih=>
    constructor
    · intro h x hx;simp [is] at h;obtain ⟨p,hp,q,hq,hx⟩:=z7a.1 hx;exact (ih.1 h.1 p hp).imp (fun k=>z7a.2 ⟨p,k,q,hq,hx⟩) (fun k=>z7a.2 ⟨p,k,q,hq,hx⟩)
    · intro h z hz;simp [is] at h;obtain ⟨x,hx,y,hy,hz⟩:=z6z.1 hz;exact (ih.2 h.1 x hx).imp (fun k=>z6z.2 ⟨x,k,y,hy,hz⟩) (fun k=>z6z.2 ⟨x,k,y,hy,hz⟩)
  | parr a h ih=>
    constructor
    · intro h x hx;simp [is] at h;obtain ⟨p,hp,q,hq,hx⟩:=z7a.1 hx;exact (ih.1 h.2 q hq).imp (fun k=>z7a.2 ⟨p,hp,q,k,hx⟩) (fun k=>z7a.2 ⟨p,hp,q,k,hx⟩)
    · intro h z hz;simp [is] at h;obtain ⟨x,hx,y,hy,hz⟩:=z6z.1 hz;exact (ih.2 h.2 y hy).imp (fun k=>z6z.2 ⟨x,hx,y,k,hz⟩) (fun k=>z6z.2 ⟨x,hx,y,k,hz⟩)
theorem mv_rng:∀ (t:Tm) (d:Bool) (i:Nat),∀ m∈mvs d t i,i≤m.p∧m.p<i+sz t:=by
  intro t d i m hm;obtain ⟨pre,s,post,u,e1,e2,_,_⟩:=y1o t d i m hm;have h:=congrArg List.length e1;have:=z0e s;simp only [List.length_append,Se.flat_len] at h;omega
theorem mvs_two:∀ (t:Tm) (d:Bool) (i:Nat),∀ m∈mvs d t i,∀ n∈mvs d t i,m.p=n.p→m.h≠n.h→(m.l=none∧n.l=none)∧(Two t m.r n.r∨Two t n.r m.r):=by
  intro t
  induction t with
  | act s=>intro d i m hm n hn _ hh; simp only [mvs,List.mem_singleton] at hm hn; rw [hm,hn] at hh; exact absurd rfl hh
  | alt a b=>
    intro d i m hm n hn _ hh;simp only [mvs,List.mem_cons,List.not_mem_nil,or_false] at hm hn
    rcases hm with rfl | rfl <;> rcases hn with rfl | rfl
    · exact absurd rfl hh
    · exact ⟨⟨rfl,rfl⟩,.inl (.alt a b)⟩
    · exact ⟨⟨rfl,rfl⟩,.inr (.alt a b)⟩
    · exact absurd rfl hh
  | yield=>
    intro d i m hm n hn _ hh
    cases d <;> simp only [mvs,List.mem_cons,List.not_mem_nil,or_false,if_true,Bool.false_eq_true,if_false] at hm hn
    · rw [hm,hn] at hh; exact absurd rfl hh
    · rcases hm with rfl | rfl <;> rcases hn with rfl | rfl
      · exact absurd rfl hh
      · exact ⟨⟨rfl,rfl⟩,.inl .yield⟩
      · exact ⟨⟨rfl,rfl⟩,.inr .yield⟩
      · exact absurd rfl hh
  | pair a b=>
    intro d i m hm n hn _ hh
    cases d <;> simp only [mvs,List.mem_cons,List.not_mem_nil,or_false,if_true,Bool.false_eq_true,if_false] at hm hn
    · rw [hm,hn] at hh; exact absurd rfl hh
    · rcases hm with rfl | rfl <;> rcases hn with rfl | rfl
      · exact absurd rfl hh
      · exact ⟨⟨rfl,rfl⟩,.inl (.pair a b)⟩
      · exact ⟨⟨rfl,rfl⟩,.inr (.pair a b)⟩
      · exact absurd rfl hh
  | seq a b ia ib=>
    intro d i m hm n hn hp hh;obtain ⟨m',hm1,rfl⟩:=List.mem_map.1 hm;obtain ⟨n',hn1,rfl⟩:=List.mem_map.1 hn;obtain ⟨h1,h2⟩:=ia _ _ m' hm1 n' hn1 hp hh;exact ⟨h1,h2.imp (.seq b) (.seq b)⟩
  | hand a b ia ib=>
    intro d i m hm n hn hp hh;obtain ⟨m',hm1,rfl⟩:=List.mem_map.1 hm;obtain ⟨n',hn1,rfl⟩:=List.mem_map.1 hn;obtain ⟨h1,h2⟩:=ia _ _ m' hm1 n' hn1 hp hh;exact ⟨h1,h2.imp (.hand b) (.hand b)⟩
  | going a b ia ib=>
    intro d i m hm n hn hp hh;obtain ⟨m',hm1,rfl⟩:=List.mem_map.1 hm;obtain ⟨n',hn1,rfl⟩:=List.mem_map.1 hn;obtain ⟨h1,h2⟩:=ia _ _ m' hm1 n' hn1 hp hh;exact ⟨h1,h2.imp (.going b) (.going b)⟩
  | stack a b ia ib=>
    intro d i m hm n hn hp hh;obtain ⟨m',hm1,rfl⟩:=List.mem_map.1 hm;obtain ⟨n',hn1,rfl⟩:=List.mem_map.1 hn;obtain ⟨h1,h2⟩:=ia _ _ m' hm1 n' hn1 hp hh;exact ⟨h1,h2.imp (.stack b) (.stack b)⟩
  | block a ia=>
    intro d i m hm n hn hp hh;obtain ⟨m',hm1,rfl⟩:=List.mem_map.1 hm;obtain ⟨n',hn1,rfl⟩:=List.mem_map.1 hn;obtain ⟨h1,h2⟩:=ia _ _ m' hm1 n' hn1 hp hh;exact ⟨h1,h2.imp .block .block⟩
  | par a b ia ib=>
    intro d i m hm n hn hp hh
    have far:∀ {m' n':Mo},m'∈mvs (d||bangT b) a (i+1)→n'∈mvs (d||bangT a) b (i+1+sz a)→m'.p≠n'.p:=fun h1 h2=>by
      have:=mv_rng a _ _ _ h1;have:=mv_rng b _ _ _ h2;omega
    rcases List.mem_append.1 hm with hm | hm <;> rcases List.mem_append.1 hn with hn | hn <;> obtain ⟨m',hm1,rfl⟩:=List.mem_map.1 hm <;> obtain ⟨n',hn1,rfl⟩:=List.mem_map.1 hn
    · obtain ⟨h1,h2⟩:=ia _ _ m' hm1 n' hn1 hp hh;exact ⟨h1,h2.imp (.parl b) (.parl b)⟩
    · exact absurd (show m'.p=n'.p from hp) (far hm1 hn1)
    · exact absurd (show n'.p=m'.p from hp.symm) (far hn1 hm1)
    · obtain ⟨h1,h2⟩:=ib _ _ m' hm1 n' hn1 hp hh;exact ⟨h1,h2.imp (.parr a) (.parr a)⟩
  | _=>intro d i m hm; exact absurd hm (by simp [mvs])
def Enough (L E:List Mv):Prop:=E=L∨∃ x y,E=[x,y]∧x∈L∧y∈L∧x.p=y.p∧x.h≠y.h
theorem Enough.sub {L E:List Mv} (h:Enough L E):∀ m∈E,m∈L:=by
  rcases h with rfl | ⟨x,y,rfl,hx,hy,_⟩
  · exact fun _ h=>h
  · intro m hm;simp only [List.mem_cons,List.not_mem_nil,or_false] at hm
    rcases hm with rfl | rfl
    · exact hx
    · exact hy
theorem Enough.pair {l:List Nd} {k:Nat} (h:k+1<(enR l).length) (hp:((enR l)[k]'(by omega)).p=(enR l)[k+1].p):Enough (enR l) [(enR l)[k]'(by omega),(enR l)[k+1]]:=by
  refine .inr ⟨_,_,rfl,List.getElem_mem _,List.getElem_mem _,hp,fun e=>?_⟩
  rcases up_at h with u | u
  · omega
  · omega
theorem y0m {l:List Nd} {E:List Mv} (hE:Enough (enR l) E) (h:errR l=0) (he:endB l=false) {t:Tr}:t∈MtR l↔∃ m∈E,okM l t m=true:=by
  rw [z5g h he]
  constructor
  · rintro ⟨m,hm,ho⟩
    rcases hE with rfl | ⟨x,y,rfl,hx,hy,hp,hh⟩
    · exact ⟨m,hm,ho⟩
    · have ht:=(z5g h he).2 ⟨m,hm,ho⟩;obtain ⟨h1,h2,h3⟩:=z1r.1 h;obtain ⟨q,rfl,hg,hn⟩:=z0k.1 h2;obtain ⟨mx,kx,rfl⟩:=y0n hg hn hx;obtain ⟨my,ky,rfl⟩:=y0n hg hn hy;obtain ⟨⟨lx,ly⟩,hT⟩:=mvs_two q true 0 mx kx my ky (by have:((mx.p:Nat):Int)=(my.p:Nat):=hp; omega) hh;have f1:=z2u hg.1 hg.2.1 false;simp only [Bool.false_eq_true,if_false] at f1;have hi:is q 3=true:=by rw [← f1]; exact h1
      have hac:ac q≤19:=by rw [← v4f]; have:=(z5w h3).2; omega
      have mt:∀ {mo:Mo},mo∈mvs true q 0→mo.l=none→t∈Mt (flat mo.r)→okM (flat q) t (mvOf mo)=true:=fun {mo} hm hl hx=>by
        obtain ⟨n1,n2,_⟩:=z6v hg hn hm;have hin:=mo_in hg hn hm;obtain ⟨_,l1,_⟩:=z3y hin;have h1:(mvOf mo).h≠1:=fun k=>l1 k (by rw [n2,hl]; rfl)
        unfold okM;rw [show restR t (mvOf mo).h (nxS (flat q) (mvOf mo))=some t from if_pos h1];refine z1p.2 ?_;rw [n1,show MtR (flat (S mo.r))=Mt (flat (S mo.r)) from if_pos (z8d hg h3 (z1r.1 h).1 hm),(S_mean mo.r (by have:=mv_ac q true 0 mo hm; omega)).1 ((v0s q true 0 mo hm).1 hi)];exact hx
      rw [z7q h] at ht
      have two:t∈Mt (flat mx.r)∨t∈Mt (flat my.r):=by
        rcases hT with hT | hT
        · exact hT.means.1 hi t ht
        · exact (hT.means.1 hi t ht).symm
      rcases two with k | k
      · exact ⟨_,List.mem_cons_self ..,mt kx lx k⟩
      · exact ⟨_,List.mem_cons_of_mem _ (List.mem_cons_self ..),mt ky ly k⟩
  · rintro ⟨m,hm,ho⟩;exact ⟨m,hE.sub m hm,ho⟩
theorem ok_gm {l:List Nd} {t:Tr} {m:Mv} (hm:m∈enR l):t∈gM l m↔okM l t m=true:=by
  obtain ⟨_,l1,l2⟩:=z3y hm;unfold gM okM;rw [List.mem_map]
  constructor
  · rintro ⟨u,hu,rfl⟩;rw [(y0v l1 l2).2 rfl];exact z1p.2 hu
  · intro ho
    split at ho
    · cases ho
    · rename_i u hu
      exact ⟨u,z1p.1 ho,((y0v l1 l2).1 hu).symm⟩
theorem x3c {l:List Nd} (h:setB l=true) (he:endB l=false):kn l 0≠11:=by
  obtain ⟨u,rfl,hg,hn⟩:=z0k.1 h;intro hk
  cases u with
  | over s=>cases he
  | _=>exact absurd hk (by first | (show ¬ ((1:Int)=11); decide) | (show ¬ ((2:Int)=11); decide) | (show ¬ ((3:Int)=11); decide) | (show ¬ ((4:Int)=11); decide) | (show ¬ ((5:Int)=11); decide) | (show ¬ ((6:Int)=11); decide) | (show ¬ ((7:Int)=11); decide) | (show ¬ ((8:Int)=11); decide) | (show ¬ ((9:Int)=11); decide) | (show ¬ ((10:Int)=11); decide) | (show ¬ ((12:Int)=11); decide) | (show ¬ ((13:Int)=11); decide) | (show ¬ ((14:Int)=11); decide))
theorem end_mt {l:List Nd} (h:errR l=0) (he:endB l=true):MtR l=[⟨[],sgn l⟩]:=by
  obtain ⟨u,rfl,_,_⟩:=z0k.1 (z1r.1 h).2.1;obtain ⟨s,rfl⟩:=y4f.1 he;rw [z7q h,z0u]
  rfl
theorem x6l {l:List Nd} {E:List Mv} (hE:Enough (enR l) E) (h:errR l=0) (he:endB l=false):norm (E.flatMap (gM l))=MtR l:=by
  obtain ⟨h1,h2,h3⟩:=z1r.1 h;obtain ⟨q1,_,_⟩:=z9w h2 h3 h1 (x3c h2 he);rw [z7q h];obtain ⟨q,rfl,hg,hn⟩:=z0k.1 h2;have f1:=z2u hg.1 hg.2.1 false;simp only [Bool.false_eq_true,if_false] at f1;refine z3w (x7m (by rw [← f1]; exact h1)) fun x=>?_
  rw [← z7q h,y0m hE h he,List.mem_flatMap];exact ⟨fun ⟨m,hm,ho⟩=>⟨m,hm,(ok_gm (hE.sub m hm)).2 ho⟩,fun ⟨m,hm,ho⟩=>⟨m,hm,(ok_gm (hE.sub m hm)).1 ho⟩⟩
theorem x8q {l:List Nd} (h:rightB l=true):∃ t,Se.flat t=l∧Goes t∧is t 1=true:=by
  unfold rightB at h;rw [Bool.and_eq_true,beq_iff_eq] at h;have h1:=h.1;obtain ⟨t,rfl,hg⟩:=z5q (l:=l) (by omega);refine ⟨t,rfl,hg,?_⟩;rw [of_flat hg.1 hg.2.1] at h1
  cases h2:is t 1 with
  | true=>rfl
  | false=>
    rw [h2] at h1;simp only [Bool.false_eq_true,if_false] at h1
    split at h1
    · omega
    · split at h1
      · omega
      · split at h1 <;> omega
theorem v3y {l:List Nd} (h:rightB l=true):RunL (st l):=by
  obtain ⟨t,rfl,hg,h1⟩:=x8q h;rw [y5k hg];exact ⟨_,rfl,hg.S,Run.begin hg.1 h1⟩
theorem trR_end {r:Rn} {s:Int} (h:r.l=[⟨11,⟨#[]⟩,s⟩]):endB r.l=true∧trR r=⟨r.a,s⟩:=by
  have e:endB r.l=true:=by rw [h]; rfl
  refine ⟨e,?_⟩;unfold trR;rw [if_pos e,h]
  rfl
theorem found {l:List Nd} {t:Tr} {ks:List Nat} (h:findR l t=some ks):endB (play l (ks.map Int.ofNat)).l=true∧trR (play l (ks.map Int.ofNat))=t∧(play l (ks.map Int.ofNat)).n=ks.length∧ks.length≤l.length∧errR l=0∧t∈MtR l:=by
  by_cases hc:errR l=0∧t∈MtR l
  · obtain ⟨ks',k1,k2,k3,k4,k5⟩:=z7c hc.1 hc.2;rw [k1] at h
    cases h
    obtain ⟨e1,e2⟩:=trR_end k2;have:=cnt_le l;exact ⟨e1,by rw [e2,k3],k4,by omega,hc.1,hc.2⟩
  · rw [x6k hc] at h
    cases h
theorem v2i {l:List Nd} {t:Tr}:(findR l t).isSome=true↔errR l=0∧t∈MtR l:=by
  constructor
  · intro h
    cases e:findR l t with
    | none=>rw [e] at h; cases h
    | some ks=>exact (found e).2.2.2.2
  · intro h;obtain ⟨ks,k1,_⟩:=z7c h.1 h.2;rw [k1]
    rfl
theorem x9f (l:List Nd) (ps:List Int) (z:Int):(enR (play l ps).l=[]→(play l (ps++[z])).n=(play l ps).n)∧(enR (play l ps).l≠[]→(play l (ps++[z])).n=(play l ps).n+1):=by
  rw [z9l]
  constructor
  · intro h;have e:play (play l ps).l [z]=⟨(play l ps).l,[],0⟩:=z2h [z] (r:=⟨(play l ps).l,[],0⟩) h;rw [e]
    rfl
  · intro h;rw [z2t _ _ _ h,play_nil]
    show (play l ps).n+(1+0)=_
    omega
theorem run_end {l:List Nd} (h:RunL l) (ps:List Int):endB (play l ps).l=true↔enR (play l ps).l=[]:=by
  have hr:=play_run h ps;rw [hr.ended];obtain ⟨t,e,_,_⟩:=hr;rw [e,y4f]
  constructor
  · rintro ⟨s,rfl⟩;exact ⟨s,rfl⟩
  · rintro ⟨s,h2⟩;exact ⟨s,z2d _ _ h2⟩
end Ru
end Go.Proofs.YtpingbiibbmcaaaGreatDoor
