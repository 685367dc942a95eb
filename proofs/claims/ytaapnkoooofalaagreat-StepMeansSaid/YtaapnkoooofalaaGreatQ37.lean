/- Laws that the last text leans on. -/
import Derived.Test.YtaapnkoooofalaaGreatQ36

set_option maxRecDepth 20000
set_option maxHeartbeats 1000000
namespace Go.Proofs.YtaapnkoooofalaaGreat
namespace St
open Go Go.RowKit Rw So Se Do Sp Me
theorem way_of {s u:Tm} {h:Int} {o:Option ByteArray} (k:Made s h o u) (q:List Nd):Way (kn (flat s++q) 0) h∧(kn (flat s++q) 0≠1→kn (flat s++q) 0≠4→(kids (flat s++q)).length=2)∧nmAt (flat s++q) 0=o.getD ⟨#[]⟩:=by
  have two:∀ (n:Nd) (a b:Tm),ar n.k=2→kids ((n::(flat a++flat b))++q)=[flat a,flat b]:=fun n a b hk=>by
    have:=z6n (n:=n) a b q hk;rw [List.cons_append,List.append_assoc];exact this
  cases k with
  | act s=>exact ⟨.inl ⟨rfl,rfl⟩,fun h=>absurd rfl h,rfl⟩
  | altl _ b=>exact ⟨.inr (.inr (.inr (.inl ⟨rfl,rfl⟩))),fun _ _=>by rw [show flat (.alt u b)=nOf 6::(flat u++flat b) from rfl,two _ _ _ rfl]; rfl,rfl⟩
  | altr a _=>exact ⟨.inr (.inr (.inr (.inr (.inl ⟨rfl,rfl⟩)))),fun _ _=>by rw [show flat (.alt a u)=nOf 6::(flat a++flat u) from rfl,two _ _ _ rfl]; rfl,rfl⟩
  | yieldg=>exact ⟨.inr (.inl ⟨rfl,rfl⟩),fun _ h=>absurd rfl h,rfl⟩
  | yields=>exact ⟨.inr (.inr (.inl ⟨rfl,rfl⟩)),fun _ h=>absurd rfl h,rfl⟩
  | pairg a b=>exact ⟨.inr (.inr (.inr (.inr (.inr (.inl ⟨rfl,rfl⟩))))),fun _ _=>by rw [show flat (.pair a b)=nOf 10::(flat a++flat b) from rfl,two _ _ _ rfl]; rfl,rfl⟩
  | pairs a b=>exact ⟨.inr (.inr (.inr (.inr (.inr (.inr ⟨rfl,rfl⟩))))),fun _ _=>by rw [show flat (.pair a b)=nOf 10::(flat a++flat b) from rfl,two _ _ _ rfl]; rfl,rfl⟩
theorem kids_sum (l:List Nd):(kids l).flatten.length≤l.length:=by
  by_cases h:size l=0
  · rw [show kids l=[] from if_pos h]; simp
  · cases l with
    | nil=>exact absurd rfl h
    | cons n r=>
      have:=congrArg List.length (z6l h);rw [List.length_cons,List.length_take] at this;omega
theorem put_at (l:List Nd) (q:Nat) (x:List Nd) (hq:q<l.length):putR l (q:Int) x=putN l q x:=if_neg (by omega)
theorem nextP_no (v:Value) (l:List Nd) (m:Mv) (w:World) (hv:Nds w v l) (hl:l.length≤1000) (hm:Nms l) (h0:m∉enR l) :
    Calls Tryz.prog 7 #[v,mvV m] w fun e w'=>∃ y,e=.returned (.tuple #[y,.string (nxS l m),.int .i64 (nxE l m)])∧Nds w' y (nxL l m)∧Below w.heap.size w w':=by
  rw [show nxL l m=[] from if_neg h0,show nxS l m=⟨#[]⟩ from if_neg fun h=>h0 h.1,show nxE l m=120 from if_neg h0];have HI:=Lib.hid (fun w1 (hb:Below w.heap.size w w1)=>y3p v l m w1 (hv.below hb) hl hm);rw [decide_eq_false h0] at HI;have D0:=Lib.hid (z0f w (.cells #[.int .i64 m.p,.int .i64 m.h] 24));obtain ⟨mp,mh⟩:=m;obtain ⟨_,a,c,rfl,-⟩:=id hv;clear hv hm h0
  go_enter Tryz.func7,Tryz.ntmps7
  go_wp2_with fail;refine (HI.out _ D0.out).mono ?_;rintro e w1 ⟨rfl,hb⟩;have D:=Lib.hid (D0.out.trans (hb.mono D0.out.size));clear hb;go_wp2_with fail
  go_ret3
  exact ⟨_,rfl,nds_nil _,D.out⟩
theorem x2t (v:Value) (l:List Nd) (m:Mv) (w:World) (hv:Nds w v l) (hl:l.length≤1000) (hm:Nms l) (h0:¬ (m∈enR l∧m.h=1)) :
    Calls Tryz.prog 9 #[v,mvV m] w fun e w'=>∃ y,e=.returned (.tuple #[y,.int .i64 (rfE l m)])∧Nds w' y (rfL l m)∧Below w.heap.size w w':=by
  rw [show rfL l m=[] from if_neg h0,show rfE l m=120 from if_neg h0];have HI:=Lib.hid (fun w1 (hb:Below w.heap.size w w1)=>y3p v l m w1 (hv.below hb) hl hm);have D0:=Lib.hid (z0f w (.cells #[.int .i64 m.p,.int .i64 m.h] 24));have CM:=Lib.hid (z6u (Bm.new w m));obtain ⟨_,a,c,rfl,-⟩:=id hv;obtain ⟨mp,mh⟩:=m;obtain ⟨c0,c1⟩:=CM.out _ (Below.refl _ _);change (w.alloc (.cells #[.int .i64 mp,.int .i64 mh] 24)).cell? ⟨w.heap.size,0,none⟩=some (.int .i64 mp) at c0;change (w.alloc (.cells #[.int .i64 mp,.int .i64 mh] 24)).cell? ⟨w.heap.size,1,none⟩=some (.int .i64 mh) at c1
  by_cases h1:mh=1
  · have h2:(⟨mp,mh⟩:Mv)∉enR l:=fun h=>h0 ⟨h,h1⟩
    rw [decide_eq_false h2] at HI;subst h1;clear hv hm h0 h2 CM
    go_enter Tryz.func9,Tryz.ntmps9
    go_wp2_with fail;refine (HI.out _ D0.out).mono ?_;rintro e w1 ⟨rfl,hb⟩;have D:=Lib.hid (D0.out.trans (hb.mono D0.out.size));clear hb;go_wp2_with fail;go_ret2;exact ⟨_,rfl,nds_nil _,D.out⟩
  · clear hv hm h0 CM HI;have hb:(mh != 1)=true:=bne_iff_ne.2 h1
    go_enter Tryz.func9,Tryz.ntmps9
    go_wp2_with fail;go_ret2;exact ⟨_,rfl,nds_nil _,D0.out⟩
theorem x7q (v:Value) (l:List Nd) (m:Mv) (w:World) (hv:Nds w v l) (hl:l.length≤1000) (hm:Nms l) :
    Calls Tryz.prog 7 #[v,mvV m] w fun e w'=>∃ y,e=.returned (.tuple #[y,.string (nxS l m),.int .i64 (nxE l m)])∧Nds w' y (nxL l m)∧Below w.heap.size w w':=by
  by_cases h0:m∈enR l
  · obtain ⟨t,rfl,hg,hn⟩:=x1k h0;obtain ⟨mo,h1,rfl⟩:=x3y hg hn h0;obtain ⟨n1,n2,n3⟩:=nx_of hg hn h1;have hI:=fun w1 (hb:Below w.heap.size w w1)=>y3p v (flat t) (mvOf mo) w1 (hv.below hb) hl hm
    rw [decide_eq_true h0] at hI;obtain ⟨pre,s,post,u,e1,e2,e3,hmd⟩:=y5j t true 0 mo h1;obtain ⟨p1,p2⟩:=y2v pre (flat s) post (flat u) (z0k s);have hr:=y3i hg h1;have ht:=hg.2.1;have hr2:=hr.2.1;have l1:=congrArg List.length e1;have l3:=congrArg List.length e3;rw [Se.flat_len] at l1 l3;simp only [List.length_append,Se.flat_len] at l1 l3;have hq:pre.length<(flat t).length:=by rw [Se.flat_len,l1]; have:=z0l s; omega
    have e2':mo.p=pre.length:=by omega
    have ev:mvV (mvOf mo)=.agg #[.int .i64 (pre.length:Int),.int .i64 mo.h]:=by
      show Value.agg #[.int .i64 (mo.p:Int),.int .i64 mo.h]=_
      rw [e2']
    rw [n1,n2,n3,ev];rw [ev] at hI;obtain ⟨w1,w2,w3⟩:=way_of hmd post;have d1:(flat t).drop pre.length=flat s++post:=by rw [e1]; exact p2
    have pR:putR (flat t) (pre.length:Int) (flat u)=flat mo.r:=by rw [put_at _ _ _ hq,e1,p1,← e3]
    have hX:mdK (kids ((flat t).drop pre.length)) (kn (flat s++post) 0) mo.h=flat u:=by
      rw [d1,← mdR_K];exact x8i hmd post
    have hget:(flat t)[pre.length]?=(flat s++post)[0]?:=by
      rw [e1,List.getElem?_append_right (Nat.le_refl _),Nat.sub_self]
    have hk:(flat t)[pre.length].k=kn (flat s++post) 0∧(flat t)[pre.length].n=nmAt (flat s++post) 0:=by
      rw [List.getElem?_eq_getElem hq] at hget
      constructor
      · unfold kn;rw [show ((0:Int)).toNat=0 from rfl,← hget]
      · unfold nmAt;rw [← hget]
    rcases hv.form with ⟨hz,_⟩ | ⟨b,o,c,rfl,hc,hat⟩
    · rw [hz] at hq; simp at hq
    have hA:=at_keep hat pre.length hq;rw [hk.1,hk.2,w3] at hA;refine x7p b o c (flat t).length pre.length (kn (flat s++post) 0) mo.h (mo.l.getD ⟨#[]⟩) (kids ((flat t).drop pre.length)) (flat u) _ w hq hA hI ?_ ?_
    · intro wx
      have:=done_any (kn (flat s++post) 0) mo.h w1 (kids ((flat t).drop pre.length)) wx (by rw [d1]; exact w2) (by
        have:=kids_sum ((flat t).drop pre.length);rw [List.length_drop] at this;omega)
      rwa [hX] at this
    · intro wx f hb hf;have:=y6z _ f (flat t) (flat u) pre.length wx (hv.below hb) (by rw [Se.flat_len]; omega) (by rw [Se.flat_len]; omega) hq hf (by rw [pR]; exact z3h hr.1) (by rw [pR,Se.flat_len]; omega)
      rwa [pR,y4s hr] at this
  · exact nextP_no v l m w hv hl hm h0
theorem y7r (v:Value) (l:List Nd) (m:Mv) (w:World) (hv:Nds w v l) (hl:l.length≤1000) (hm:Nms l) :
    Calls Tryz.prog 9 #[v,mvV m] w fun e w'=>∃ y,e=.returned (.tuple #[y,.int .i64 (rfE l m)])∧Nds w' y (rfL l m)∧Below w.heap.size w w':=by
  by_cases h0:m∈enR l∧m.h=1
  · have h0':=h0.1;obtain ⟨t,rfl,hg,hn⟩:=x1k h0';obtain ⟨mo,h1,rfl⟩:=x3y hg hn h0';have hh:mo.h=1:=h0.2;obtain ⟨n1,n2⟩:=rf_of hg hn h1 hh;have hI:=fun w1 (hb:Below w.heap.size w w1)=>y3p v (flat t) (mvOf mo) w1 (hv.below hb) hl hm
    rw [decide_eq_true h0'] at hI;obtain ⟨s,hs,_,hp,_⟩:=refused hn h1 hh;obtain ⟨pre,post,e1,e2⟩:=y2y t 0 mo.p hp;have hsub:=z7x t 0 mo.p hp;have et:flat t=pre++(flat (sub t 0 mo.p)++post):=by rw [← e2,hsub]
    have hr:=x6l hg hp hs;have ht:=hg.2.1;have hr2:=hr.2.1;have l1:=congrArg List.length et;rw [Se.flat_len] at l1;simp only [List.length_append,Se.flat_len] at l1;have hq:pre.length<(flat t).length:=by rw [Se.flat_len,l1]; have:=z0l (sub t 0 mo.p); omega
    have e2':mo.p=pre.length:=by omega
    have ev:mvV (mvOf mo)=.agg #[.int .i64 (pre.length:Int),.int .i64 1]:=by
      show Value.agg #[.int .i64 (mo.p:Int),.int .i64 mo.h]=_
      rw [e2',hh]
    rw [n1,n2,ev];rw [ev] at hI
    have pR:putR (flat t) (pre.length:Int) [nOf 3]=flat (plug t 0 mo.p .throw):=by
      rw [put_at _ _ _ hq];have:=(y2v pre (flat (sub t 0 mo.p)) post [nOf 3] (z0k _)).1;rw [← et] at this;rw [this];exact (e2 .throw).symm
    rcases hv.form with ⟨hz,_⟩ | ⟨b,o,c,rfl,hc,hat⟩
    · rw [hz] at hq; simp at hq
    refine y7q b o c (flat t).length pre.length (kids ((flat t).drop pre.length)) _ w hI ?_;intro wx f hb hf;have:=y6z _ f (flat t) [nOf 3] pre.length wx (hv.below hb) (by rw [Se.flat_len]; omega) (by simp) hq hf (by rw [pR]; exact z3h hr.1) (by rw [pR,Se.flat_len]; omega)
    rwa [pR,y4s hr] at this
  · exact x2t v l m w hv hl hm h0
theorem con:Con:=⟨x0e,x7q,y7r⟩
end St
end Go.Proofs.YtaapnkoooofalaaGreat
