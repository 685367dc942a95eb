/- Laws that the last text leans on. -/
import Derived.Test.YtaapnkoooofalaaGreatQ27

set_option maxRecDepth 20000
set_option maxHeartbeats 4000000
namespace Go.Proofs.YtaapnkoooofalaaGreat
namespace Do
open Go Rw So Se
noncomputable def setB (l:List Nd):Bool:=decide (0<l.length)&&sameN (st l) l
theorem z1c {l:List Nd}:setB l=true↔∃ t,flat t=l∧Goes t∧Nf t:=by
  unfold setB sameN;rw [Bool.and_eq_true,decide_eq_true_eq,decide_eq_true_eq]
  constructor
  · rintro ⟨h0,h⟩;have hn:st l≠[]:=fun e=>by rw [e] at h; rw [← h] at h0; simp at h0
    obtain ⟨t,rfl,hg,e⟩:=st_some hn;rw [e] at h;have:=z4a _ _ h;exact ⟨t,rfl,hg,by rw [← this]; exact S_nf t⟩
  · rintro ⟨t,rfl,hg,hn⟩;exact ⟨by rw [Se.flat_len]; exact z0l t,by rw [y4s hg,nf_S t hn]⟩
theorem y5b {t:Tm} (hg:Goes t):setB (flat t)=true↔Nf t:=by
  rw [z1c]
  constructor
  · rintro ⟨u,e,_,h⟩;rw [← z4a _ _ e]; exact h
  · intro h; exact ⟨t,rfl,hg,h⟩
noncomputable def av (l:List Nd):List Int:=if h:setB l=true then (wt (z1c.1 h).choose 0).map Int.ofNat else []
theorem av_go {t:Tm} (hg:Goes t) (hn:Nf t):av (flat t)=(wt t 0).map Int.ofNat:=by
  have h:setB (flat t)=true:=(y5b hg).2 hn;unfold av;rw [dif_pos h,z4a _ _ (z1c.1 h).choose_spec.1]
theorem y9k {l:List Nd} (h:setB l=false):av l=[]:=dif_neg (by rw [h]; simp)
noncomputable def dm (l:List Nd):Bool:=if h:setB l=true then bangT (z1c.1 h).choose else false
theorem dm_go {t:Tm} (hg:Goes t) (hn:Nf t):dm (flat t)=bangT t:=by
  have h:setB (flat t)=true:=(y5b hg).2 hn;unfold dm;rw [dif_pos h,z4a _ _ (z1c.1 h).choose_spec.1]
theorem dm_no {l:List Nd} (h:setB l=false):dm l=false:=dif_neg (by rw [h]; simp)
noncomputable def bs (l:List Nd) (p:Int):List (List Nd):=if h:setB l=true∧p∈av l then (pth (z1c.1 h.1).choose 0 p.toNat).1.map flat else []
noncomputable def fr (l:List Nd) (p:Int):Bool:=if h:setB l=true∧p∈av l then (!(pth (z1c.1 h.1).choose 0 p.toNat).2)||(pth (z1c.1 h.1).choose 0 p.toNat).1.any bangT else false
theorem y1f {t:Tm} (hg:Goes t) (hn:Nf t) {p:Int}:p∈av (flat t)↔∃ k∈wt t 0,p=(k:Int):=by
  rw [av_go hg hn,List.mem_map];exact ⟨fun ⟨k,h,e⟩=>⟨k,h,e.symm⟩,fun ⟨k,h,e⟩=>⟨k,h,e.symm⟩⟩
theorem bs_go {t:Tm} (hg:Goes t) (hn:Nf t) {k:Nat} (hk:k∈wt t 0):bs (flat t) (k:Int)=(pth t 0 k).1.map flat:=by
  have h:setB (flat t)=true∧(k:Int)∈av (flat t):=⟨(y5b hg).2 hn,(y1f hg hn).2 ⟨k,hk,rfl⟩⟩
  unfold bs;rw [dif_pos h,z4a _ _ (z1c.1 h.1).choose_spec.1]
  rfl
theorem fr_go {t:Tm} (hg:Goes t) (hn:Nf t) {k:Nat} (hk:k∈wt t 0):fr (flat t) (k:Int)=((!(pth t 0 k).2)||(pth t 0 k).1.any bangT):=by
  have h:setB (flat t)=true∧(k:Int)∈av (flat t):=⟨(y5b hg).2 hn,(y1f hg hn).2 ⟨k,hk,rfl⟩⟩
  unfold fr;rw [dif_pos h,z4a _ _ (z1c.1 h.1).choose_spec.1]
  rfl
theorem bs_no {l:List Nd} {p:Int} (h:p∉av l):bs l p=[]:=dif_neg fun k=>h k.2
theorem fr_no {l:List Nd} {p:Int} (h:p∉av l):fr l p=false:=dif_neg fun k=>h k.2
theorem x0g:∀ (t:Tm) (i p:Nat),p∈wt t i→Goes t→Nf t→∀ u∈(pth t i p).1,Goes u∧Nf u:=by
  intro t
  induction t with
  | act s=>intro i p _ _ _ u hu; simp [pth] at hu
  | skip=>intro i p h; simp [wt] at h
  | throw=>intro i p h; simp [wt] at h
  | yield=>intro i p _ _ _ u hu; simp [pth] at hu
  | over s=>intro i p h; simp [wt] at h
  | fin s c ic=>intro i p h; simp [wt] at h
  | alt a b ia ib=>intro i p h _ _ u hu; simp only [wt,List.mem_singleton] at h; subst h; simp [pth] at hu
  | pair a b ia ib=>intro i p h _ _ u hu; simp only [wt,List.mem_singleton] at h; subst h; simp [pth] at hu
  | block a ia=>
    intro i p h hg hn u hu;have hin:=z0q a _ _ h;obtain ⟨g1,g2,g3⟩:=hg;rw [z3f] at g1;simp only [sz] at g2;simp [is] at g3;rw [pth,if_neg (by omega)] at hu;exact ia _ _ h ⟨g1,by omega,.inr g3⟩ hn.1 u hu
  | seq a b ia ib=>
    intro i p h hg hn u hu;have hin:=z0q a _ _ h;obtain ⟨g1,g2,g3⟩:=hg;rw [z7n,Bool.and_eq_true] at g1;simp only [sz] at g2;simp [is] at g3;rw [pth,if_neg (by omega),if_pos hin.2] at hu;exact ia _ _ h ⟨g1.1,by omega,g3.imp (·.1) (·.1)⟩ hn.1 u hu
  | hand a b ia ib=>
    intro i p h hg hn u hu;have hin:=z0q a _ _ h;obtain ⟨g1,g2,g3⟩:=hg;rw [z5s,Bool.and_eq_true] at g1;simp only [sz] at g2;simp [is] at g3;rw [pth,if_neg (by omega),if_pos hin.2] at hu;exact ia _ _ h ⟨g1.1,by omega,.inl g3.1⟩ hn.1 u hu
  | going a b ia ib=>
    intro i p h hg hn u hu;have hin:=z0q a _ _ h;obtain ⟨g1,g2,g3⟩:=hg;rw [z3w,Bool.and_eq_true] at g1;simp only [sz] at g2;simp [is] at g3;rw [pth,if_neg (by omega),if_pos hin.2] at hu;exact ia _ _ h ⟨g1.1,by omega,.inl g3.1⟩ hn.1 u hu
  | stack a b ia ib=>
    intro i p h hg hn u hu;have hin:=z0q a _ _ h;obtain ⟨g1,g2,g3⟩:=hg;rw [z3v,Bool.and_eq_true] at g1;simp only [sz] at g2;simp [is] at g3;rw [pth,if_neg (by omega),if_pos hin.2] at hu;exact ia _ _ h ⟨g1.1,by omega,.inr g3.1⟩ hn.1 u hu
  | par a b ia ib=>
    intro i p h hg hn u hu;obtain ⟨g1,g2,g3⟩:=hg;rw [z4h,Bool.and_eq_true] at g1;simp only [sz] at g2;have ga:Goes a:=⟨g1.1,by omega,by simp [is] at g3; exact g3.imp (·.1) (·.1)⟩
    have gb:Goes b:=⟨g1.2,by omega,by simp [is] at g3; exact g3.imp (·.2) (·.2)⟩
    rcases List.mem_append.1 h with h | h
    · have hin:=z0q a _ _ h;rw [pth,if_neg (by omega),if_pos hin.2] at hu
      split at hu
      · exact ia _ _ h ga hn.1 u hu
      · rcases List.mem_append.1 hu with hu | hu
        · exact ia _ _ h ga hn.1 u hu
        · rw [List.mem_singleton] at hu; subst hu; exact ⟨gb,hn.2.1⟩
    · have hin:=z0q b _ _ h;rw [pth,if_neg (by omega),if_neg (by omega)] at hu
      split at hu
      · exact ib _ _ h gb hn.2.1 u hu
      · rcases List.mem_append.1 hu with hu | hu
        · exact ib _ _ h gb hn.2.1 u hu
        · rw [List.mem_singleton] at hu; subst hu; exact ⟨ga,hn.1⟩
theorem wt_few:∀ (t:Tm) (i:Nat),(wt t i).length≤sz t:=by
  intro t
  induction t with
  | par a b ia ib=>intro i; simp only [wt,List.length_append,sz]; have:=ia (i+1); have:=ib (i+1+sz a); omega
  | seq a b ia ib=>intro i; simp only [wt,sz]; have:=ia (i+1); omega
  | hand a b ia ib=>intro i; simp only [wt,sz]; have:=ia (i+1); omega
  | going a b ia ib=>intro i; simp only [wt,sz]; have:=ia (i+1); omega
  | stack a b ia ib=>intro i; simp only [wt,sz]; have:=ia (i+1); omega
  | block a ia=>intro i; simp only [wt,sz]; have:=ia (i+1); omega
  | _=>intro i; simp [wt,sz]
theorem v1j (l:List Nd):(av l).length≤l.length:=by
  cases h:setB l with
  | false=>rw [y9k h]; exact Nat.zero_le _
  | true=>
    obtain ⟨t,rfl,hg,hn⟩:=z1c.1 h;rw [av_go hg hn,List.length_map,Se.flat_len];exact wt_few t 0
theorem av_in {l:List Nd} {p:Int} (h:p∈av l):0≤p∧p<l.length:=by
  cases hs:setB l with
  | false=>rw [y9k hs] at h; cases h
  | true=>
    obtain ⟨t,rfl,hg,hn⟩:=z1c.1 hs;obtain ⟨k,hk,rfl⟩:=(y1f hg hn).1 h;have:=z0q t 0 k hk;rw [Se.flat_len];omega
end Do
namespace Mn
open Go Go.RowKit Tr
theorem x2w (T:TCon) (ok:Nat→Prop) (bx:Nat) (v1 v2 u1 u2:Value) (x y:Pr) (w:World) (hb:BoxP w bx v1 x.p.e v2 x.q.e) (h1:StrsO ok w v1 x.p.a) (h2:StrsO ok w v2 x.q.a) (h3:StrsO ok w u1 y.p.a) (h4:StrsO ok w u2 y.q.a)
    (l1:x.p.a.length+y.p.a.length≤1000000) (l2:y.q.a.length+x.q.a.length≤1000000) :
    Calls Tryz.prog 202 #[.agg #[u1,.int .i64 y.p.e,u2,.int .i64 y.q.e],.pointer (some ⟨bx,0,none⟩)] w (OutP ok [⟨thn x.p y.p,thn y.q x.q⟩] w):=by
  have HB:=Lib.hid (fun o=>bel1 w o);have T1:=Lib.hid (fun w1 (hb:Below w.heap.size w w1)=>T.cThn v1 u1 x.p y.p w1 (z1z (z0e h1 hb)) (z1z (z0e h3 hb)) l1);have T2:=Lib.hid (fun w1 (hb:Below w.heap.size w w1)=>T.cThn u2 v2 y.q x.q w1 (z1z (z0e h4 hb)) (z1z (z0e h2 hb)) l2);have hlt:=Ap.z0a hb.1;have HX:=Lib.hid (fun w1 (hb1:Below w.heap.size w w1)=>hb.below hb1);obtain ⟨_,a1,k1,rfl,_⟩:=h1;obtain ⟨_,a2,k2,rfl,_⟩:=h2;obtain ⟨_,b1,m1,rfl,_⟩:=h3;obtain ⟨_,b2,m2,rfl,_⟩:=h4;generalize thn x.p y.p=s at *;generalize thn y.q x.q=t at *
  go_enter Tryz.func202,Tryz.ntmps202
  go_wp2_with fail;have XA:=Lib.hid (fun o=>HX.out _ (HB.out o).drew)
  go_region_held3 (fun w'=>w'.cell? ⟨bx,0,none⟩=some (.slice a1 x.p.a.length k1)∧w'.cell? ⟨bx,1,none⟩=some (.int .i64 x.p.e)∧w'.cell? ⟨bx,2,none⟩=some (.slice a2 x.q.a.length k2)∧w'.cell? ⟨bx,3,none⟩=some (.int .i64 x.q.e)∧w'.cell? ⟨w.heap.size,0,none⟩=some (.slice b1 y.p.a.length m1)∧w'.cell? ⟨w.heap.size,1,none⟩=some (.int .i64 y.p.e)∧w'.cell? ⟨w.heap.size,2,none⟩=some (.slice b2 y.q.a.length m2)∧w'.cell? ⟨w.heap.size,3,none⟩=some (.int .i64 y.q.e)) (first | exact ⟨(XA.out _).1,(XA.out _).2.1,(XA.out _).2.2.1,(XA.out _).2.2.2,by simp [go_sem],by simp [go_sem],by simp [go_sem],by simp [go_sem]⟩ | exact ⟨x1.1,x1.2.1,x1.2.2.1,x1.2.2.2,kz.1,kz.2.1,kz.2.2.1,kz.2.2.2⟩ | exact ⟨x2.1,x2.2.1,x2.2.2.1,x2.2.2.2,ky.1,ky.2.1,ky.2.2.1,ky.2.2.2⟩ | exact ⟨(x3 _).1,(x3 _).2.1,(x3 _).2.2.1,(x3 _).2.2.2,(k3 _).1,(k3 _).2.1,(k3 _).2.2.1,(k3 _).2.2.2⟩ | fail) (first
    | (go_at_call 173
       (with_reducible refine (T1.out _ (HB.out _).drew).mono ?_)
       rintro e w1 ⟨v3,rfl,hm,hb1⟩;have kz:BoxP w1 w.heap.size (.slice b1 y.p.a.length m1) y.p.e (.slice b2 y.q.a.length m2) y.q.e:=BoxP.below ⟨by simp [go_sem],by simp [go_sem],by simp [go_sem],by simp [go_sem]⟩ hb1;have B1:=Lib.hid (((HB.out _).drew).trans (hb1.mono (HB.out _).drew.size));have x1:=HX.out _ B1.out;have M1:=Lib.hid (z0x hm.1 (ok':=fun b=>ok b∨w.heap.size≤b) fun b _ h=>.inr (Nat.le_trans (HB.out _).drew.size h));obtain ⟨⟨_,a3,n3,rfl,_⟩,_⟩:=hm;clear hb1)
    | (go_at_call 173
       (with_reducible refine (T2.out _ B1.out).mono ?_)
       rintro e w2 ⟨v4,rfl,hm,hb2⟩;have ky:=BoxP.below kz hb2;have B2:=Lib.hid (B1.out.trans (hb2.mono B1.out.size));have x2:=HX.out _ B2.out;have k3:=fun o=>BoxP.below ky (bel1 w2 o)
       have x3:=fun o=>BoxP.below x2 (bel1 w2 o)
       have M1':=Lib.hid (z0e M1.out hb2);have M2:=Lib.hid (z0x hm.1 (ok':=fun b=>ok b∨w.heap.size≤b) fun b _ h=>.inr (Nat.le_trans B1.out.size h));obtain ⟨⟨_,a4,n4,rfl,_⟩,_⟩:=hm;clear hb2)
    | fail)
  go_wp2_with fail;go_ret;exact ⟨_,_,rfl,x6s (by simp [go_sem]) (by simp [go_sem]) (by simp [go_sem]) (by simp [go_sem]) (.inr B2.out.size) (z0e M1'.out (bel1 _ _)) (z0e M2.out (bel1 _ _)),B2.out.alloc B2.out.size _⟩
theorem x6r (T:TCon) (ok:Nat→Prop) (v1 v2 y:Value) (x:Pr) (Y:List Pr) (w:World) (h1:StrsO ok w v1 x.p.a) (h2:StrsO ok w v2 x.q.a) (hy:PsO ok w y Y) (hlen:Y.length≤1000000000000) (hrow:∀ t∈Y,x.p.a.length+t.p.a.length≤1000000∧t.q.a.length+x.q.a.length≤1000000) :
    Calls Tryz.prog 168 #[.agg #[v1,.int .i64 x.p.e,v2,.int .i64 x.q.e],y] w (OutP ok (seq1 Y x) w):=by
  have eg:∀ args w,(callFunc 202 args).run Tryz.prog w=.ok (.enter 202 args) w:=enters_of Tryz.func202 (by kernel_rfl) rfl
  by_cases e1:x.p.e=1
  · have hL:seq1 Y x=Y.flatMap fun t=>[⟨thn x.p t.p,thn t.q x.q⟩]:=by unfold seq1; rw [if_pos e1,z5f]
    rw [hL];have hfl:(Y.flatMap fun t=>[(⟨thn x.p t.p,thn t.q x.q⟩:Pr)]).length=Y.length:=by rw [← z5f,List.length_map]
    have C:=Lib.hid (fun ty=>y6e 202 #[.pointer (some ⟨w.heap.size,0,none⟩)] eg ok y Y (fun t=>[⟨thn x.p t.p,thn t.q x.q⟩]) (w.alloc (.cells #[v1,.int .i64 x.p.e,v2,.int .i64 x.q.e] ty)) (hy.below (bel1 _ _))
      (fun wr hb t ht a a' ha ha'=>x2w T _ w.heap.size v1 v2 a a' x t wr (BoxP.below (x1u _ _ _ _ _ _) hb) (z0e (z0e (z0x h1 fun b hlt h=>⟨h,by simp; omega⟩) (bel1 _ _)) hb) (z0e (z0e (z0x h2 fun b hlt h=>⟨h,by simp; omega⟩) (bel1 _ _)) hb) ha ha' (hrow t ht).1 (hrow t ht).2) hlen (by rw [hfl]; exact hlen))
    generalize (Y.flatMap fun t=>[(⟨thn x.p t.p,thn t.q x.q⟩:Pr)])=L at C ⊢;rw [e1] at C ⊢;obtain ⟨_,a1,k1,rfl,_⟩:=h1;obtain ⟨_,a2,k2,rfl,_⟩:=h2;obtain ⟨_,⟨_,a3,k3,rfl,_⟩,_⟩:=hy;clear hfl hL e1
    go_enter Tryz.func168,Tryz.ntmps168
    go_wp2_with fail;refine (C.out _).mono ?_;intro e w2 ho;have HO:=Lib.hid (ho.up (bel1 w _) fun b h=>.inl h);obtain ⟨a4,k4,rfl,_,_⟩:=ho;go_wp2_with fail;go_ret;exact HO.out
  · have hL:seq1 Y x=[x]:=if_neg e1;have hne:(x.p.e != 1)=true:=by simp [e1]
    rw [hL];have H1:=Lib.hid h1;have H2:=Lib.hid h2;obtain ⟨_,a1,k1,rfl,_⟩:=h1;obtain ⟨_,a2,k2,rfl,_⟩:=h2;obtain ⟨_,⟨_,a3,k3,rfl,_⟩,_⟩:=hy;unfold OutP
    go_enter Tryz.func168,Tryz.ntmps168
    go_wp2_with fail;go_ret;refine ⟨_,_,rfl,x6s (by simp [go_sem]) (by simp [go_sem]) (by simp [go_sem]) (by simp [go_sem]) (.inr (by omega)) (z0e (z0x H1.out fun _ _ h=>.inl h) (bel2 _ _ _)) (z0e (z0x H2.out fun _ _ h=>.inl h) (bel2 _ _ _)),bel2 _ _ _⟩
def OwnP (ok:Nat→Prop) (l:List Pr) (w:World) (e:Ending) (w':World):Prop:=
  ∃ a c cs,e=.returned (.slice a l.length c)∧w'.ownsRow w.heap.size 97 4 (.slice a l.length c) l.length cs∧Cl (EP (Apart (fun b=>ok b∨w.heap.size≤b) (.slice a l.length c)) w') 4 l cs∧Below w.heap.size w w'
theorem OwnP.up {ok ok':Nat→Prop} {l:List Pr} {w w1 w2:World} {e:Ending} (h:OwnP ok' l w1 e w2) (hb:Below w.heap.size w w1) (hi:∀ b,ok' b→ok b∨w.heap.size≤b):OwnP ok l w e w2:=by
  obtain ⟨a,c,cs,rfl,ho,hc,hb'⟩:=h;have:=hb.size;exact ⟨a,c,cs,rfl,Ap.z3y ho hb.size,hc.imp (EP.map fun _ _ h=>z0x h fun b _ h=>⟨h.1.elim (hi b) fun h=>.inr (by omega),h.2⟩),hb.trans (hb'.mono hb.size)⟩
theorem eachTPO (fn:Nat) (caps:Array Value) (eg:∀ args w,(callFunc fn args).run Tryz.prog w=.ok (.enter fn args) w) (ok:Nat→Prop) (x:Value) (l:List Tr) (F:Tr→List Pr) (w:World) (hx:TsO ok w x l)
    (hF:∀ wr,Below w.heap.size w wr→∀ t∈l,∀ a,StrsO (fun b=>ok b∧b<w.heap.size) wr a t.a→Calls Tryz.prog fn (#[.agg #[a,.int .i64 t.e]]++caps) wr (OutP (fun b=>ok b∧b<w.heap.size) (F t) wr))
    (hl:l.length≤1000000000000) (hlen:(l.flatMap F).length≤1000000000000) :
    Calls Tryz.prog 162 #[x,.func (.func fn) #[] caps] w (OwnP ok (l.flatMap F) w):=by
  obtain ⟨ax,cx,rfl,_,hval⟩:=hx.val;have HV:=Lib.hid hval;have HF:=Lib.hid hF;have HT:=Lib.hid (flat_take F l);have HS:=Lib.hid (z4y F l);obtain ⟨L,hL⟩:∃ L,l.flatMap F=L:=⟨_,rfl⟩
  rw [hL] at HT hlen ⊢;unfold OwnP;have HL:=Lib.hid hL;clear hval hF hx hL
  go_enter Tryz.func162,Tryz.ntmps162
  go_wp2_with fail
  go_loopw [5,10] (fun v i wr=>∃ (k:Nat) (cs:List Value),k≤l.length∧i=.int .i64 k∧Below w.heap.size w wr∧wr.ownsRow w.heap.size 97 4 v ((l.take k).flatMap F).length cs∧Cl (EP (Apart (fun b=>ok b∨w.heap.size≤b) v) wr) 4 ((l.take k).flatMap F) cs) (fun _ i _=>l.length-(intOf i).toNat)
  case atStart=>exact ⟨0,[],Nat.zero_le _,rfl,Below.refl _ _,⟨rfl,.inl ⟨rfl,rfl⟩⟩,rfl⟩
  case round=>
    obtain ⟨k,cs,hk,rfl,hb,hown,hcs⟩:=hrel;have WB:=Lib.hid hb;have WO:=Lib.hid hown;have WC:=Lib.hid hcs;clear hb hown hcs
    by_cases hlt:k<l.length
    · obtain ⟨b1,o1,a,rfl,hok,e1,e2,hs⟩:=HV.out k hlt;have c1:wr.cell? ⟨b1,o1+k*2,none⟩=some a:=by rw [WB.out.cell (Ap.z0a e1)]; exact e1
      have c2:wr.cell? ⟨b1,o1+k*2+1,none⟩=some (.int .i64 l[k].e):=by rw [WB.out.cell (Ap.z0a e2)]; exact e2
      have HA:=Lib.hid hs;have TM:=Lib.hid (List.getElem_mem hlt);have SN:=Lib.hid (HS.out k hlt);have TK:=HT.out (k+1);rw [SN.out,List.length_append] at TK;generalize l[k]=t at *;obtain ⟨_,a',c',rfl,_⟩:=HA.out;go_wp2_with fail;refine (HF.out _ ?b1 t TM.out _ (Ap.RdO.below (Ap.RdO.imp HA.out fun b hlt ho=>⟨ho,hlt⟩) ?b2)).mono ?c1
      case b1=>exact WB.out.alloc WB.out.size _
      case b2=>exact WB.out.alloc WB.out.size _
      rintro e w1 ⟨a1,c1',rfl,ht1,hb1⟩;have B0:Below wr.heap.size wr w1:=((Below.refl _ _).alloc (Nat.le_refl _) _).trans (hb1.mono (by simp));obtain ⟨ds,hr,hc⟩:=ht1;have hO1:=Ap.own_below WO.out B0;obtain ⟨v2,w2,hrun,ho2,hg2,hb2,hf2⟩:=appP hO1 (Nat.le_trans WB.out.size B0.size) (Ap.RdO.rd hr) (Cl.cells _ EP.one hc) (by omega);have RUN:=Lib.hid hrun;have O2:=Lib.hid ho2;have B2:=Lib.hid ((WB.out.trans (B0.mono WB.out.size)).trans hb2)
      have C2:Hid (Cl (EP (Apart (fun b=>ok b∨w.heap.size≤b) v2) w2) 4 ((l.take (k+1)).flatMap F) (cs++ds)):=Lib.hid (by
        rw [SN.out];refine Cl.append EP.len ?_ ?_
        · refine Cl.imp (EP.map fun x m hx=>z0v (Ap.RdO.imp hx fun b hlt ho=>?_) hg2 hf2) hc
          rcases ho with ho | ho
          · exact ⟨.inl ho.1,fun e=>by have:=z2o WO.out b e; omega⟩
          · have ho':wr.heap.size+1≤b:=by simpa using ho
            have:=WB.out.size;exact ⟨.inr (by omega),fun e=>by have:=z2o WO.out b e; omega⟩
        · exact Cl.imp (EP.map fun x m hx=>z0v (z0e hx B0) hg2 hf2) WC.out)
      clear hrun ho2 hg2 hb2 hf2 hc hb1 hO1 B0;go_wp2_with (at_builtin; refine Ap.wpList_append_run (by rfl) _ _ _ _ rfl _ _ rfl rfl v2 w2 RUN.out ?_)
      go_roundw
      case rel=>exact ⟨k+1,cs++ds,by omega,by go_num,B2.out,by rw [SN.out,List.length_append]; exact O2.out,C2.out⟩
      case measure=>simp [intOf]; omega
    · have hkl:k=l.length:=by omega
      subst hkl;have O:=WO.out;have C:=WC.out;rw [List.take_length,HL.out] at O C;have R:=Ap.RdO.fresh O;obtain ⟨_,a1,c1',hv,_⟩:=id R;subst hv;have OO:=Lib.hid O;have CC:=Lib.hid C;clear R O C;go_wp2_with fail;go_ret;exact ⟨_,_,rfl,cs,OO.out,CC.out,WB.out⟩
theorem x3v (x y:Value) (A B:List Tr) (w:World) (hx:TsO any w x A) (hy:TsO any w y B) (hA:A.length≤1000000000000) (hB:B.length≤1000000000000) (hout:(going A B).length≤1000000000000) :
    Calls Tryz.prog 109 #[x,y] w (OwnP any (going A B) w):=by
  have eg:∀ args w,(callFunc 163 args).run Tryz.prog w=.ok (.enter 163 args) w:=enters_of Tryz.func163 (by kernel_rfl) rfl
  have C:=Lib.hid (fun ty=>eachTPO 163 #[.pointer (some ⟨w.heap.size,0,none⟩)] eg any x A (going1 B) (w.alloc (.cells #[y] ty)) (hx.below (bel1 _ _))
    (fun wr hb t ht a ha=>by
      have hc:wr.cell? ⟨w.heap.size,0,none⟩=some y:=by rw [hb.cell (p:=⟨w.heap.size,0,none⟩) (by simp)]; exact z2v _ _ _
      have hY:=(((hy.imp (ok':=fun b=>any b∧b<(w.alloc (.cells #[y] ty)).heap.size) fun b hlt h=>⟨h,by simp; omega⟩).below (bel1 w (.cells #[y] ty))).below hb)
      exact y1r _ w.heap.size a y t B wr hc ha hY hB) hA hout)
  change Hid (∀ ty,Calls _ _ _ _ (OwnP any (going A B) _)) at C;generalize going A B=L at C ⊢;obtain ⟨_,⟨_,a1,k1,rfl,_⟩,_⟩:=hx;obtain ⟨_,⟨_,a2,k2,rfl,_⟩,_⟩:=hy
  go_enter Tryz.func109,Tryz.ntmps109
  go_wp2_with fail;refine (C.out _).mono ?_;intro e w2 ho;have HO:=Lib.hid (ho.up (bel1 w _) fun b h=>.inl h);obtain ⟨a4,k4,_,rfl,_,_,_⟩:=ho;go_wp2_with fail;go_ret;exact HO.out
theorem way_app {ok:Nat→Prop} {w0 w:World} {a:Option Addr} {c S:Nat} {M:List Pr} {cs:List Value} (hown:w.ownsRow w0.heap.size 97 4 (.slice a M.length c) M.length cs) (hc:Cl (EP (Apart ok (.slice a M.length c)) w) 4 M cs) (hb:Below w0.heap.size w0 w) (hl:M.length≤1000000000000)
    (hs:w.heap[S]?=some (.cells #[.slice none 0 0,.int .i64 3,.slice none 0 0,.int .i64 1] 97)) :
    ∃ a' c' w',(Builtin.append_ #[98,98] 98 #[.slice a M.length c,.slice (some ⟨S,0,none⟩) 1 1]).run Tryz.prog w=.ok (.slice a' (M++[way]).length c') w'∧PsO any w' (.slice a' (M++[way]).length c') (M++[way])∧Below w0.heap.size w0 w':=by
  have hx:Ap.Rd w 4 (.slice (some ⟨S,0,none⟩) 1 1) 1 [.slice none 0 0,.int .i64 3,.slice none 0 0,.int .i64 1]:=
    ⟨rfl,_,1,rfl,Nat.le_refl _,fun h=>(by cases h),fun _=>⟨S,0,rfl,fun j u hu=>by simp only [World.cell?,hs,Nat.zero_add]; simpa using hu⟩⟩
  obtain ⟨v',w',hrun,ho,hg,hb',hf⟩:=appP hown hb.size hx (by intro u hu; simp at hu; rcases hu with rfl | rfl | rfl | rfl <;> rfl) (by omega);obtain ⟨_,a',c',hv,_⟩:=Ap.Rd.owned ho;subst hv;have hlen:(M++[way]).length=M.length+1:=by simp
  rw [hlen];refine ⟨a',c',w',hrun,⟨_,by rw [hlen]; exact Ap.RdO.imp (Ap.RdO.fresh ho) fun _ _ _=>trivial,?_⟩,hb.trans hb'⟩;refine Cl.append EP.len (Cl.one ⟨.slice none 0 0,.slice none 0 0,rfl,z4n _ _,z4n _ _⟩ rfl) (Cl.imp (EP.map fun _ _ h=>z0x (z0v (ok:=ok) h hg hf) fun _ _ _=>trivial) hc)


end Mn
namespace Sp
open Go Rw So Se Tr Mn Do
def kat (t:Tm) (i p:Nat):Int:=match (flat t)[p-i]? with | some x=>x.k | none=>0
def freeAt (d:Bool) (t:Tm) (i p:Nat):Bool:=(!(pth t i p).2&&d)||(pth t i p).1.any bangT
def hows (k:Int) (f:Bool) (p:Nat):List (Nat × Int):=
  if k=1 then [(p,1)] else if k=6 then [(p,2),(p,3)] else (p,4)::if f then [(p,5)] else []
def en (d:Bool) (t:Tm) (i:Nat):List (Nat × Int):=(wt t i).flatMap fun p=>hows (kat t i p) (freeAt d t i p) p
theorem kat_l {t a:Tm} {n:Nd} {x:List Nd} (e:flat t=n::(flat a++x)) {i p:Nat} (h1:i+1≤p) (h2:p<i+1+sz a):kat t i p=kat a (i+1) p:=by
  unfold kat;rw [e,show p-i=(p-(i+1))+1 by omega,List.getElem?_cons_succ,List.getElem?_append_left (by rw [Se.flat_len]; omega)]
theorem kat_r {t a b:Tm} {n:Nd} (e:flat t=n::(flat a++flat b)) {i p:Nat} (h1:i+1+sz a≤p):kat t i p=kat b (i+1+sz a) p:=by
  unfold kat;rw [e,show p-i=(p-(i+1))+1 by omega,List.getElem?_cons_succ,List.getElem?_append_right (by rw [Se.flat_len]; omega),Se.flat_len,show p-(i+1)-sz a=p-(i+1+sz a) by omega]
theorem kat_1 {t a:Tm} {n:Nd} (e:flat t=n::flat a) {i p:Nat} (h1:i+1≤p) (h2:p<i+1+sz a):kat t i p=kat a (i+1) p:=
  kat_l (x:=[]) (by rw [e,List.append_nil]) h1 h2
theorem x1l {t a:Tm} {d d':Bool} {i j:Nat} (h:∀ p∈wt a j,kat t i p=kat a j p∧freeAt d t i p=freeAt d' a j p) :
    (wt a j).flatMap (fun p=>hows (kat t i p) (freeAt d t i p) p)=en d' a j:=by
  unfold en
  have:∀ l:List Nat,(∀ p∈l,kat t i p=kat a j p∧freeAt d t i p=freeAt d' a j p)→l.flatMap (fun p=>hows (kat t i p) (freeAt d t i p) p)=l.flatMap (fun p=>hows (kat a j p) (freeAt d' a j p) p):=by
    intro l
    induction l with
    | nil=>intro _; rfl
    | cons p l ih=>
      intro h;rw [List.flatMap_cons,List.flatMap_cons,ih fun q hq=>h q (List.mem_cons_of_mem _ hq),(h p List.mem_cons_self).1,(h p List.mem_cons_self).2]
  exact this _ h
theorem kat_0 {t:Tm} {n:Nd} {x:List Nd} (e:flat t=n::x) (i:Nat):kat t i i=n.k:=by
  unfold kat;rw [e,Nat.sub_self]
  rfl
theorem up_ph (f:Tm→Tm) (l:List Mo):(l.map (upm f)).map (fun m=>(m.p,m.h))=l.map (fun m=>(m.p,m.h)):=by
  rw [List.map_map]
  rfl
theorem en_mvs:∀ (t:Tm) (d:Bool) (i:Nat),(mvs d t i).map (fun m=>(m.p,m.h))=en d t i:=by
  have one:∀ {t a:Tm} {x:List Nd} {n:Nd} (e:flat t=n::(flat a++x)) (f:Tm→Tm) (d:Bool) (i:Nat),mvs d t i=(mvs d a (i+1)).map (upm f)→wt t i=wt a (i+1)→
      (∀ p,i+1≤p→p<i+1+sz a→pth t i p=pth a (i+1) p)→(mvs d a (i+1)).map (fun m=>(m.p,m.h))=en d a (i+1)→(mvs d t i).map (fun m=>(m.p,m.h))=en d t i:=by
    intro t a x n e f d i h1 h2 h3 ih;rw [h1,up_ph,ih];unfold en;rw [h2];refine (x1l fun p hp=>?_).symm;have hin:=z0q a _ p hp;refine ⟨kat_l e hin.1 hin.2,?_⟩;unfold freeAt;rw [h3 p hin.1 hin.2]
  intro t
  induction t with
  | act s=>intro d i; simp only [mvs,en,wt,List.flatMap_cons,List.flatMap_nil,kat_0 (t:=.act s) rfl]; rfl
  | alt a b=>intro d i; simp only [mvs,en,wt,List.flatMap_cons,List.flatMap_nil,kat_0 (t:=.alt a b) rfl]; rfl
  | yield=>
    intro d i;have hf:freeAt d .yield i i=d:=by simp [freeAt,pth]
    simp only [mvs,en,wt,List.flatMap_cons,List.flatMap_nil,kat_0 (t:=.yield) rfl,hf]
    cases d <;> rfl
  | pair a b=>
    intro d i;have hf:freeAt d (.pair a b) i i=d:=by simp [freeAt,pth]
    simp only [mvs,en,wt,List.flatMap_cons,List.flatMap_nil,kat_0 (t:=.pair a b) rfl,hf]
    cases d <;> rfl
  | seq a b ia ib=>intro d i; exact one (t:=.seq a b) rfl _ d i rfl rfl (fun p h1 h2=>by rw [pth,if_neg (by omega),if_pos h2]) (ia d (i+1))
  | hand a b ia ib=>intro d i; exact one (t:=.hand a b) rfl _ d i rfl rfl (fun p h1 h2=>by rw [pth,if_neg (by omega),if_pos h2]) (ia d (i+1))
  | going a b ia ib=>intro d i; exact one (t:=.going a b) rfl _ d i rfl rfl (fun p h1 h2=>by rw [pth,if_neg (by omega),if_pos h2]) (ia d (i+1))
  | stack a b ia ib=>intro d i; exact one (t:=.stack a b) rfl _ d i rfl rfl (fun p h1 h2=>by rw [pth,if_neg (by omega),if_pos h2]) (ia d (i+1))
  | block a ia=>
    intro d i
    show ((mvs false a (i+1)).map (upm .block)).map (fun m=>(m.p,m.h))=_
    rw [up_ph,ia false (i+1)];refine (x1l (t:=.block a) (d:=d) (i:=i) fun p hp=>?_).symm;have hin:=z0q a _ p hp;refine ⟨kat_1 (t:=.block a) rfl hin.1 hin.2,?_⟩;unfold freeAt;rw [pth,if_neg (by omega)];simp
  | par a b ia ib=>
    intro d i
    show ((mvs (d||bangT b) a (i+1)).map (upm (.par · b))++(mvs (d||bangT a) b (i+1+sz a)).map (upm (.par a ·))).map (fun m=>(m.p,m.h))=_
    rw [List.map_append,up_ph,up_ph,ia,ib];unfold en;rw [show wt (.par a b) i=wt a (i+1)++wt b (i+1+sz a) from rfl,List.flatMap_append]
    have e1:=x1l (t:=.par a b) (a:=a) (d:=d) (d':=d||bangT b) (i:=i) (j:=i+1) fun p hp=>by
      have hin:=z0q a _ p hp;refine ⟨kat_l (t:=.par a b) rfl hin.1 hin.2,?_⟩;unfold freeAt;rw [pth,if_neg (by omega),if_pos hin.2];obtain ⟨o,ins⟩:=pth a (i+1) p
      cases ins <;> simp
      cases d <;> cases bangT b <;> simp
    have e2:=x1l (t:=.par a b) (a:=b) (d:=d) (d':=d||bangT a) (i:=i) (j:=i+1+sz a) fun p hp=>by
      have hin:=z0q b _ p hp;refine ⟨kat_r (t:=.par a b) rfl hin.1,?_⟩;unfold freeAt;rw [pth,if_neg (by omega),if_neg (by omega)];obtain ⟨o,ins⟩:=pth b (i+1+sz a) p
      cases ins <;> simp
      cases d <;> cases bangT a <;> simp
    rw [e1,e2]
    rfl
  | _=>intro d i; rfl
inductive Made:Tm→Int→Option ByteArray→Tm→Prop
  | act (s):Made (.act s) 1 (some s) (.over 1)
  | altl (a b):Made (.alt a b) 2 none a
  | altr (a b):Made (.alt a b) 3 none b
  | yieldg:Made .yield 4 none (.over 1)
  | yields:Made .yield 5 none (.over 3)
  | pairg (a b):Made (.pair a b) 4 none (.going a b)
  | pairs (a b):Made (.pair a b) 5 none (.fin 3 .skip)
theorem y5j:∀ (t:Tm) (d:Bool) (i:Nat),∀ m∈mvs d t i,∃ pre s post u,flat t=pre++(flat s++post)∧m.p=i+pre.length∧flat m.r=pre++(flat u++post)∧Made s m.h m.l u:=by
  have here:∀ {t:Tm} {m:Mo} {i:Nat},m.p=i→Made t m.h m.l m.r→∃ pre s post u,flat t=pre++(flat s++post)∧m.p=i+pre.length∧flat m.r=pre++(flat u++post)∧Made s m.h m.l u:=
    fun {t m i} h k=>⟨[],t,[],m.r,by simp,by simp [h],by simp,k⟩
  have down:∀ {a:Tm} {m:Mo} {i:Nat} (f:Tm→Tm) (n x:List Nd),(∀ c,flat (f c)=n++(flat c++x))→(∃ pre s post u,flat a=pre++(flat s++post)∧m.p=(i+n.length)+pre.length∧flat m.r=pre++(flat u++post)∧Made s m.h m.l u)→
      ∃ pre s post u,flat (f a)=pre++(flat s++post)∧(upm f m).p=i+pre.length∧flat (upm f m).r=pre++(flat u++post)∧Made s (upm f m).h (upm f m).l u:=by
    rintro a m i f n x hf ⟨pre,s,post,u,h1,h2,h3,h4⟩;refine ⟨n++pre,s,post++x,u,by rw [hf,h1]; simp,?_,?_,h4⟩
    · show m.p=_
      rw [h2,List.length_append];omega
    · show flat (f m.r)=_
      rw [hf,h3];simp
  intro t
  induction t with
  | act s=>intro d i m hm; simp only [mvs,List.mem_singleton] at hm; subst hm; exact here rfl (.act s)
  | alt a b=>
    intro d i m hm;simp only [mvs,List.mem_cons,List.not_mem_nil,or_false] at hm
    rcases hm with rfl | rfl
    · exact here rfl (.altl a b)
    · exact here rfl (.altr a b)
  | yield=>
    intro d i m hm
    cases d <;> simp [mvs] at hm
    · subst hm; exact here rfl .yieldg
    · rcases hm with rfl | rfl
      · exact here rfl .yieldg
      · exact here rfl .yields
  | pair a b=>
    intro d i m hm
    cases d <;> simp [mvs] at hm
    · subst hm; exact here rfl (.pairg a b)
    · rcases hm with rfl | rfl
      · exact here rfl (.pairg a b)
      · exact here rfl (.pairs a b)
  | seq a b ia ib=>intro d i m hm; obtain ⟨n,hn,rfl⟩:=List.mem_map.1 hm; exact down (.seq · b) [nOf 5] (flat b) (fun _=>rfl) (ia _ _ n hn)
  | hand a b ia ib=>intro d i m hm; obtain ⟨n,hn,rfl⟩:=List.mem_map.1 hm; exact down (.hand · b) [nOf 8] (flat b) (fun _=>rfl) (ia _ _ n hn)
  | going a b ia ib=>intro d i m hm; obtain ⟨n,hn,rfl⟩:=List.mem_map.1 hm; exact down (.going · b) [nOf 12] (flat b) (fun _=>rfl) (ia _ _ n hn)
  | stack a b ia ib=>intro d i m hm; obtain ⟨n,hn,rfl⟩:=List.mem_map.1 hm; exact down (.stack · b) [nOf 13] (flat b) (fun _=>rfl) (ia _ _ n hn)
  | block a ia=>intro d i m hm; obtain ⟨n,hn,rfl⟩:=List.mem_map.1 hm; exact down .block [nOf 9] [] (fun _=>by simp [flat]) (ia _ _ n hn)
  | par a b ia ib=>
    intro d i m hm
    rcases List.mem_append.1 hm with hm | hm
    · obtain ⟨n,hn,rfl⟩:=List.mem_map.1 hm; exact down (.par · b) [nOf 7] (flat b) (fun _=>rfl) (ia _ _ n hn)
    · obtain ⟨n,hn,rfl⟩:=List.mem_map.1 hm;refine down (.par a ·) (nOf 7::flat a) [] (fun _=>by simp [flat]) ?_;have:=ib _ _ n hn;rw [List.length_cons,Se.flat_len,show i+(sz a+1)=i+1+sz a by omega];exact this
  | _=>intro d i m hm; exact absurd hm (by simp [mvs])
end Sp
namespace Do
open Go Go.RowKit Rw So Se
theorem infoInt:(Tryz.prog.info? 3).map (fun i=>(i.zero,i.size,i.bytes))=some (some (.int .i64 0),1,8):=by kernel_rfl
def GotJ (base:Nat) (w:World) (v:Value) (l:List Int):Prop:=w.ownsRow base 3 1 v l.length (l.map (.int .i64))∧base≤w.heap.size
theorem GotJ.ints {base:Nat} {w:World} {v:Value} {l:List Int} (h:GotJ base w v l):Ints w v l:=Ap.Rd.owned h.1
theorem GotJ.start (base:Nat) (w:World) (hb:base≤w.heap.size):GotJ base w (.slice none 0 0) []:=⟨⟨rfl,.inl ⟨rfl,rfl⟩⟩,hb⟩
theorem GotJ.below {base:Nat} {w w':World} {v:Value} {l:List Int} (h:GotJ base w v l) (hb:Below w.heap.size w w'):GotJ base w' v l:=⟨Ap.own_below h.1 hb,Nat.le_trans h.2 hb.size⟩
theorem GotJ.slice {base:Nat} {w:World} {v:Value} {l:List Int} (h:GotJ base w v l):∃ a c,v=.slice a l.length c:=by
  obtain ⟨_,a,c,e,-⟩:=h.ints;exact ⟨a,c,e⟩
theorem GotJ.row {base:Nat} {w:World} {v y:Value} {l m:List Int} (h:GotJ base w v l) (hy:Ints w y m) (hl:l.length+m.length≤2000000) :
    ∃ v' w',(Builtin.append_ #[60,60] 60 #[v,y]).run Tryz.prog w=.ok v' w'∧GotJ base w' v' (l++m)∧Below base w w':=by
  obtain ⟨i0,hi,hz,hs1,hb8⟩:=info_parts infoInt
  obtain ⟨v',w',h1,h2,_,h4,_⟩:=Ap.z0t (P:=Tryz.prog) (ty:=60) Tryz.underlying60 hi hz hs1 hb8 (by rfl) (by omega) h.1 h.2 hy
    (by intro u hu; obtain ⟨x,_,rfl⟩:=List.mem_map.1 hu; rfl) (by unfold maxLen; omega) (by omega)
  exact ⟨v',w',h1,⟨by rw [List.length_append,List.map_append]; exact h2,Nat.le_trans h.2 h4.size⟩,h4⟩
theorem int_new (w:World) (x:Int) (ty:TypeId):Ints (w.alloc (.cells #[.int .i64 x] ty)) (.slice (some ⟨w.heap.size,0,none⟩) 1 1) [x]:=by
  refine ⟨rfl,some ⟨w.heap.size,0,none⟩,1,rfl,Nat.le_refl _,fun h=>(by cases h),fun _=>⟨w.heap.size,0,rfl,fun j u hu=>?_⟩⟩;rw [Nat.zero_add,World.cell?_alloc_new]
  simpa using hu
theorem ints_nil (w:World):Ints w (.slice none 0 0) []:=⟨rfl,none,0,rfl,Nat.le_refl _,fun _=>⟨rfl,rfl⟩,fun h=>absurd h (Nat.lt_irrefl 0)⟩
end Do
end Go.Proofs.YtaapnkoooofalaaGreat
