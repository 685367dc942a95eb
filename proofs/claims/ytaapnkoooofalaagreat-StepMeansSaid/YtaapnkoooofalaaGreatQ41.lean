/- Laws that the last text leans on. -/
import Derived.Test.YtaapnkoooofalaaGreatQ40

set_option maxHeartbeats 1000000
namespace Go.Proofs.YtaapnkoooofalaaGreat.Tr
open Go Go.RowKit
set_option maxRecDepth 20000
def Suf (A B:List ByteArray) (n:Nat) (q:Rst):Prop:=q.1 <:+ A∧q.2 <:+ B∧q.1.length+q.2.length=n
theorem y4p {A s t:List ByteArray} (h1:s <:+ A) (h2:t <:+ A) (h:s.length=t.length):s=t:=by
  obtain ⟨p,rfl⟩:=h1;obtain ⟨p',h'⟩:=h2;exact (List.append_inj_right' h' h.symm).symm
theorem suf_eq {A B:List ByteArray} {n:Nat} {p q:Rst} (h1:Suf A B n p) (h2:Suf A B n q) (h:p.1.length=q.1.length):p=q:=by
  obtain ⟨a,b⟩:=p;obtain ⟨a',b'⟩:=q;have e1:a=a':=y4p h1.1 h2.1 h;have h3:=h1.2.2;have h4:=h2.2.2;simp only at h h3 h4;have e2:b=b':=y4p h1.2.1 h2.2.1 (show b.length=b'.length by omega);rw [e1,e2]
theorem suf_bh {A B:List ByteArray} {n:Nat} {x:ByteArray} {left:List Rst} (h:∀ q∈left,Suf A B (n+1) q):∀ p∈bh x left,Suf A B n p:=by
  intro p hp;obtain ⟨q,hq,hpq⟩:=List.mem_flatMap.1 hp;obtain ⟨h1,h2,h3⟩:=h q hq
  rcases z3c.1 hpq with ⟨e1,e2⟩ | ⟨e1,e2⟩
  · refine ⟨by rw [e2]; exact h1,List.IsSuffix.trans ⟨[x],by rw [e1]; rfl⟩ h2,?_⟩;rw [e1] at h3;rw [e2];simp at h3;omega
  · refine ⟨List.IsSuffix.trans ⟨[x],by rw [e1]; rfl⟩ h1,by rw [e2]; exact h2,?_⟩;rw [e1] at h3;rw [e2];simp at h3;omega
theorem y6i {α β:Type} (q:α→α→Bool) (f:α→β):∀ (p:α) (l:List α),(∀ a∈p::l,∀ b∈p::l,q a b=true→f a=f b)→∀ z∈l,∃ z'∈p::cptF q p l,f z'=f z
  | p,[],_,z,hz=>by cases hz
  | p,x::l,h,z,hz=>by
    rw [cptF];have h':∀ a∈x::l,∀ b∈x::l,q a b=true→f a=f b:=fun a ha b hb=>h a (List.mem_cons_of_mem _ ha) b (List.mem_cons_of_mem _ hb)
    have ih:=y6i q f x l h'
    cases hq:q x p with
    | true=>
      have e:=h x (by simp) p (by simp) hq;rw [if_pos rfl]
      have key:∀ z'∈x::cptF q x l,∃ z2∈p::cptF q x l,f z2=f z':=fun z' hz'=>by
        rcases List.mem_cons.1 hz' with rfl | hz'
        · exact ⟨p,by simp,e.symm⟩
        · exact ⟨z',by simp [hz'],rfl⟩
      rcases List.mem_cons.1 hz with rfl | hz
      · exact ⟨p,by simp,e.symm⟩
      · obtain ⟨z',hz',e'⟩:=ih z hz;obtain ⟨z2,hz2,e2⟩:=key z' hz';exact ⟨z2,hz2,e2.trans e'⟩
    | false=>
      rw [if_neg (by simp)]
      rcases List.mem_cons.1 hz with rfl | hz
      · exact ⟨z,by simp,rfl⟩
      · obtain ⟨z',hz',e'⟩:=ih z hz;exact ⟨z',List.mem_cons_of_mem _ hz',e'⟩
theorem cpt_keep {α β:Type} (q:α→α→Bool) (f:α→β) (l:List α) (h:∀ a∈l,∀ b∈l,q a b=true→f a=f b) (z:α) (hz:z∈l):∃ z'∈cpt q l,f z'=f z:=by
  cases l with
  | nil=>cases hz
  | cons p l=>
    rcases List.mem_cons.1 hz with rfl | hz
    · exact ⟨z,by simp [cpt],rfl⟩
    · exact y6i q f p l h z hz
def lenV:Value→Nat
  | .slice _ n _=>n
  | _=>0
theorem y9j (a1 a2 a3 a4:Option Addr) (n1 c1 n2 c2 n3 c3 n4 c4:Nat) (w:World) :
    Calls Tryz.prog 240 #[.agg #[.slice a1 n1 c1,.slice a2 n2 c2],.agg #[.slice a3 n3 c3,.slice a4 n4 c4]] w fun e w'=>e=.returned (.bool (n1==n3))∧Below w.heap.size w w':=by
  have HB:=Lib.hid (fun x y=>((Below.refl w.heap.size w).alloc (Nat.le_refl _) x).alloc (by simp) y)
  by_cases h:n1=n3
  · subst h
    go_enter Tryz.func240,Tryz.ntmps240
    go_wp2_with fail;go_ret;exact ⟨by simp,HB.out _ _⟩
  · have h':¬ (n1:Int)=(n3:Int):=by omega
    have H:=Lib.hid h;clear h
    go_enter Tryz.func240,Tryz.ntmps240
    go_wp2_with fail;go_ret;exact ⟨ret_bool (by rw [beq_eq_false_iff_ne.2 h',beq_eq_false_iff_ne.2 H.out]),HB.out _ _⟩
theorem y6p (c:Nat) (w:World):Calls Tryz.prog 239 #[.slice none 0 c,.func (.func 240) #[] #[]] w fun e w'=>e=.returned (.slice none 0 c)∧w'=w:=by
  go_enter Tryz.func239,Tryz.ntmps239
  go_wp2_with fail;go_ret;exact ⟨rfl,rfl⟩
theorem zip_of {ok:Nat→Prop} {w:World}:∀ {ys:List (Value × Value)} {qs:List Rst},RsC ok w (flv ys) qs→∃ zs:List ((Value × Value) × Rst),zs.map (·.1)=ys∧zs.map (·.2)=qs∧∀ z∈zs,StrsO ok w z.1.1 z.2.1∧StrsO ok w z.1.2 z.2.2
  | [],[],_=>⟨[],rfl,rfl,fun z hz=>by cases hz⟩
  | [],_::_,h=>h.elim
  | _::_,[],h=>h.elim
  | y::ys,q::qs,h=>by
    obtain ⟨zs,h1,h2,h3⟩:=zip_of (ys:=ys) (qs:=qs) h.2.2;refine ⟨(y,q)::zs,by simp [h1],by simp [h2],fun z hz=>?_⟩
    rcases List.mem_cons.1 hz with rfl | hz
    · exact ⟨h.1,h.2.1⟩
    · exact h3 z hz
theorem rsc_of {ok:Nat→Prop} {w:World}:∀ {zs:List ((Value × Value) × Rst)},(∀ z∈zs,StrsO ok w z.1.1 z.2.1∧StrsO ok w z.1.2 z.2.2)→RsC ok w (flv (zs.map (·.1))) (zs.map (·.2))
  | [],_=>trivial
  | z::zs,h=>⟨(h z (by simp)).1,(h z (by simp)).2,rsc_of fun u hu=>h u (by simp [hu])⟩
theorem x4n (ok:Nat→Prop) (left:List Rst) (x:ByteArray) (w:World) (A B:List ByteArray) (n:Nat) (hS:∀ q∈left,Suf A B (n+1) q) (hlen:left.length≤100000)
    (v1:Value) (w1:World) (HI:BhI ok x left w left.length v1 w1):Calls Tryz.prog 239 #[v1,.func (.func 240) #[] #[]] w1 fun e w'=>∃ vl l',e=.returned vl∧Rss (fun b=>ok b∨w.heap.size≤b) w' vl l'∧(∀ p,p∈l'↔p∈bh x left)∧l'.length≤2*left.length∧Below w.heap.size w w':=by
  obtain ⟨cs,hown,hrs,hb⟩:=HI;rw [List.take_length] at hown hrs;have hbl:=v1b x left;obtain ⟨_,⟨rfl,h0⟩ | ⟨g,cap,cur,rfl,hrest⟩⟩:=id hown
  · refine (y6p 0 w1).mono ?_;rintro e w' ⟨rfl,rfl⟩;have h00:bh x left=[]:=List.eq_nil_of_length_eq_zero h0;exact ⟨_,[],rfl,⟨[],⟨rfl,none,0,rfl,Nat.le_refl _,fun _=>⟨rfl,rfl⟩,fun h=>absurd h (Nat.lt_irrefl _)⟩,trivial⟩,fun p=>by rw [h00],by simp,hb⟩
  · obtain ⟨ys,hf,hyl,ho,hbg,hcm⟩:=Own2.of hown;rw [← hf] at hrs;obtain ⟨zs,z1,z2,z3⟩:=zip_of hrs
    have hsh:∀ z∈zs,∃ a c a' n' c',z.1=(.slice a z.2.1.length c,.slice a' n' c'):=fun z hz=>by
      obtain ⟨⟨_,a,c,h1,_⟩,⟨_,a',c',h2,_⟩⟩:=z3 z hz;exact ⟨a,c,a',_,c',Prod.ext h1 h2⟩
    have hcon:=compactR g cap (fun p q=>lenV p.1==lenV q.1) ys w1 ho (by omega)
      (fun y hy=>by
        rw [← z1] at hy;obtain ⟨z,hz,rfl⟩:=List.mem_map.1 hy;obtain ⟨a,c,a',n',c',e⟩:=hsh z hz;exact ⟨a,_,c,a',n',c',e⟩)
      (fun W hW y hy y' hy'=>by
        rw [← z1] at hy hy';obtain ⟨z,hz,rfl⟩:=List.mem_map.1 hy;obtain ⟨z',hz',rfl⟩:=List.mem_map.1 hy';obtain ⟨a,c,a',n',c',e⟩:=hsh z hz;obtain ⟨a2,c2,a2',n2',c2',e2⟩:=hsh z' hz';rw [e,e2];exact y9j a a' a2 a2' _ _ _ _ _ _ _ _ W)
    have hc2:cpt (fun p q=>lenV p.1==lenV q.1) ys=(cpt (fun a b:(Value × Value) × Rst=>lenV a.1.1==lenV b.1.1) zs).map (·.1):=by
      rw [← z1];exact y0f (fun z:(Value × Value) × Rst=>z.1) _ _ (fun _ _=>rfl) zs
    rw [hyl] at hcon;refine hcon.mono fun e w' ⟨he,ho',hg'⟩=>?_
    have hmem:∀ z∈cpt (fun a b:(Value × Value) × Rst=>lenV a.1.1==lenV b.1.1) zs,z∈zs:=cpt_mem _ zs;have hb':Below w.heap.size w w':=z6v hb hg' hbg hb.size;have hlc:(cpt (fun p q:Value × Value=>lenV p.1==lenV q.1) ys).length=((cpt (fun a b:(Value × Value) × Rst=>lenV a.1.1==lenV b.1.1) zs).map (·.2)).length:=by rw [hc2]; simp
    refine ⟨_,(cpt (fun a b:(Value × Value) × Rst=>lenV a.1.1==lenV b.1.1) zs).map (·.2),he,⟨flv (cpt (fun p q:Value × Value=>lenV p.1==lenV q.1) ys),?_,?_⟩,fun p=>?_,?_,hb'⟩
    · have:=Ap.RdO.fresh (ho'.owns hbg hcm);rw [hlc] at this ⊢;exact Ap.RdO.imp this fun b _ hb=>.inr hb
    · rw [hc2];refine rsc_of fun z hz=>?_
      have h3:=z3 z (hmem z hz);have hB:∀ v l,StrsO ok w v l→StrsO (fun b=>ok b∨w.heap.size≤b) w' v l:=fun v l h=>Ap.RdO.imp (Ap.RdO.below h hb') fun b _ h=>.inl h
      exact ⟨hB _ _ h3.1,hB _ _ h3.2⟩
    · rw [← z2]
      constructor
      · intro hp;obtain ⟨z,hz,rfl⟩:=List.mem_map.1 hp;exact List.mem_map.2 ⟨z,hmem z hz,rfl⟩
      · intro hp;obtain ⟨z,hz,rfl⟩:=List.mem_map.1 hp;have hsuf:=suf_bh (x:=x) hS
        obtain ⟨z',hz',e'⟩:=cpt_keep (fun a b:(Value × Value) × Rst=>lenV a.1.1==lenV b.1.1) (·.2) zs (fun a ha b hb hq=>by
          obtain ⟨a1,c1,_,_,_,e1⟩:=hsh a ha;obtain ⟨a2,c2,_,_,_,e2⟩:=hsh b hb;rw [e1,e2] at hq;have hq':a.2.1.length=b.2.1.length:=by simpa [lenV] using hq
          exact suf_eq (hsuf a.2 (by rw [← z2]; exact List.mem_map.2 ⟨a,ha,rfl⟩)) (hsuf b.2 (by rw [← z2]; exact List.mem_map.2 ⟨b,hb,rfl⟩)) hq') z hz
        exact List.mem_map.2 ⟨z',hz',e'⟩
    · rw [List.length_map];have h1:=cpt_le (fun a b:(Value × Value) × Rst=>lenV a.1.1==lenV b.1.1) zs;have h2:zs.length=(bh x left).length:=by rw [← z2,List.length_map]
      omega
theorem x4o (ok:Nat→Prop) (v:Value) (left:List Rst) (x:ByteArray) (w:World) (A B:List ByteArray) (n:Nat) (h:Rss ok w v left) (hS:∀ q∈left,Suf A B (n+1) q) (hlen:left.length≤100000) (hn:n<1000) :
    Calls Tryz.prog 230 #[v,.string x] w fun e w'=>∃ vl l',e=.returned vl∧Rss (fun b=>ok b∨w.heap.size≤b) w' vl l'∧(∀ p,p∈l'↔p∈bh x left)∧l'.length≤2*left.length∧Below w.heap.size w w':=
  y9i ok v left x w h hlen (fun q hq=>by have:=(hS q hq).2.2; omega) fun v1 w1 HI=>x4n ok left x w A B n hS hlen v1 w1 HI
end Go.Proofs.YtaapnkoooofalaaGreat.Tr
namespace Go.Proofs.YtaapnkoooofalaaGreat.Tr
open Go Go.RowKit
set_option maxRecDepth 20000
def Dn (w:World) (D n:Nat) (dl:List ByteArray):Prop:=
  ∃ cur:Array Value,w.heap[D]?=some (.cells cur 9 (0,0))∧cur.size=n∧dl.length≤n∧∀ j (h:j<dl.length),cur[j]?=some (.string dl[j])
theorem Dn.lt {w:World} {D n:Nat} {dl:List ByteArray} (h:Dn w D n dl):D<w.heap.size:=z5t h.choose_spec.1
theorem Dn.block {w w':World} {D n:Nat} {dl:List ByteArray} (h:Dn w D n dl) (hb:w'.heap[D]?=w.heap[D]?):Dn w' D n dl:=by
  obtain ⟨cur,hg,hr⟩:=h;exact ⟨cur,by rw [hb,hg],hr⟩
theorem Dn.take {w:World} {D n:Nat} {dl dm:List ByteArray} (h:Dn w D n (dl++dm)):Dn w D n dl:=by
  obtain ⟨cur,hg,hs,hl,hc⟩:=h;refine ⟨cur,hg,hs,by simp at hl; omega,fun j hj=>?_⟩;have:=hc j (by simp; omega)
  rwa [List.getElem_append_left hj] at this
theorem Dn.strs {w:World} {D n:Nat} {dl:List ByteArray} (h:Dn w D n dl):Strs w (.slice (some ⟨D,0,none⟩) dl.length n) dl:=by
  obtain ⟨cur,hg,hs,hl,hc⟩:=h;refine ⟨by simp,_,n,rfl,hl,fun h=>(by cases h),fun _=>⟨D,0,rfl,fun j u hu=>?_⟩⟩
  have hj:j<dl.length:=by
    have:=(List.getElem?_eq_some_iff.1 hu).1
    simpa using this
  rw [List.getElem?_map,List.getElem?_eq_getElem hj] at hu;simp at hu;subst hu;simp [World.cell?,hg,hc j hj]
theorem z8y {w:World} {D n g:Nat} {dl:List ByteArray} {x:ByteArray} (h:Dn w D n dl) (hroom:dl.length<n) (hx:w.cell? ⟨g,0,none⟩=some (.string x)) :
    ∃ w',(Builtin.append_ #[65,65] 65 #[.slice (some ⟨D,0,none⟩) dl.length n,.slice (some ⟨g,0,none⟩) 1 1]).run Tryz.prog w=.ok (.slice (some ⟨D,0,none⟩) (dl.length+1) n) w'∧Dn w' D n (dl++[x])∧w.grownBy w' (some D):=by
  obtain ⟨i0,hi,hz,hs1,hb8⟩:=info_parts infoS;obtain ⟨cur,hg,hs,hl,hc⟩:=h
  have hr:=run_append_room_cells (P:=Tryz.prog) w 65 65 9 i0 Tryz.underlying65 hi D 0 dl.length n ⟨g,0,none⟩ 1 1 [.string x] (by rw [hs1]; rfl)
    (fun j u hu=>by
      match j,hu with
      | 0,hu=>
        simp at hu;subst hu;rw [Addr.add_lit];exact hx
      | j+1,hu=>simp at hu) (fun u hu=>by simp at hu; subst hu; rfl) (by omega)
    (fun j hj=>by
      simp at hj;subst hj;simp [World.cell?,hg,hs1,hs,hroom]) (fun j _=>by simp [World.frozen?,hg])
  refine ⟨_,hr,⟨cur.setIfInBounds dl.length (.string x),?_,by simpa using hs,by simp; omega,fun j hj=>?_⟩,z3d _ _ _ _⟩
  · rw [hs1];simp [World.setCells,heap_setCell,hg]
  · by_cases hjl:j<dl.length
    · rw [List.getElem_append_left hjl,Array.getElem?_setIfInBounds,if_neg (by omega)];exact hc j hjl
    · have:j=dl.length:=by simp at hj; omega
      subst this;rw [Array.getElem?_setIfInBounds,if_pos rfl,if_pos (by omega)];simp
def Fr (D R0:Nat) (w w':World) (rv rv':Value):Prop:=
  (w'.os=w.os∧w'.tape=w.tape∧w'.output=w.output∧w.heap.size≤w'.heap.size)∧(∀ b,b<w.heap.size→b≠R0→b≠D→some b≠rv.ownBlock→w'.heap[b]?=w.heap[b]?)∧(rv'.ownBlock=rv.ownBlock∨∃ k,rv'.ownBlock=some k∧w.heap.size≤k)
theorem Fr.size {D R0:Nat} {w w':World} {rv rv':Value} (h:Fr D R0 w w' rv rv'):w.heap.size≤w'.heap.size:=h.1.2.2.2
theorem Fr.refl (D R0:Nat) (w:World) (rv:Value):Fr D R0 w w rv rv:=⟨⟨rfl,rfl,rfl,Nat.le_refl _⟩,fun _ _ _ _ _=>rfl,.inl rfl⟩
theorem Fr.trans {D R0:Nat} {w w1 w2:World} {rv rv1 rv2:Value} (h:Fr D R0 w w1 rv rv1) (k:Fr D R0 w1 w2 rv1 rv2):Fr D R0 w w2 rv rv2:=by
  refine ⟨⟨k.1.1.trans h.1.1,k.1.2.1.trans h.1.2.1,k.1.2.2.1.trans h.1.2.2.1,Nat.le_trans h.size k.size⟩,fun b hb h1 h2 h3=>?_,?_⟩
  · rw [k.2.1 b (Nat.lt_of_lt_of_le hb h.size) h1 h2 ?_,h.2.1 b hb h1 h2 h3]
    rcases h.2.2 with e | ⟨j,e,hj⟩
    · rw [e]; exact h3
    · rw [e];intro e'
      cases e'
      omega
  · rcases k.2.2 with e | ⟨j,e,hj⟩
    · rw [e]; exact h.2.2
    · exact .inr ⟨j,e,Nat.le_trans h.size hj⟩
theorem Fr.below {D R0:Nat} {w w':World} {rv:Value} (h:Below w.heap.size w w'):Fr D R0 w w' rv rv:=⟨⟨h.os,h.tape,h.output,h.size⟩,fun b hb _ _ _=>h.block b hb,.inl rfl⟩
theorem Fr.gbD {D R0:Nat} {w w':World} {rv:Value} (h:w.grownBy w' (some D)):Fr D R0 w w' rv rv:=⟨⟨h.os,h.tape,h.output,h.size⟩,fun b hb _ h2 _=>h.block b hb (fun e=>h2 (by cases e; rfl)),.inl rfl⟩
theorem Fr.bel {D R0 base:Nat} {w0 w w':World} {rv rv':Value} (h:Fr D R0 w w' rv rv') (hb:Below base w0 w) (hs:base≤w.heap.size) (h1:base≤R0) (h2:base≤D) (h3:∀ k,rv.ownBlock=some k→base≤k):Below base w0 w':=
  ⟨h.1.1.trans hb.os,h.1.2.1.trans hb.tape,h.1.2.2.1.trans hb.output,Nat.le_trans hb.size h.size,fun k hk=>by
    rw [h.2.1 k (by omega) (by omega) (by omega) (fun e=>by have:=h3 k e.symm; omega)];exact hb.block k hk⟩
def Ok (D R0:Nat) (rv:Value) (b:Nat):Prop:=b≠R0∧b≠D∧some b≠rv.ownBlock
theorem Fr.okb {D R0:Nat} {w w':World} {rv rv':Value} (h:Fr D R0 w w' rv rv') {b:Nat} (hb:b<w.heap.size) (ho:Ok D R0 rv b):Ok D R0 rv' b:=by
  refine ⟨ho.1,ho.2.1,?_⟩
  rcases h.2.2 with e | ⟨j,e,hj⟩
  · rw [e]; exact ho.2.2
  · rw [e];intro e'
    cases e'
    omega
theorem Fr.rdo {D R0:Nat} {w w':World} {rv rv':Value} (h:Fr D R0 w w' rv rv') {size n:Nat} {v:Value} {cs:List Value} (hr:Ap.RdO (Ok D R0 rv) w size v n cs):Ap.RdO (Ok D R0 rv') w' size v n cs:=by
  obtain ⟨hl,a,cap,hv,hc,hn,hcell⟩:=hr;refine ⟨hl,a,cap,hv,hc,hn,fun h0=>?_⟩;obtain ⟨b,off,ha,ho,hlt,hj⟩:=hcell h0;refine ⟨b,off,ha,h.okb hlt ho,Nat.lt_of_lt_of_le hlt h.size,fun j u hu=>?_⟩;rw [World.cell?_of_block (w:=w) (a:=⟨b,off+j,none⟩) (h.2.1 b hlt ho.1 ho.2.1 ho.2.2)];exact hj j u hu
theorem Fr.rss {D R0:Nat} {w w':World} {rv rv':Value} (h:Fr D R0 w w' rv rv') {v:Value} {left:List Rst} (hr:Rss (Ok D R0 rv) w v left):Rss (Ok D R0 rv') w' v left:=by
  obtain ⟨cs,h1,h2⟩:=hr;exact ⟨cs,h.rdo h1,h2.map fun _ _ h'=>h.rdo h'⟩
theorem Fr.cell {D R0:Nat} {w w':World} {rv rv':Value} (h:Fr D R0 w w' rv rv') {b j:Nat} {u:Value} (hc:w.cell? ⟨b,j,none⟩=some u) (ho:Ok D R0 rv b):w'.cell? ⟨b,j,none⟩=some u:=by
  have hlt:b<w.heap.size:=Ap.z0a hc;rw [World.cell?_of_block (w:=w) (a:=⟨b,j,none⟩) (h.2.1 b hlt ho.1 ho.2.1 ho.2.2)];exact hc
def Env (L0 M0 R0 n:Nat) (w:World):Prop:=
  w.cell? ⟨L0,0,none⟩=some (.int .i64 n)∧w.cell? ⟨M0,0,none⟩=some (.func (.func 228) #[] #[.pointer (some ⟨L0,0,none⟩),.pointer (some ⟨M0,0,none⟩),.pointer (some ⟨R0,0,none⟩)])
def OkB (base D R0:Nat) (rv:Value) (b:Nat):Prop:=base≤b∧Ok D R0 rv b
theorem Fr.rdoB {base D R0:Nat} {w w':World} {rv rv':Value} (h:Fr D R0 w w' rv rv') {size n:Nat} {v:Value} {cs:List Value} (hr:Ap.RdO (OkB base D R0 rv) w size v n cs):Ap.RdO (OkB base D R0 rv') w' size v n cs:=by
  obtain ⟨hl,a,cap,hv,hc,hn,hcell⟩:=hr;refine ⟨hl,a,cap,hv,hc,hn,fun h0=>?_⟩;obtain ⟨b,off,ha,ho,hlt,hj⟩:=hcell h0;refine ⟨b,off,ha,⟨ho.1,h.okb hlt ho.2⟩,Nat.lt_of_lt_of_le hlt h.size,fun j u hu=>?_⟩;rw [World.cell?_of_block (w:=w) (a:=⟨b,off+j,none⟩) (h.2.1 b hlt ho.2.1 ho.2.2.1 ho.2.2.2)];exact hj j u hu
def Acc (base D R0:Nat) (w:World) (rv:Value) (acc:List (List ByteArray)):Prop:=
  w.cell? ⟨R0,0,none⟩=some rv∧w.frozen? ⟨R0,0,none⟩=false∧∃ cs,w.ownsRow base 65 1 rv acc.length cs∧RwO (OkB base D R0 rv) w cs acc
structure Fix (base D L0 M0 R0:Nat) (rv:Value):Prop where
  lm:Ok D R0 rv L0∧Ok D R0 rv M0
  rd:R0≠D
  rr:some R0≠rv.ownBlock
  dr:some D≠rv.ownBlock
  br:base≤R0
  bd:base≤D
theorem Fix.next {base D L0 M0 R0:Nat} {w w':World} {rv rv':Value} (h:Fix base D L0 M0 R0 rv) (hf:Fr D R0 w w' rv rv') (hl:L0<w.heap.size) (hm:M0<w.heap.size) (hr:R0<w.heap.size) (hd:D<w.heap.size):Fix base D L0 M0 R0 rv':=by
  have key:∀ b,b<w.heap.size→some b≠rv.ownBlock→some b≠rv'.ownBlock:=fun b hb hne=>by
    rcases hf.2.2 with e | ⟨j,e,hj⟩
    · rw [e]; exact hne
    · rw [e];intro e'
      cases e'
      omega
  exact ⟨⟨hf.okb hl h.lm.1,hf.okb hm h.lm.2⟩,h.rd,key _ hr h.rr,key _ hd h.dr,h.br,h.bd⟩
theorem Env.fr {L0 M0 R0 n D base:Nat} {w w':World} {rv rv':Value} (h:Env L0 M0 R0 n w) (hx:Fix base D L0 M0 R0 rv) (hf:Fr D R0 w w' rv rv'):Env L0 M0 R0 n w':=⟨hf.cell h.1 hx.lm.1,hf.cell h.2 hx.lm.2⟩
theorem Acc.keep {base D R0:Nat} {w w':World} {rv:Value} {acc:List (List ByteArray)} (h:Acc base D R0 w rv acc) (hf:Fr D R0 w w' rv rv) (hg:∀ b,b<w.heap.size→b≠D→w'.heap[b]?=w.heap[b]?) (hrd:R0≠D) (hdr:some D≠rv.ownBlock):Acc base D R0 w' rv acc:=by
  obtain ⟨h1,h2,cs,h3,h4⟩:=h;have hlt:R0<w.heap.size:=Ap.z0a h1;refine ⟨?_,?_,cs,?_,h4.map fun _ _ h'=>hf.rdoB h'⟩
  · rw [World.cell?_of_block (w:=w) (a:=⟨R0,0,none⟩) (hg R0 hlt hrd)]; exact h1
  · rw [World.frozen?_of_block (w:=w) (a:=⟨R0,0,none⟩) (hg R0 hlt hrd)]; exact h2
  · obtain ⟨hl,hnil | ⟨g,cap,cur,hv,hb,hgg,hr⟩⟩:=h3
    · exact ⟨hl,.inl hnil⟩
    · refine ⟨hl,.inr ⟨g,cap,cur,hv,hb,?_,hr⟩⟩;rw [hg g (z5t hgg) (fun e=>hdr (by rw [hv,← e]; rfl))];exact hgg
theorem Acc.below {base D R0:Nat} {w w':World} {rv:Value} {acc:List (List ByteArray)} (h:Acc base D R0 w rv acc) (hb:Below w.heap.size w w') (hrd:R0≠D) (hdr:some D≠rv.ownBlock):Acc base D R0 w' rv acc:=h.keep (Fr.below hb) (fun b hlt _=>hb.block b hlt) hrd hdr
structure In (base D L0 M0 R0 n k:Nat) (A B:List ByteArray) (w:World) (rv lv:Value) (dl:List ByteArray) (left:List Rst) (acc:List (List ByteArray)):Prop where
  env:Env L0 M0 R0 n w
  acc:Acc base D R0 w rv acc
  dn:Dn w D n dl
  fx:Fix base D L0 M0 R0 rv
  rs:Rss (Ok D R0 rv) w lv left
  suf:∀ q∈left,Suf A B k q
  ne:left≠[]
  few:left.length*2 ^ k≤1024
  len:dl.length+k=n
  n9:n≤9
  bs:base≤w.heap.size
theorem In.lts {base D L0 M0 R0 n k:Nat} {A B:List ByteArray} {w:World} {rv lv:Value} {dl:List ByteArray} {left:List Rst} {acc:List (List ByteArray)} (h:In base D L0 M0 R0 n k A B w rv lv dl left acc):L0<w.heap.size∧M0<w.heap.size∧R0<w.heap.size∧D<w.heap.size:=
  ⟨Ap.z0a h.env.1,Ap.z0a h.env.2,Ap.z0a h.acc.1,h.dn.lt⟩
theorem In.below {base D L0 M0 R0 n k:Nat} {A B:List ByteArray} {w w':World} {rv lv:Value} {dl:List ByteArray} {left:List Rst} {acc:List (List ByteArray)} (h:In base D L0 M0 R0 n k A B w rv lv dl left acc) (hb:Below w.heap.size w w'):In base D L0 M0 R0 n k A B w' rv lv dl left acc:=
  ⟨h.env.fr h.fx (Fr.below hb),h.acc.below hb h.fx.rd h.fx.dr,h.dn.block (hb.block D h.dn.lt),h.fx,(Fr.below hb).rss h.rs,h.suf,h.ne,h.few,h.len,h.n9,Nat.le_trans h.bs hb.size⟩
theorem In.good {base D L0 M0 R0 n k:Nat} {A B:List ByteArray} {w:World} {rv lv:Value} {dl:List ByteArray} {left:List Rst} {acc:List (List ByteArray)} (h:In base D L0 M0 R0 n k A B w rv lv dl left acc):Even k left:=fun q hq=>(h.suf q hq).2.2
theorem In.step {base D L0 M0 R0 n k:Nat} {A B:List ByteArray} {w w2:World} {rv lv lv':Value} {dl:List ByteArray} {left l':List Rst} {acc:List (List ByteArray)} {x:ByteArray} (h:In base D L0 M0 R0 n (k+1) A B w rv lv dl left acc) (hx:x∈heads left)
    (hf:Fr D R0 w w2 rv rv) (hk:∀ b,b<w.heap.size→b≠D→w2.heap[b]?=w.heap[b]?) (hd:Dn w2 D n (dl++[x])) (hl:Rss (Ok D R0 rv) w2 lv' l') (hm:∀ p,p∈l'↔p∈bh x left) (hlen:l'.length≤2*left.length) (hs:base≤w2.heap.size):In base D L0 M0 R0 n k A B w2 rv lv' (dl++[x]) l' acc:=by
  refine ⟨h.env.fr h.fx hf,h.acc.keep hf hk h.fx.rd h.fx.dr,hd,h.fx,hl,fun q hq=>suf_bh (x:=x) h.suf q ((hm q).1 hq),?_,?_,?_,h.n9,hs⟩
  · intro e;have:=bh_ne hx;obtain ⟨p,l,hp⟩:=List.exists_cons_of_ne_nil this;have h1:p∈l':=(hm p).2 (by rw [hp]; simp);rw [e] at h1
    cases h1
  · have:=h.few;rw [Nat.pow_succ] at this
    calc l'.length*2 ^ k≤(2*left.length)*2 ^ k:=Nat.mul_le_mul_right _ hlen
      _=left.length*(2 ^ k*2):=by rw [Nat.mul_comm 2,Nat.mul_assoc,Nat.mul_comm 2]
      _≤1024:=this
  · have:=h.len;simp;omega
end Go.Proofs.YtaapnkoooofalaaGreat.Tr
namespace Go.Proofs.YtaapnkoooofalaaGreat.Tr
open Go Go.RowKit
set_option maxRecDepth 20000
theorem Rss.imp {ok ok':Nat→Prop} {w:World} {v:Value} {left:List Rst} (h:Rss ok w v left) (hi:∀ b,b<w.heap.size→ok b→ok' b):Rss ok' w v left:=by
  obtain ⟨cs,h1,h2⟩:=h;exact ⟨cs,h1.imp hi,h2.map fun _ _ h'=>Ap.RdO.imp h' hi⟩
theorem In.gbD {base D L0 M0 R0 n k:Nat} {A B:List ByteArray} {w w2:World} {rv lv lv':Value} {dl:List ByteArray} {left l':List Rst} {acc:List (List ByteArray)} {x:ByteArray} (h:In base D L0 M0 R0 n (k+1) A B w rv lv dl left acc) (hx:x∈heads left)
    (hg:w.grownBy w2 (some D)) (hd:Dn w2 D n (dl++[x])) (hl:Rss (fun b=>Ok D R0 rv b∨w.heap.size≤b) w2 lv' l') (hm:∀ p,p∈l'↔p∈bh x left) (hlen:l'.length≤2*left.length):In base D L0 M0 R0 n k A B w2 rv lv' (dl++[x]) l' acc:=by
  obtain ⟨_,_,hR,hD⟩:=h.lts;refine h.step hx (Fr.gbD hg) (fun b hb hne=>hg.block b hb (fun e=>hne (by cases e; rfl))) hd (hl.imp fun b _ ho=>?_) hm hlen (Nat.le_trans h.bs hg.size)
  rcases ho with ho | ho
  · exact ho
  · refine ⟨by omega,by omega,fun e=>?_⟩;obtain ⟨_,_,_,hown,_⟩:=h.acc;have:=Ap.z6g hown b e.symm;omega
theorem In.beh {base D L0 M0 R0 n k:Nat} {A B:List ByteArray} {w w1:World} {rv lv:Value} {dl:List ByteArray} {left:List Rst} {acc:List (List ByteArray)} (h:In base D L0 M0 R0 n (k+1) A B w rv lv dl left acc) (hg:w.grownBy w1 (some D)) (x:ByteArray) :
    Calls Tryz.prog 230 #[lv,.string x] w1 fun e w'=>∃ vl l',e=.returned vl∧Rss (fun b=>Ok D R0 rv b∨w.heap.size≤b) w' vl l'∧(∀ p,p∈l'↔p∈bh x left)∧l'.length≤2*left.length∧Below w1.heap.size w1 w':=by
  have hf:=h.few;have hn:=h.n9;have hl:=h.len;have hp:1≤2 ^ (k+1):=Nat.one_le_two_pow;have hlen:left.length≤100000:=Nat.le_trans (Nat.le_trans (Nat.le_mul_of_pos_right _ hp) hf) (by omega);refine (x4o (Ok D R0 rv) lv left x w1 A B k ((Fr.gbD hg).rss h.rs) h.suf hlen (by omega)).mono ?_;rintro e w' ⟨vl,l',he,h1,h2,h3,h4⟩;exact ⟨vl,l',he,h1.imp fun b _ ho=>ho.imp id fun hb=>Nat.le_trans hg.size hb,h2,h3,h4⟩
theorem In.back {base D L0 M0 R0 n k:Nat} {A B:List ByteArray} {w w2 w3:World} {rv rv' lv:Value} {dl:List ByteArray} {left:List Rst} {acc acc':List (List ByteArray)} (h:In base D L0 M0 R0 n k A B w rv lv dl left acc) (hg:w.grownBy w2 (some D))
    (hf:Fr D R0 w2 w3 rv rv') (ha:Acc base D R0 w3 rv' acc') (hd:Dn w3 D n dl) (hx:Fix base D L0 M0 R0 rv'):In base D L0 M0 R0 n k A B w3 rv' lv dl left acc':=by
  have hF:Fr D R0 w w3 rv rv':=(Fr.gbD hg).trans hf;exact ⟨h.env.fr h.fx hF,ha,hd,hx,hF.rss h.rs,h.suf,h.ne,h.few,h.len,h.n9,Nat.le_trans h.bs hF.size⟩
end Go.Proofs.YtaapnkoooofalaaGreat.Tr
