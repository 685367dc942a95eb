/- Laws that the last text leans on. -/
import Derived.Test.YtpingbiibbmcaaaGreatDoorQ25

set_option maxRecDepth 20000
set_option maxHeartbeats 4000000
namespace Go.Proofs.YtpingbiibbmcaaaGreatDoor
namespace Do
open Go Go.RowKit Rw YtpingbiibbmcaaaGreatDoor.So Se
structure Nums (n g:Nat) (f:Nat→Nat) (w:World):Prop where
  cell:∀ j:Nat,j<n→w.cell? ⟨g,j,none⟩=some (.int .i64 (f j:Int))
  soft:∀ j:Nat,w.frozen? ⟨g,j,none⟩=false
theorem Nums.below {n g M:Nat} {f:Nat→Nat} {w w':World} (h:Nums n g f w) (hb:Below M w w') (hg:g<M):Nums n g f w':=
  ⟨fun j hj=>by rw [hb.cell (p:=⟨g,j,none⟩) hg]; exact h.cell j hj,fun j=>(World.frozen?_of_block (hb.block _ hg)).trans (h.soft j)⟩
def rv (n:Nat) (f:Nat→Nat) (k m:Nat):Nat:=if m<k∨n<m+k+1 then f (n-1-m) else f m
theorem Nums.swap {n g:Nat} {f:Nat→Nat} {k:Nat} {w:World} (h:Nums n g (rv n f k) w) (hk:k+k+1<n) :
    Nums n g (rv n f (k+1)) ((w.setCell ⟨g,k,none⟩ (.int .i64 (rv n f k (n-1-k):Int))).setCell ⟨g,n-1-k,none⟩ (.int .i64 (rv n f k k:Int))):=by
  refine ⟨fun j hj=>?_,fun j=>by rw [z2p,z2p]; exact h.soft j⟩
  by_cases e1:j=n-1-k
  · subst e1;rw [z0p (u:=.int .i64 (rv n f k (n-1-k):Int)) (by rw [z0v (by omega)]; exact h.cell _ hj)]
    congr 3
    unfold rv;rw [if_neg (by omega),if_pos (by omega)]
    congr 1
    omega
  · rw [z0v (fun e=>e1 e.symm)]
    by_cases e2:j=k
    · subst e2;rw [z0p (h.cell _ hj)]
      congr 3
      unfold rv;rw [if_neg (by omega),if_pos (by omega)]
    · rw [z0v (fun e=>e2 e.symm),h.cell j hj]
      congr 3
      unfold rv
      by_cases e3:j<k∨n<j+k+1
      · rw [if_pos e3,if_pos (by omega)]
      · rw [if_neg e3,if_neg (by omega)]
theorem x8v (a:Option Addr) (c:Nat) (w:World):Calls Tryz.prog 284 #[.slice a 0 c] w fun e w'=>e=.returned (.tuple #[])∧w'=w:=by
  go_enter Tryz.func284,Tryz.ntmps284
  go_wp2_with fail;refine Go.wp_loop_rounds 1 ?_;rw [rounds_succ];go_wp2_with fail;go_end0;exact ⟨rfl,rfl⟩
theorem rev_any (g c n:Nat) (f:Nat→Nat) (w:World) (_hc:n≤c) (hn:1≤n) (hl:n≤1000) (h:Nums n g f w) :
    Calls Tryz.prog 284 #[.slice (some ⟨g,0,none⟩) n c] w fun e w'=>e=.returned (.tuple #[])∧Nums n g (fun m=>f (n-1-m)) w'∧Below g w w':=by
  have H:=Lib.hid h;clear h
  go_enter Tryz.func284,Tryz.ntmps284
  go_wp2_with fail
  go_loopw [2,3] (fun i j wr=>∃ k:Nat,k+k≤n∧i=.int .i64 k∧j=.int .i64 ((n:Int)-1-k)∧Hid (Below g w wr)∧Hid (Nums n g (rv n f k) wr)) (fun i _ _=>n-(intOf i).toNat)
  case atStart=>exact ⟨0,by omega,rfl,by go_num,Lib.hid (Below.refl _ _),Lib.hid ⟨fun j hj=>by rw [H.out.cell j hj]; congr 3; unfold rv; rw [if_neg (by omega)],H.out.soft⟩⟩
  case round=>
    obtain ⟨k,hk,rfl,rfl,HB,HS⟩:=hrel
    by_cases hlt:(k:Int)<(n:Int)-1-k
    · have hk2:k+k+1<n:=by omega
      obtain ⟨j,hj⟩:∃ j,n-1-k=j:=⟨_,rfl⟩
      have hj2:(n:Int)-1-k=j:=by omega
      have e1:=HS.out.cell k (by omega);have e2:=HS.out.cell j (by omega);have f1:=HS.out.soft k;have f2:=HS.out.soft j;have NW:=Lib.hid (HS.out.swap hk2);rw [hj] at NW;rw [hj2] at hlt ⊢;have jn:(j:Int)<n:=by omega
      have kn:(k:Int)<n:=by omega
      generalize (rv n f k k:Int)=x at e1 NW;generalize (rv n f k j:Int)=y at e2 NW;have kj:(k:Int)≠j:=by omega
      have ckj:wr.cell? ⟨g,k,none⟩=some (.int .i64 x):=e1;have HJ:Hid ((j:Int)=(n:Int)-1-k∧k+k+1<n):=Lib.hid ⟨hj2.symm,hk2⟩;clear hj hj2 hk2;go_wp2_with fail
      go_region
      go_wp2_with fail
      go_roundw
      case rel=>exact ⟨k+1,by have:=HJ.out; omega,by go_num,by have:=HJ.out; go_num,Lib.hid (Rx.z0f (Rx.z0f HB.out g _ _ (Nat.le_refl _)) g _ _ (Nat.le_refl _)).drew,Lib.hid ⟨NW.out.cell,NW.out.soft⟩⟩
      case measure=>simp [intOf]; omega
    · have H2:Hid (Nums n g (fun m=>f (n-1-m)) wr):=Lib.hid ⟨fun j hj=>by
        rw [HS.out.cell j hj]
        congr 3
        unfold rv
        split
        · rfl
        · congr 1
          omega,HS.out.soft⟩
      clear HS;go_wp2_with fail;go_end0;exact ⟨rfl,H2.out,HB.out⟩
end Do
namespace Mn
open Go Go.RowKit Tr


def Gr (w w':World):Prop:=∃ n os,w'=Go.Sort.grow (w.drewN n) os
theorem or_pcmp (x y:Pr):(if cmp x.p y.p=0 then cmp x.q y.q else cmp x.p y.p)=pcmp x y:=rfl
def Bx2 (w:World) (b:Nat) (v1 v1' v2 v2':Value) (x y:Pr):Prop:=BoxP w b v1 x.p.e v1' x.q.e∧BoxP w (b+1) v2 y.p.e v2' y.q.e
end Mn
namespace Se
open Go Go.RowKit Rw YtpingbiibbmcaaaGreatDoor.So
theorem z2d:∀ t u:Tm,flat t=flat u→t=u:=by
  intro t
  induction t with
  | act s=>
    intro u h;have hk:kd u=1:=by unfold kd; rw [← h]; rfl
    cases u <;> try (simp [kd,flat,hd,nOf] at hk; done)
    · have e:=congrArg nml h;exact congrArg Tm.act e
  | skip=>
    intro u h;have hk:kd u=2:=by unfold kd; rw [← h]; rfl
    cases u <;> try (simp [kd,flat,hd,nOf] at hk; done)
    · rfl
  | throw=>
    intro u h;have hk:kd u=3:=by unfold kd; rw [← h]; rfl
    cases u <;> try (simp [kd,flat,hd,nOf] at hk; done)
    · rfl
  | yield=>
    intro u h;have hk:kd u=4:=by unfold kd; rw [← h]; rfl
    cases u <;> try (simp [kd,flat,hd,nOf] at hk; done)
    · rfl
  | over s=>
    intro u h;have hk:kd u=11:=by unfold kd; rw [← h]; rfl
    cases u <;> try (simp [kd,flat,hd,nOf] at hk; done)
    · have e:=congrArg sgl h;exact congrArg Tm.over e
  | block a ia=>
    intro u h;have hk:kd u=9:=by unfold kd; rw [← h]; rfl
    cases u <;> try (simp [kd,flat,hd,nOf] at hk; done)
    · have e:=congrArg kids h;rw [z3n,z3n] at e;injection e with e _;rw [ia _ e]
  | fin s c ic=>
    intro u h;have hk:kd u=14:=by unfold kd; rw [← h]; rfl
    cases u <;> try (simp [kd,flat,hd,nOf] at hk; done)
    · have e:=congrArg kids h;have e2:s=_:=congrArg sgl h;rw [z6f,z6f] at e;injection e with e _;rw [ic _ e,e2]
      rfl
  | seq a b ia ib=>
    intro u h;have hk:kd u=5:=by unfold kd; rw [← h]; rfl
    cases u <;> try (simp [kd,flat,hd,nOf] at hk; done)
    · have e:=congrArg kids h;rw [z5c,z5c] at e;injection e with e1 e;injection e with e2 _;rw [ia _ e1,ib _ e2]
  | alt a b ia ib=>
    intro u h;have hk:kd u=6:=by unfold kd; rw [← h]; rfl
    cases u <;> try (simp [kd,flat,hd,nOf] at hk; done)
    · have e:=congrArg kids h;rw [z5e,z5e] at e;injection e with e1 e;injection e with e2 _;rw [ia _ e1,ib _ e2]
  | par a b ia ib=>
    intro u h;have hk:kd u=7:=by unfold kd; rw [← h]; rfl
    cases u <;> try (simp [kd,flat,hd,nOf] at hk; done)
    · have e:=congrArg kids h;rw [z5d,z5d] at e;injection e with e1 e;injection e with e2 _;rw [ia _ e1,ib _ e2]
  | hand a b ia ib=>
    intro u h;have hk:kd u=8:=by unfold kd; rw [← h]; rfl
    cases u <;> try (simp [kd,flat,hd,nOf] at hk; done)
    · have e:=congrArg kids h;rw [z3m,z3m] at e;injection e with e1 e;injection e with e2 _;rw [ia _ e1,ib _ e2]
  | pair a b ia ib=>
    intro u h;have hk:kd u=10:=by unfold kd; rw [← h]; rfl
    cases u <;> try (simp [kd,flat,hd,nOf] at hk; done)
    · have e:=congrArg kids h;rw [z3l,z3l] at e;injection e with e1 e;injection e with e2 _;rw [ia _ e1,ib _ e2]
  | going a b ia ib=>
    intro u h;have hk:kd u=12:=by unfold kd; rw [← h]; rfl
    cases u <;> try (simp [kd,flat,hd,nOf] at hk; done)
    · have e:=congrArg kids h;rw [z2o,z2o] at e;injection e with e1 e;injection e with e2 _;rw [ia _ e1,ib _ e2]
  | stack a b ia ib=>
    intro u h;have hk:kd u=13:=by unfold kd; rw [← h]; rfl
    cases u <;> try (simp [kd,flat,hd,nOf] at hk; done)
    · have e:=congrArg kids h;rw [z2n,z2n] at e;injection e with e1 e;injection e with e2 _;rw [ia _ e1,ib _ e2]
noncomputable def st (l:List Nd):List Nd:=if h:of l=0 then [] else flat (S (z5q h).choose)
theorem st_no {l:List Nd} (h:of l=0):st l=[]:=dif_pos h
theorem y5k {t:Tm} (h:Goes t):st (flat t)=flat (S t):=by
  have h0:=h.of;unfold st;rw [dif_neg h0];rw [z2d _ _ (z5q h0).choose_spec.1]
theorem st_len (l:List Nd):(st l).length≤l.length:=by
  by_cases h:of l=0
  · rw [st_no h]; exact Nat.zero_le _
  · obtain ⟨t,rfl,hg⟩:=z5q h;rw [y5k hg,flat_len,flat_len];exact S_sz t
theorem st_some {l:List Nd} (h:st l≠[]):∃ t,flat t=l∧Goes t∧st l=flat (S t):=by
  by_cases h0:of l=0
  · exact absurd (st_no h0) h
  · obtain ⟨t,rfl,hg⟩:=z5q h0;exact ⟨t,rfl,hg,y5k hg⟩
theorem z8z (v:Value) (l:List Nd) (w:World) (hv:Nds w v l) (hl:l.length≤1000) (hm:Nms l):Calls Tryz.prog 52 #[v] w (OutL (st l) w):=by
  by_cases h:of l=0
  · rw [st_no h]; exact x4l v l w hv hl hm h
  · obtain ⟨t,rfl,hg⟩:=z5q h;rw [y5k hg]; exact x4m v t w hv hm hg
theorem y8k (v:Value) (l:List Nd) (w:World) (hv:Nds w v l) (hl:l.length≤1000) (hm:Nms l):Calls Tryz.prog 66 #[v] w (OutL (st l) w):=by
  by_cases h:of l=0
  · rw [st_no h]; exact x4j v l w hv hl hm h
  · obtain ⟨t,rfl,hg⟩:=z5q h;rw [y5k hg]; exact x4k v t w hv hm hg
theorem z2c {t:Tm} (h:rg t=true):Nms (flat t):=by
  intro x hx;have hr:rgt x=true:=(List.all_eq_true.1 h) x hx;obtain ⟨k,n,s⟩:=x
  show n.size≤_
  by_cases h1:k=1
  · subst h1;rw [z9g] at hr;simp only [Bool.and_eq_true,decide_eq_true_eq] at hr;omega
  · by_cases h2:k=11∨k=14
    · rw [z3a n s h2] at hr;simp only [Bool.and_eq_true,decide_eq_true_eq] at hr;omega
    · have h0:¬ ar k<0:=fun h0=>by unfold rgt at hr; rw [if_pos h0] at hr; cases hr
      rw [z5x n s h0 h1 h2] at hr;simp only [Bool.and_eq_true,decide_eq_true_eq] at hr;omega
theorem y5q (v:Value) (l:List Nd) (w:World) (hv:Nds w v l) (hl:l.length≤1000) (hm:Nms l) :
    Calls Tryz.prog 79 #[v] w fun e w'=>e=.returned (.bool (decide (0<l.length)&&sameN (st l) l))∧Below w.heap.size w w':=by
  by_cases h0:0<l.length
  · rw [decide_eq_true h0,Bool.true_and];exact y2w v l (st l) w hv hl (by have:=st_len l; omega) h0 (z8z v l w hv hl hm)
  · have:l=[]:=List.eq_nil_of_length_eq_zero (by omega);subst this;obtain ⟨_,a,c,rfl,-⟩:=hv;refine (y2x a c w).mono ?_;rintro e w' ⟨rfl,rfl⟩;exact ⟨rfl,Below.refl _ _⟩
def overB (l:List Nd):Bool:=match l with | [x]=>x.k==11 | _=>false
def overS (l:List Nd):Int:=match l with | [x]=>if x.k==11 then x.s else 0 | _=>0
theorem y2f (v:Value) (l:List Nd) (w:World) (hv:Nds w v l) (hn:l.length≠1):Calls Tryz.prog 44 #[v] w fun e w'=>e=.returned (.tuple #[.int .i64 0,.bool false])∧Below w.heap.size w w':=by
  obtain ⟨_,a,c,rfl,-⟩:=hv;obtain ⟨n,hl⟩:∃ n,l.length=n:=⟨_,rfl⟩
  rw [hl] at hn ⊢;have h1:((n:Int)=1)=False:=by simp; omega
  clear hl
  go_enter Tryz.func44,Tryz.ntmps44
  go_wp2_with fail;go_ret2;exact ⟨rfl,Below.refl _ _⟩
theorem x6m (v:Value) (x:Nd) (w:World) (hv:Nds w v [x]):Calls Tryz.prog 44 #[v] w fun e w'=>e=.returned (.tuple #[.int .i64 (overS [x]),.bool (overB [x])])∧Below w.heap.size w w':=by
  rcases hv.form with ⟨h0,_⟩ | ⟨b,o,c,rfl,hc,hat⟩
  · cases h0
  obtain ⟨e0,e1,e2⟩:=hat 0 (by simp);simp only [List.getElem_cons_zero,Nat.zero_mul,Nat.add_zero] at e0 e1 e2;simp only [List.length_cons,List.length_nil,Nat.zero_add] at hc ⊢;obtain ⟨xk,xn,xs⟩:=x;simp only [overS,overB]
  by_cases h:xk=11
  · subst h;clear hat hv
    go_enter Tryz.func44,Tryz.ntmps44
    go_wp2_with fail;go_ret2;exact ⟨rfl,Below.refl _ _⟩
  · have h1:(xk==11)=false:=by simpa using h
    rw [h1];clear hat hv
    go_enter Tryz.func44,Tryz.ntmps44
    go_wp2_with fail;go_ret2;exact ⟨rfl,Below.refl _ _⟩
theorem z7e (v:Value) (l:List Nd) (w:World) (hv:Nds w v l):Calls Tryz.prog 44 #[v] w fun e w'=>e=.returned (.tuple #[.int .i64 (overS l),.bool (overB l)])∧Below w.heap.size w w':=by
  match l,hv with
  | [],hv=>exact y2f v [] w hv (by simp)
  | [x],hv=>exact x6m v x w hv
  | x::y::r,hv=>exact y2f v (x::y::r) w hv (by simp)
end Se
namespace Do
open Go Rw YtpingbiibbmcaaaGreatDoor.So Se
def pth:Tm→Nat→Nat→List Tm × Bool
  | .par a b,i,p=>if i=p then ([],false) else if p<i+1+sz a then (if (pth a (i+1) p).2 then pth a (i+1) p else ((pth a (i+1) p).1++[b],false)) else (if (pth b (i+1+sz a) p).2 then pth b (i+1+sz a) p else ((pth b (i+1+sz a) p).1++[a],false))
  | .block a,i,p=>if i=p then ([],false) else ((pth a (i+1) p).1,true)
  | .seq a b,i,p=>if i=p then ([],false) else if p<i+1+sz a then pth a (i+1) p else pth b (i+1+sz a) p
  | .alt a b,i,p=>if i=p then ([],false) else if p<i+1+sz a then pth a (i+1) p else pth b (i+1+sz a) p
  | .hand a b,i,p=>if i=p then ([],false) else if p<i+1+sz a then pth a (i+1) p else pth b (i+1+sz a) p
  | .pair a b,i,p=>if i=p then ([],false) else if p<i+1+sz a then pth a (i+1) p else pth b (i+1+sz a) p
  | .going a b,i,p=>if i=p then ([],false) else if p<i+1+sz a then pth a (i+1) p else pth b (i+1+sz a) p
  | .stack a b,i,p=>if i=p then ([],false) else if p<i+1+sz a then pth a (i+1) p else pth b (i+1+sz a) p
  | .fin _ c,i,p=>if i=p then ([],false) else pth c (i+1) p
  | _,_,_=>([],false)
end Do
namespace Mn
open Go Go.RowKit Tr
def MxdO (ok:Nat→Prop) (w:World) (n:Nat) (l m:List ByteArray) (e:Ending) (w':World):Prop:=
  ∃ v cs,e=.returned v∧w'.ownsRow w.heap.size 26 1 v (mx n l m).length cs∧RwO (fun b=>(ok b∨w.heap.size≤b)∧some b≠v.ownBlock) w' cs (mx n l m)∧Below w.heap.size w w'
def RwsOk (ok:Nat→Prop) (w:World) (v:Value) (rs:List (List ByteArray)):Prop:=∃ cs,Ap.Rd w 1 v rs.length cs∧RwO ok w cs rs
theorem infoPR:(Tryz.prog.info? 182).map (fun i=>(i.zero,i.size,i.bytes))=some (some (.agg #[.slice none 0 0,.int .i64 0,.slice none 0 0,.int .i64 0]),4,64):=by kernel_rfl

end Mn
namespace Se
open Go Go.RowKit Rw YtpingbiibbmcaaaGreatDoor.So
theorem y3m (w:World) (l:List Nd) (ty:TypeId):Nds (w.alloc (.cells (cls l).toArray ty)) (.slice (some ⟨w.heap.size,0,none⟩) l.length l.length) l:=by
  refine ⟨z2a l,some ⟨w.heap.size,0,none⟩,l.length,rfl,Nat.le_refl _,fun h=>(by cases h),fun _=>⟨w.heap.size,0,rfl,fun j u hu=>?_⟩⟩;rw [Nat.zero_add,World.cell?_alloc_new]
  simpa using hu
def OutN' (n:Nat) (l:List Nd) (w:World) (e:Ending) (w':World):Prop:=∃ a c,e=.returned (.slice a n c)∧Nds w' (.slice a n c) l∧Below w.heap.size w w'
end Se
namespace Do
open Go Rw YtpingbiibbmcaaaGreatDoor.So Se
noncomputable def setB (l:List Nd):Bool:=decide (0<l.length)&&sameN (st l) l
theorem z0k {l:List Nd}:setB l=true↔∃ t,flat t=l∧Goes t∧Nf t:=by
  unfold setB sameN;rw [Bool.and_eq_true,decide_eq_true_eq,decide_eq_true_eq]
  constructor
  · rintro ⟨h0,h⟩;have hn:st l≠[]:=fun e=>by rw [e] at h; rw [← h] at h0; simp at h0
    obtain ⟨t,rfl,hg,e⟩:=st_some hn;rw [e] at h;have:=z2d _ _ h;exact ⟨t,rfl,hg,by rw [← this]; exact S_nf t⟩
  · rintro ⟨t,rfl,hg,hn⟩;exact ⟨by rw [Se.flat_len]; exact z0e t,by rw [y5k hg,nf_S t hn]⟩
theorem y5s {t:Tm} (hg:Goes t):setB (flat t)=true↔Nf t:=by
  rw [z0k]
  constructor
  · rintro ⟨u,e,_,h⟩;rw [← z2d _ _ e]; exact h
  · intro h; exact ⟨t,rfl,hg,h⟩
noncomputable def av (l:List Nd):List Int:=if h:setB l=true then (wt (z0k.1 h).choose 0).map Int.ofNat else []
theorem x7a {t:Tm} (hg:Goes t) (hn:Nf t):av (flat t)=(wt t 0).map Int.ofNat:=by
  have h:setB (flat t)=true:=(y5s hg).2 hn;unfold av;rw [dif_pos h,z2d _ _ (z0k.1 h).choose_spec.1]
theorem y7r {l:List Nd} (h:setB l=false):av l=[]:=dif_neg (by rw [h]; simp)
noncomputable def dm (l:List Nd):Bool:=if h:setB l=true then bangT (z0k.1 h).choose else false
theorem dm_go {t:Tm} (hg:Goes t) (hn:Nf t):dm (flat t)=bangT t:=by
  have h:setB (flat t)=true:=(y5s hg).2 hn;unfold dm;rw [dif_pos h,z2d _ _ (z0k.1 h).choose_spec.1]
theorem dm_no {l:List Nd} (h:setB l=false):dm l=false:=dif_neg (by rw [h]; simp)
noncomputable def bs (l:List Nd) (p:Int):List (List Nd):=if h:setB l=true∧p∈av l then (pth (z0k.1 h.1).choose 0 p.toNat).1.map flat else []
noncomputable def fr (l:List Nd) (p:Int):Bool:=if h:setB l=true∧p∈av l then (!(pth (z0k.1 h.1).choose 0 p.toNat).2)||(pth (z0k.1 h.1).choose 0 p.toNat).1.any bangT else false
theorem y1r {t:Tm} (hg:Goes t) (hn:Nf t) {p:Int}:p∈av (flat t)↔∃ k∈wt t 0,p=(k:Int):=by
  rw [x7a hg hn,List.mem_map];exact ⟨fun ⟨k,h,e⟩=>⟨k,h,e.symm⟩,fun ⟨k,h,e⟩=>⟨k,h,e.symm⟩⟩
theorem bs_go {t:Tm} (hg:Goes t) (hn:Nf t) {k:Nat} (hk:k∈wt t 0):bs (flat t) (k:Int)=(pth t 0 k).1.map flat:=by
  have h:setB (flat t)=true∧(k:Int)∈av (flat t):=⟨(y5s hg).2 hn,(y1r hg hn).2 ⟨k,hk,rfl⟩⟩
  unfold bs;rw [dif_pos h,z2d _ _ (z0k.1 h.1).choose_spec.1]
  rfl
theorem fr_go {t:Tm} (hg:Goes t) (hn:Nf t) {k:Nat} (hk:k∈wt t 0):fr (flat t) (k:Int)=((!(pth t 0 k).2)||(pth t 0 k).1.any bangT):=by
  have h:setB (flat t)=true∧(k:Int)∈av (flat t):=⟨(y5s hg).2 hn,(y1r hg hn).2 ⟨k,hk,rfl⟩⟩
  unfold fr;rw [dif_pos h,z2d _ _ (z0k.1 h.1).choose_spec.1]
  rfl
theorem bs_no {l:List Nd} {p:Int} (h:p∉av l):bs l p=[]:=dif_neg fun k=>h k.2
theorem fr_no {l:List Nd} {p:Int} (h:p∉av l):fr l p=false:=dif_neg fun k=>h k.2
theorem x1s:∀ (t:Tm) (i p:Nat),p∈wt t i→Goes t→Nf t→∀ u∈(pth t i p).1,Goes u∧Nf u:=by
  intro t
  induction t with
  | act s=>intro i p _ _ _ u hu; simp [pth] at hu
  | skip=>intro i p h; simp [wt] at h
  | throw=>intro i p h; simp [wt] at h
  | yield=>intro i p _ _ _ u hu; simp [pth] at hu
  | over s=>intro i p h; simp [wt] at h
  | fin s c ic=>intro i p h; simp [wt] at h
  | alt a b ia ib=>intro i p h _ _ u hu; simp only [wt,List.mem_singleton] at h; subst h; simp [pth] at hu
  | pair a b ia ib=>intro i p h _ _ u hu; simp only [wt,List.mem_singleton] at h; subst h; simp [pth] at hu
  | block a ia=>
    intro i p h hg hn u hu;have hin:=z5j a _ _ h;obtain ⟨g1,g2,g3⟩:=hg;rw [z3b] at g1;simp only [sz] at g2;simp [is] at g3;rw [pth,if_neg (by omega)] at hu;exact ia _ _ h ⟨g1,by omega,.inr g3⟩ hn.1 u hu
  | seq a b ia ib=>
    intro i p h hg hn u hu;have hin:=z5j a _ _ h;obtain ⟨g1,g2,g3⟩:=hg;rw [z7p,Bool.and_eq_true] at g1;simp only [sz] at g2;simp [is] at g3;rw [pth,if_neg (by omega),if_pos hin.2] at hu;exact ia _ _ h ⟨g1.1,by omega,g3.imp (·.1) (·.1)⟩ hn.1 u hu
  | hand a b ia ib=>
    intro i p h hg hn u hu;have hin:=z5j a _ _ h;obtain ⟨g1,g2,g3⟩:=hg;rw [z5o,Bool.and_eq_true] at g1;simp only [sz] at g2;simp [is] at g3;rw [pth,if_neg (by omega),if_pos hin.2] at hu;exact ia _ _ h ⟨g1.1,by omega,.inl g3.1⟩ hn.1 u hu
  | going a b ia ib=>
    intro i p h hg hn u hu;have hin:=z5j a _ _ h;obtain ⟨g1,g2,g3⟩:=hg;rw [z3u,Bool.and_eq_true] at g1;simp only [sz] at g2;simp [is] at g3;rw [pth,if_neg (by omega),if_pos hin.2] at hu;exact ia _ _ h ⟨g1.1,by omega,.inl g3.1⟩ hn.1 u hu
  | stack a b ia ib=>
    intro i p h hg hn u hu;have hin:=z5j a _ _ h;obtain ⟨g1,g2,g3⟩:=hg;rw [z3t,Bool.and_eq_true] at g1;simp only [sz] at g2;simp [is] at g3;rw [pth,if_neg (by omega),if_pos hin.2] at hu;exact ia _ _ h ⟨g1.1,by omega,.inr g3.1⟩ hn.1 u hu
  | par a b ia ib=>
    intro i p h hg hn u hu;obtain ⟨g1,g2,g3⟩:=hg;rw [z5k,Bool.and_eq_true] at g1;simp only [sz] at g2;have ga:Goes a:=⟨g1.1,by omega,by simp [is] at g3; exact g3.imp (·.1) (·.1)⟩
    have gb:Goes b:=⟨g1.2,by omega,by simp [is] at g3; exact g3.imp (·.2) (·.2)⟩
    rcases List.mem_append.1 h with h | h
    · have hin:=z5j a _ _ h;rw [pth,if_neg (by omega),if_pos hin.2] at hu
      split at hu
      · exact ia _ _ h ga hn.1 u hu
      · rcases List.mem_append.1 hu with hu | hu
        · exact ia _ _ h ga hn.1 u hu
        · rw [List.mem_singleton] at hu; subst hu; exact ⟨gb,hn.2.1⟩
    · have hin:=z5j b _ _ h;rw [pth,if_neg (by omega),if_neg (by omega)] at hu
      split at hu
      · exact ib _ _ h gb hn.2.1 u hu
      · rcases List.mem_append.1 hu with hu | hu
        · exact ib _ _ h gb hn.2.1 u hu
        · rw [List.mem_singleton] at hu; subst hu; exact ⟨ga,hn.1⟩
theorem wt_few:∀ (t:Tm) (i:Nat),(wt t i).length≤sz t:=by
  intro t
  induction t with
  | par a b ia ib=>intro i; simp only [wt,List.length_append,sz]; have:=ia (i+1); have:=ib (i+1+sz a); omega
  | seq a b ia ib=>intro i; simp only [wt,sz]; have:=ia (i+1); omega
  | hand a b ia ib=>intro i; simp only [wt,sz]; have:=ia (i+1); omega
  | going a b ia ib=>intro i; simp only [wt,sz]; have:=ia (i+1); omega
  | stack a b ia ib=>intro i; simp only [wt,sz]; have:=ia (i+1); omega
  | block a ia=>intro i; simp only [wt,sz]; have:=ia (i+1); omega
  | _=>intro i; simp [wt,sz]
theorem x3o (l:List Nd):(av l).length≤l.length:=by
  cases h:setB l with
  | false=>rw [y7r h]; exact Nat.zero_le _
  | true=>
    obtain ⟨t,rfl,hg,hn⟩:=z0k.1 h;rw [x7a hg hn,List.length_map,Se.flat_len];exact wt_few t 0
theorem av_in {l:List Nd} {p:Int} (h:p∈av l):0≤p∧p<l.length:=by
  cases hs:setB l with
  | false=>rw [y7r hs] at h; cases h
  | true=>
    obtain ⟨t,rfl,hg,hn⟩:=z0k.1 hs;obtain ⟨k,hk,rfl⟩:=(y1r hg hn).1 h;have:=z5j t 0 k hk;rw [Se.flat_len];omega
end Do
namespace Mn
open Go Go.RowKit Tr
def OutE (ok:Nat→Prop) (t:Tr) (w:World) (e:Ending) (w':World):Prop:=∃ a c,e=.returned (.agg #[.slice a t.a.length c,.int .i64 t.e])∧StrsO (fun b=>ok b∨w.heap.size≤b) w' (.slice a t.a.length c) t.a∧Below w.heap.size w w'


def OwnP (ok:Nat→Prop) (l:List Pr) (w:World) (e:Ending) (w':World):Prop:=
  ∃ a c cs,e=.returned (.slice a l.length c)∧w'.ownsRow w.heap.size 128 4 (.slice a l.length c) l.length cs∧Cl (EP (Apart (fun b=>ok b∨w.heap.size≤b) (.slice a l.length c)) w') 4 l cs∧Below w.heap.size w w'
end Mn
namespace Se
open Go Go.RowKit Rw YtpingbiibbmcaaaGreatDoor.So
theorem few_len {l:List Nd} (h:fewB l=true):l.length≤120:=by
  unfold fewB at h;rw [Bool.and_eq_true,decide_eq_true_eq] at h;exact h.1
end Se
namespace Sp
open Go Rw YtpingbiibbmcaaaGreatDoor.So Se Tr Mn Do
def kat (t:Tm) (i p:Nat):Int:=match (flat t)[p-i]? with | some x=>x.k | none=>0
def freeAt (d:Bool) (t:Tm) (i p:Nat):Bool:=(!(pth t i p).2&&d)||(pth t i p).1.any bangT
def hows (k:Int) (f:Bool) (p:Nat):List (Nat × Int):=
  if k=1 then [(p,1)] else if k=6 then [(p,2),(p,3)] else (p,4)::if f then [(p,5)] else []
def en (d:Bool) (t:Tm) (i:Nat):List (Nat × Int):=(wt t i).flatMap fun p=>hows (kat t i p) (freeAt d t i p) p
theorem kat_l {t a:Tm} {n:Nd} {x:List Nd} (e:flat t=n::(flat a++x)) {i p:Nat} (h1:i+1≤p) (h2:p<i+1+sz a):kat t i p=kat a (i+1) p:=by
  unfold kat;rw [e,show p-i=(p-(i+1))+1 by omega,List.getElem?_cons_succ,List.getElem?_append_left (by rw [Se.flat_len]; omega)]
theorem kat_r {t a b:Tm} {n:Nd} (e:flat t=n::(flat a++flat b)) {i p:Nat} (h1:i+1+sz a≤p):kat t i p=kat b (i+1+sz a) p:=by
  unfold kat;rw [e,show p-i=(p-(i+1))+1 by omega,List.getElem?_cons_succ,List.getElem?_append_right (by rw [Se.flat_len]; omega),Se.flat_len,show p-(i+1)-sz a=p-(i+1+sz a) by omega]
theorem kat_1 {t a:Tm} {n:Nd} (e:flat t=n::flat a) {i p:Nat} (h1:i+1≤p) (h2:p<i+1+sz a):kat t i p=kat a (i+1) p:=
  kat_l (x:=[]) (by rw [e,List.append_nil]) h1 h2
theorem x3e {t a:Tm} {d d':Bool} {i j:Nat} (h:∀ p∈wt a j,kat t i p=kat a j p∧freeAt d t i p=freeAt d' a j p) :
    (wt a j).flatMap (fun p=>hows (kat t i p) (freeAt d t i p) p)=en d' a j:=by
  unfold en
  have:∀ l:List Nat,(∀ p∈l,kat t i p=kat a j p∧freeAt d t i p=freeAt d' a j p)→l.flatMap (fun p=>hows (kat t i p) (freeAt d t i p) p)=l.flatMap (fun p=>hows (kat a j p) (freeAt d' a j p) p):=by
    intro l
    induction l with
    | nil=>intro _; rfl
    | cons p l ih=>
      intro h;rw [List.flatMap_cons,List.flatMap_cons,ih fun q hq=>h q (List.mem_cons_of_mem _ hq),(h p List.mem_cons_self).1,(h p List.mem_cons_self).2]
  exact this _ h
theorem kat_0 {t:Tm} {n:Nd} {x:List Nd} (e:flat t=n::x) (i:Nat):kat t i i=n.k:=by
  unfold kat;rw [e,Nat.sub_self]
  rfl
theorem up_ph (f:Tm→Tm) (l:List Mo):(l.map (upm f)).map (fun m=>(m.p,m.h))=l.map (fun m=>(m.p,m.h)):=by
  rw [List.map_map]
  rfl
theorem en_mvs:∀ (t:Tm) (d:Bool) (i:Nat),(mvs d t i).map (fun m=>(m.p,m.h))=en d t i:=by
  have one:∀ {t a:Tm} {x:List Nd} {n:Nd} (e:flat t=n::(flat a++x)) (f:Tm→Tm) (d:Bool) (i:Nat),mvs d t i=(mvs d a (i+1)).map (upm f)→wt t i=wt a (i+1)→
      (∀ p,i+1≤p→p<i+1+sz a→pth t i p=pth a (i+1) p)→(mvs d a (i+1)).map (fun m=>(m.p,m.h))=en d a (i+1)→(mvs d t i).map (fun m=>(m.p,m.h))=en d t i:=by
    intro t a x n e f d i h1 h2 h3 ih;rw [h1,up_ph,ih];unfold en;rw [h2];refine (x3e fun p hp=>?_).symm;have hin:=z5j a _ p hp;refine ⟨kat_l e hin.1 hin.2,?_⟩;unfold freeAt;rw [h3 p hin.1 hin.2]
  intro t
  induction t with
  | act s=>intro d i; simp only [mvs,en,wt,List.flatMap_cons,List.flatMap_nil,kat_0 (t:=.act s) rfl]; rfl
  | alt a b=>intro d i; simp only [mvs,en,wt,List.flatMap_cons,List.flatMap_nil,kat_0 (t:=.alt a b) rfl]; rfl
  | yield=>
    intro d i;have hf:freeAt d .yield i i=d:=by simp [freeAt,pth]
    simp only [mvs,en,wt,List.flatMap_cons,List.flatMap_nil,kat_0 (t:=.yield) rfl,hf]
    cases d <;> rfl
  | pair a b=>
    intro d i;have hf:freeAt d (.pair a b) i i=d:=by simp [freeAt,pth]
    simp only [mvs,en,wt,List.flatMap_cons,List.flatMap_nil,kat_0 (t:=.pair a b) rfl,hf]
    cases d <;> rfl
  | seq a b ia ib=>intro d i; exact one (t:=.seq a b) rfl _ d i rfl rfl (fun p h1 h2=>by rw [pth,if_neg (by omega),if_pos h2]) (ia d (i+1))
  | hand a b ia ib=>intro d i; exact one (t:=.hand a b) rfl _ d i rfl rfl (fun p h1 h2=>by rw [pth,if_neg (by omega),if_pos h2]) (ia d (i+1))
  | going a b ia ib=>intro d i; exact one (t:=.going a b) rfl _ d i rfl rfl (fun p h1 h2=>by rw [pth,if_neg (by omega),if_pos h2]) (ia d (i+1))
  | stack a b ia ib=>intro d i; exact one (t:=.stack a b) rfl _ d i rfl rfl (fun p h1 h2=>by rw [pth,if_neg (by omega),if_pos h2]) (ia d (i+1))
  | block a ia=>
    intro d i
    show ((mvs false a (i+1)).map (upm .block)).map (fun m=>(m.p,m.h))=_
    rw [up_ph,ia false (i+1)];refine (x3e (t:=.block a) (d:=d) (i:=i) fun p hp=>?_).symm;have hin:=z5j a _ p hp;refine ⟨kat_1 (t:=.block a) rfl hin.1 hin.2,?_⟩;unfold freeAt;rw [pth,if_neg (by omega)];simp
  | par a b ia ib=>
    intro d i
    show ((mvs (d||bangT b) a (i+1)).map (upm (.par · b))++(mvs (d||bangT a) b (i+1+sz a)).map (upm (.par a ·))).map (fun m=>(m.p,m.h))=_
    rw [List.map_append,up_ph,up_ph,ia,ib];unfold en;rw [show wt (.par a b) i=wt a (i+1)++wt b (i+1+sz a) from rfl,List.flatMap_append]
    have e1:=x3e (t:=.par a b) (a:=a) (d:=d) (d':=d||bangT b) (i:=i) (j:=i+1) fun p hp=>by
      have hin:=z5j a _ p hp;refine ⟨kat_l (t:=.par a b) rfl hin.1 hin.2,?_⟩;unfold freeAt;rw [pth,if_neg (by omega),if_pos hin.2];obtain ⟨o,ins⟩:=pth a (i+1) p
      cases ins <;> simp
      cases d <;> cases bangT b <;> simp
    have e2:=x3e (t:=.par a b) (a:=b) (d:=d) (d':=d||bangT a) (i:=i) (j:=i+1+sz a) fun p hp=>by
      have hin:=z5j b _ p hp;refine ⟨kat_r (t:=.par a b) rfl hin.1,?_⟩;unfold freeAt;rw [pth,if_neg (by omega),if_neg (by omega)];obtain ⟨o,ins⟩:=pth b (i+1+sz a) p
      cases ins <;> simp
      cases d <;> cases bangT a <;> simp
    rw [e1,e2]
    rfl
  | _=>intro d i; rfl
inductive Made:Tm→Int→Option ByteArray→Tm→Prop
  | act (s):Made (.act s) 1 (some s) (.over 1)
  | altl (a b):Made (.alt a b) 2 none a
  | altr (a b):Made (.alt a b) 3 none b
  | yieldg:Made .yield 4 none (.over 1)
  | yields:Made .yield 5 none (.over 3)
  | pairg (a b):Made (.pair a b) 4 none (.going a b)
  | pairs (a b):Made (.pair a b) 5 none (.fin 3 .skip)
theorem y1o:∀ (t:Tm) (d:Bool) (i:Nat),∀ m∈mvs d t i,∃ pre s post u,flat t=pre++(flat s++post)∧m.p=i+pre.length∧flat m.r=pre++(flat u++post)∧Made s m.h m.l u:=by
  have here:∀ {t:Tm} {m:Mo} {i:Nat},m.p=i→Made t m.h m.l m.r→∃ pre s post u,flat t=pre++(flat s++post)∧m.p=i+pre.length∧flat m.r=pre++(flat u++post)∧Made s m.h m.l u:=
    fun {t m i} h k=>⟨[],t,[],m.r,by simp,by simp [h],by simp,k⟩
  have down:∀ {a:Tm} {m:Mo} {i:Nat} (f:Tm→Tm) (n x:List Nd),(∀ c,flat (f c)=n++(flat c++x))→(∃ pre s post u,flat a=pre++(flat s++post)∧m.p=(i+n.length)+pre.length∧flat m.r=pre++(flat u++post)∧Made s m.h m.l u)→
      ∃ pre s post u,flat (f a)=pre++(flat s++post)∧(upm f m).p=i+pre.length∧flat (upm f m).r=pre++(flat u++post)∧Made s (upm f m).h (upm f m).l u:=by
    rintro a m i f n x hf ⟨pre,s,post,u,h1,h2,h3,h4⟩;refine ⟨n++pre,s,post++x,u,by rw [hf,h1]; simp,?_,?_,h4⟩
    · show m.p=_
      rw [h2,List.length_append];omega
    · show flat (f m.r)=_
      rw [hf,h3];simp
  intro t
  induction t with
  | act s=>intro d i m hm; simp only [mvs,List.mem_singleton] at hm; subst hm; exact here rfl (.act s)
  | alt a b=>
    intro d i m hm;simp only [mvs,List.mem_cons,List.not_mem_nil,or_false] at hm
    rcases hm with rfl | rfl
    · exact here rfl (.altl a b)
    · exact here rfl (.altr a b)
  | yield=>
    intro d i m hm
    cases d <;> simp [mvs] at hm
    · subst hm; exact here rfl .yieldg
    · rcases hm with rfl | rfl
      · exact here rfl .yieldg
      · exact here rfl .yields
  | pair a b=>
    intro d i m hm
    cases d <;> simp [mvs] at hm
    · subst hm; exact here rfl (.pairg a b)
    · rcases hm with rfl | rfl
      · exact here rfl (.pairg a b)
      · exact here rfl (.pairs a b)
  | seq a b ia ib=>intro d i m hm; obtain ⟨n,hn,rfl⟩:=List.mem_map.1 hm; exact down (.seq · b) [nOf 5] (flat b) (fun _=>rfl) (ia _ _ n hn)
  | hand a b ia ib=>intro d i m hm; obtain ⟨n,hn,rfl⟩:=List.mem_map.1 hm; exact down (.hand · b) [nOf 8] (flat b) (fun _=>rfl) (ia _ _ n hn)
  | going a b ia ib=>intro d i m hm; obtain ⟨n,hn,rfl⟩:=List.mem_map.1 hm; exact down (.going · b) [nOf 12] (flat b) (fun _=>rfl) (ia _ _ n hn)
  | stack a b ia ib=>intro d i m hm; obtain ⟨n,hn,rfl⟩:=List.mem_map.1 hm; exact down (.stack · b) [nOf 13] (flat b) (fun _=>rfl) (ia _ _ n hn)
  | block a ia=>intro d i m hm; obtain ⟨n,hn,rfl⟩:=List.mem_map.1 hm; exact down .block [nOf 9] [] (fun _=>by simp [flat]) (ia _ _ n hn)
  | par a b ia ib=>
    intro d i m hm
    rcases List.mem_append.1 hm with hm | hm
    · obtain ⟨n,hn,rfl⟩:=List.mem_map.1 hm; exact down (.par · b) [nOf 7] (flat b) (fun _=>rfl) (ia _ _ n hn)
    · obtain ⟨n,hn,rfl⟩:=List.mem_map.1 hm;refine down (.par a ·) (nOf 7::flat a) [] (fun _=>by simp [flat]) ?_;have:=ib _ _ n hn;rw [List.length_cons,Se.flat_len,show i+(sz a+1)=i+1+sz a by omega];exact this
  | _=>intro d i m hm; exact absurd hm (by simp [mvs])
end Sp
namespace Do
open Go Go.RowKit Rw YtpingbiibbmcaaaGreatDoor.So Se
theorem infoInt:(Tryz.prog.info? 3).map (fun i=>(i.zero,i.size,i.bytes))=some (some (.int .i64 0),1,8):=by kernel_rfl
def GotJ (base:Nat) (w:World) (v:Value) (l:List Int):Prop:=w.ownsRow base 3 1 v l.length (l.map (.int .i64))∧base≤w.heap.size
theorem GotJ.ints {base:Nat} {w:World} {v:Value} {l:List Int} (h:GotJ base w v l):Ints w v l:=Ap.Rd.owned h.1
theorem GotJ.start (base:Nat) (w:World) (hb:base≤w.heap.size):GotJ base w (.slice none 0 0) []:=⟨⟨rfl,.inl ⟨rfl,rfl⟩⟩,hb⟩
theorem GotJ.below {base:Nat} {w w':World} {v:Value} {l:List Int} (h:GotJ base w v l) (hb:Below w.heap.size w w'):GotJ base w' v l:=⟨Ap.own_below h.1 hb,Nat.le_trans h.2 hb.size⟩
theorem GotJ.slice {base:Nat} {w:World} {v:Value} {l:List Int} (h:GotJ base w v l):∃ a c,v=.slice a l.length c:=by
  obtain ⟨_,a,c,e,-⟩:=h.ints;exact ⟨a,c,e⟩
theorem GotJ.row {base:Nat} {w:World} {v y:Value} {l m:List Int} (h:GotJ base w v l) (hy:Ints w y m) (hl:l.length+m.length≤2000000) :
    ∃ v' w',(Builtin.append_ #[23,23] 23 #[v,y]).run Tryz.prog w=.ok v' w'∧GotJ base w' v' (l++m)∧Below base w w':=by
  obtain ⟨i0,hi,hz,hs1,hb8⟩:=info_parts infoInt
  obtain ⟨v',w',h1,h2,_,h4,_⟩:=Ap.z0t (P:=Tryz.prog) (ty:=23) Tryz.underlying23 hi hz hs1 hb8 (by rfl) (by omega) h.1 h.2 hy
    (by intro u hu; obtain ⟨x,_,rfl⟩:=List.mem_map.1 hu; rfl) (by unfold maxLen; omega) (by omega)
  exact ⟨v',w',h1,⟨by rw [List.length_append,List.map_append]; exact h2,Nat.le_trans h.2 h4.size⟩,h4⟩
theorem int_new (w:World) (x:Int) (ty:TypeId):Ints (w.alloc (.cells #[.int .i64 x] ty)) (.slice (some ⟨w.heap.size,0,none⟩) 1 1) [x]:=by
  refine ⟨rfl,some ⟨w.heap.size,0,none⟩,1,rfl,Nat.le_refl _,fun h=>(by cases h),fun _=>⟨w.heap.size,0,rfl,fun j u hu=>?_⟩⟩;rw [Nat.zero_add,World.cell?_alloc_new]
  simpa using hu
theorem ints_nil (w:World):Ints w (.slice none 0 0) []:=⟨rfl,none,0,rfl,Nat.le_refl _,fun _=>⟨rfl,rfl⟩,fun h=>absurd h (Nat.lt_irrefl 0)⟩
def onT (kind k:Int):Bool:=if kind=5∨kind=8∨kind=12∨kind=13∨kind=9 then k==0 else kind==7
theorem mem_take {l:List Int} {k:Nat} {x:Int} (h:k<l.length):x∈l.take (k+1)↔x∈l.take k∨x=l[k]:=by
  rw [List.take_succ_eq_append_getElem h,List.mem_append,List.mem_singleton]
def sameJ (l m:List Int):Bool:=decide (l=m)
theorem sameJ_at {l m:List Int} {k:Nat} (h1:k<l.length) (h2:k<m.length):sameJ (l.drop k) (m.drop k)=(decide (l[k]=m[k])&&sameJ (l.drop (k+1)) (m.drop (k+1))):=by
  unfold sameJ;rw [List.drop_eq_getElem_cons h1,List.drop_eq_getElem_cons h2,Bool.eq_iff_iff];simp only [decide_eq_true_eq,Bool.and_eq_true,List.cons.injEq]
theorem x5y (a1 a2:Option Addr) (c1 c2 n m:Nat) (w:World) (h:n≠m) :
    Calls Tryz.prog 29 #[.slice a1 n c1,.slice a2 m c2] w fun e w'=>e=.returned (.bool false)∧Below w.heap.size w w':=by
  have hne:((n:Int)==(m:Int))=false:=by rw [beq_eq_false_iff_ne]; omega
  have hne':((n:Int) != (m:Int))=true:=by rw [bne_iff_ne]; omega
  go_enter Tryz.func29,Tryz.ntmps29
  go_wp2_with fail;go_ret;exact ⟨rfl,Below.refl _ _⟩
theorem y2c (a1 a2:Option Addr) (c1 c2:Nat) (w:World) :
    Calls Tryz.prog 29 #[.slice a1 0 c1,.slice a2 0 c2] w fun e w'=>e=.returned (.bool true)∧Below w.heap.size w w':=by
  go_enter Tryz.func29,Tryz.ntmps29
  go_wp2_with fail;refine Go.wp_loop_rounds 1 ?_;rw [rounds_succ];go_wp2_with fail;go_ret;exact ⟨rfl,Below.refl _ _⟩
theorem x5z (b1 o1 c1 b2 o2 c2:Nat) (l m:List Int) (w:World) (hl:l.length≤1000000) (he:m.length=l.length) (h1:AtI w b1 o1 l) (h2:AtI w b2 o2 m) :
    Calls Tryz.prog 29 #[.slice (some ⟨b1,o1,none⟩) l.length c1,.slice (some ⟨b2,o2,none⟩) l.length c2] w fun e w'=>e=.returned (.bool (sameJ l m))∧Below w.heap.size w w':=by
  have H1:=Lib.hid h1;have H2:=Lib.hid h2;have HE:=Lib.hid he;clear h1 h2 he
  go_enter Tryz.func29,Tryz.ntmps29
  go_wp2_with fail
  go_loopw [5] (fun i wr=>∃ k:Nat,k≤l.length∧i=.int .i64 k∧Hid (Below w.heap.size w wr)∧Hid (sameJ l m=sameJ (l.drop k) (m.drop k))) (fun i _=>l.length-(intOf i).toNat)
  case atStart=>exact ⟨0,Nat.zero_le _,rfl,Lib.hid (Below.refl _ _),Lib.hid rfl⟩
  case round=>
    obtain ⟨k,hk,rfl,HB,HS⟩:=hrel
    by_cases hlt:k<l.length
    · have hlt2:k<m.length:=by rw [HE.out]; exact hlt
      have e1:=H1.out k hlt;have e2:=H2.out k hlt2;have d1:wr.cell? ⟨b1,o1+k,none⟩=some (.int .i64 l[k]):=by rw [HB.out.cell (Ap.z0a e1)]; exact e1
      have d2:wr.cell? ⟨b2,o2+k,none⟩=some (.int .i64 m[k]):=by rw [HB.out.cell (Ap.z0a e2)]; exact e2
      have HA:=Lib.hid (HS.out.trans (sameJ_at hlt hlt2));clear e1 e2;obtain ⟨u,hu⟩:∃ u,l[k]=u:=⟨_,rfl⟩
      obtain ⟨v,hv⟩:∃ v,m[k]=v:=⟨_,rfl⟩
      rw [hu] at d1 HA;rw [hv] at d2 HA;clear hu hv
      by_cases huv:u=v
      · have hq:(u==v)=true:=by simpa using huv
        have hq2:(u != v)=false:=by rw [bne,hq]; rfl
        have HV:=Lib.hid huv;clear huv;go_wp2_with fail
        go_quiet (fail)
        go_wp2_with fail
        go_roundw
        case rel=>exact ⟨k+1,by omega,by go_num,Lib.hid (HB.out.trans (Below.drewN _ _ _)),Lib.hid (by rw [HA.out,decide_eq_true HV.out,Bool.true_and])⟩
        case measure=>simp [intOf]; omega
      · have hq:(u==v)=false:=beq_eq_false_iff_ne.2 huv;have hq2:(u != v)=true:=by rw [bne,hq]; rfl
        have HV:=Lib.hid huv;clear huv;go_wp2_with fail
        go_quiet (fail)
        go_wp2_with fail;go_ret;exact ⟨ret_bool (by rw [HA.out,decide_eq_false HV.out,Bool.false_and]),HB.out.trans (Below.drewN _ _ _)⟩
    · go_wp2_with fail;go_ret;refine ⟨ret_bool ?_,HB.out⟩;rw [HS.out,List.drop_eq_nil_of_le (by omega),List.drop_eq_nil_of_le (by rw [HE.out]; omega)]
      rfl
theorem v1r (x y:Value) (l m:List Int) (w:World) (hx:Ints w x l) (hy:Ints w y m) (hl:l.length≤1000000) :
    Calls Tryz.prog 29 #[x,y] w fun e w'=>e=.returned (.bool (sameJ l m))∧Below w.heap.size w w':=by
  by_cases he:l.length=m.length
  · rcases hx.form with ⟨rfl,a,cap,rfl⟩ | ⟨b,off,cap,rfl,_,hc⟩
    · obtain rfl:m=[]:=List.eq_nil_of_length_eq_zero he.symm;obtain ⟨_,a',cap',rfl,_⟩:=hy;exact y2c a a' cap cap' w
    · rcases hy.form with ⟨rfl,a',cap',rfl⟩ | ⟨b',off',cap',rfl,_,hc'⟩
      · obtain rfl:l=[]:=List.eq_nil_of_length_eq_zero he;exact y2c _ a' cap cap' w
      · rw [← he];exact x5z b off cap b' off' cap' l m w hl he.symm hc hc'
  · rw [show sameJ l m=false from decide_eq_false fun e=>he (by rw [e])];obtain ⟨_,a,cap,rfl,_⟩:=hx;obtain ⟨_,a',cap',rfl,_⟩:=hy;exact x5y a a' cap cap' l.length m.length w he
end Do
end Go.Proofs.YtpingbiibbmcaaaGreatDoor
