/- Laws that the last text leans on. -/
import Derived.Test.YtpingbiibbmcaaaGreatDoorQ16

set_option maxRecDepth 20000
set_option maxHeartbeats 2000000
namespace Go.Proofs.YtpingbiibbmcaaaGreatDoor
namespace Tr
open Go Go.RowKit
def pr (p q:Tr):List Tr:=norm ((mx 19 p.a q.a).map fun r=>⟨r,Sg.both p.e q.e⟩)
end Tr
namespace Rf
open Go Go.RowKit Rw
theorem infoIn:(Tryz.prog.info? 3).map (fun i=>(i.zero,i.size,i.bytes))=some (some (.int .i64 0),1,8):=by kernel_rfl
def GotI (w wr:World) (v:Value) (P:List Nat):Prop:=wr.ownsRow w.heap.size 3 1 v P.length (P.map fun (i:Nat)=>.int .i64 (i:Int))∧Below w.heap.size w wr
def Plc (w:World) (v:Value) (P:List Nat):Prop:=Ap.Rd w 1 v P.length (P.map fun (i:Nat)=>.int .i64 (i:Int))
theorem Plc.below {w w':World} {v:Value} {P:List Nat} (h:Plc w v P) (hb:Below w.heap.size w w'):Plc w' v P:=Ap.Rd.below h hb
def AtP (w:World) (b off:Nat) (P:List Nat):Prop:=∀ k,(h:k<P.length)→w.cell? ⟨b,off+k,none⟩=some (.int .i64 (P[k]:Int))
theorem Plc.form {w:World} {v:Value} {P:List Nat} (h:Plc w v P):(P=[]∧∃ a cap,v=.slice a 0 cap)∨∃ b off cap,v=.slice (some ⟨b,off,none⟩) P.length cap∧AtP w b off P:=by
  obtain ⟨_,a,cap,rfl,hle,_,hcell⟩:=h
  by_cases h0:0<P.length
  · obtain ⟨b,off,rfl,hj⟩:=hcell h0;exact Or.inr ⟨b,off,cap,rfl,fun k hk=>hj _ _ (by rw [List.getElem?_map,List.getElem?_eq_getElem hk]; rfl)⟩
  · have:P=[]:=List.eq_nil_of_length_eq_zero (by omega);subst this;exact Or.inl ⟨rfl,a,cap,rfl⟩
end Rf
namespace Se
open Go Go.RowKit Rw YtpingbiibbmcaaaGreatDoor.So
def NdO (base:Nat) (w:World) (v:Value) (t:Tm):Prop:=Ap.RdO (fun g=>base≤g) w 3 v (flat t).length (cls (flat t))
theorem NdO.nds {base:Nat} {w:World} {v:Value} {t:Tm} (h:NdO base w v t):Nds w v (flat t):=Ap.RdO.rd h
theorem NdO.below {base:Nat} {w w':World} {v:Value} {t:Tm} (h:NdO base w v t) (hb:Below w.heap.size w w'):NdO base w' v t:=Ap.RdO.below h hb
theorem NdO.more {base base':Nat} {w:World} {v:Value} {t:Tm} (h:NdO base w v t) (hb:base'≤base):NdO base' w v t:=Ap.RdO.imp h fun _ _ h=>Nat.le_trans hb h
def OutB (base:Nat) (t:Tm) (w:World) (e:Ending) (w':World):Prop:=∃ y,e=.returned y∧NdO base w' y t∧Below w.heap.size w w'
def nml:List Nd→ByteArray
  | []=>⟨#[]⟩
  | n::_=>n.n
def nmT (t:Tm):ByteArray:=nml (flat t)
theorem at0n {l:List Nd} (h:0<l.length):l[0].n=nml l:=by
  cases l with
  | nil=>simp at h
  | cons n r=>rfl
theorem z1w {w:World} {v:Value} {t:Tm} (hv:Nds w v (flat t)):∃ b o c,v=.slice (some ⟨b,o,none⟩) (sz t) c∧sz t≤c∧b<w.heap.size∧(∀ w',Below w.heap.size w w'→w'.cell? ⟨b,o,none⟩=some (.int .i64 (kd t))∧w'.cell? ⟨b,o+1,none⟩=some (.string (nmT t))∧w'.cell? ⟨b,o+2,none⟩=some (.int .i64 (sg t)))∧At w b o (flat t):=by
  obtain ⟨b,o,c,rfl,hc,hlt,hw,hat⟩:=form hv;refine ⟨b,o,c,rfl,hc,hlt,fun w' hb=>⟨(hw w' hb).1,?_,(hw w' hb).2⟩,hat⟩;have hp:=z0e t;have hl:=flat_len t;have h2:=(hat 0 (by omega)).2.1;rw [Nat.zero_mul,Nat.add_zero] at h2;rw [hb.cell (p:=⟨b,o+1,none⟩) hlt,h2];rw [at0n (by omega)]
  rfl
theorem eq_ndP (x y:Nd) (w:World):(binOp .eql 68 (.agg #[.int .i64 x.k,.string x.n,.int .i64 x.s]) (.agg #[.int .i64 y.k,.string y.n,.int .i64 y.s])).run Tryz.prog w=.ok (.bool (decide (x=y))) w:=by
  rw [run_eql_struct,show (10000:Nat)=9998+2 from rfl,v2q]
  rfl
theorem eq_bare (k s j r:Int) (n:ByteArray) (w:World):(binOp .eql 68 (.agg #[.int .i64 k,.string n,.int .i64 s]) (.agg #[.int .i64 j,.string ⟨#[]⟩,.int .i64 r])).run Tryz.prog w=.ok (.bool (decide ((⟨k,n,s⟩:Nd)=⟨j,⟨#[]⟩,r⟩))) w:=eq_ndP ⟨k,n,s⟩ ⟨j,⟨#[]⟩,r⟩ w
theorem z1e (s:Int) (w:World):Calls Tryz.prog 208 #[.int .i64 s] w fun e w'=>e=.returned (.agg #[.int .i64 11,.string ⟨#[]⟩,.int .i64 s])∧Below w.heap.size w w':=by
  go_enter Tryz.func208,Tryz.ntmps208
  go_wp2_with fail;refine bodyPost_ret (v:=.agg #[.int .i64 11,.string ⟨#[]⟩,.int .i64 s]) (by simp [results,Tryz.results208,go_sem]) rfl ⟨rfl,?_⟩;exact z0b w _
theorem z1d (s:Int) (w:World):Calls Tryz.prog 273 #[.int .i64 s] w fun e w'=>e=.returned (.agg #[.int .i64 14,.string ⟨#[]⟩,.int .i64 s])∧Below w.heap.size w w':=by
  go_enter Tryz.func273,Tryz.ntmps273
  go_wp2_with fail;refine bodyPost_ret (v:=.agg #[.int .i64 14,.string ⟨#[]⟩,.int .i64 s]) (by simp [results,Tryz.results273,go_sem]) rfl ⟨rfl,?_⟩;exact z0b w _
def goK (k:Int):Int:=if k=7 then 2 else if k=5∨k=8∨k=9∨k=12∨k=13 then 1 else 0
theorem z1j (t:Tm) (w:World):Calls Tryz.prog 156 #[.int .i64 (kd t)] w fun e w'=>e=.returned (.int .i64 (goK (kd t)))∧w=w':=by
  have hk:=kinds (z0i t).ar;change kd t=1∨kd t=2∨kd t=3∨kd t=4∨kd t=5∨kd t=6∨kd t=7∨kd t=8∨kd t=9∨kd t=10∨kd t=11∨kd t=12∨kd t=13∨kd t=14 at hk;generalize kd t=k at hk
  rcases hk with rfl | rfl | rfl | rfl | rfl | rfl | rfl | rfl | rfl | rfl | rfl | rfl | rfl | rfl
  all_goals go_enter Tryz.func156,Tryz.ntmps156
  all_goals go_wp2_with fail
  all_goals go_ret
  all_goals exact ⟨rfl,rfl⟩
theorem y8n {w:World} {y1 y2:Value} {l1 l2:List Nd} (h1:Nds w y1 l1) (h2:Nds w y2 l2) (ty:TypeId):Rws (w.alloc (.cells #[y1,y2] ty)) (.slice (some ⟨w.heap.size,0,none⟩) 2 2) [l1,l2]:=by
  refine ⟨[y1,y2],⟨rfl,_,2,rfl,Nat.le_refl _,fun h=>(by cases h),fun _=>⟨w.heap.size,0,rfl,fun j u hu=>?_⟩⟩,h1.below (z0b w _),h2.below (z0b w _),trivial⟩
  match j,hu with
  | 0,hu=>simp at hu; subst hu; simp
  | 1,hu=>simp at hu; subst hu; simp
  | j+2,hu=>simp at hu
theorem rws_one {w:World} {y1:Value} {l1:List Nd} (h1:Nds w y1 l1) (ty:TypeId):Rws (w.alloc (.cells #[y1] ty)) (.slice (some ⟨w.heap.size,0,none⟩) 1 1) [l1]:=by
  refine ⟨[y1],⟨rfl,_,1,rfl,Nat.le_refl _,fun h=>(by cases h),fun _=>⟨w.heap.size,0,rfl,fun j u hu=>?_⟩⟩,h1.below (z0b w _),trivial⟩
  match j,hu with
  | 0,hu=>simp at hu; subst hu; simp
  | j+1,hu=>simp at hu
theorem rws_none (w:World):Rws w (.slice none 0 0) []:=⟨[],⟨rfl,none,0,rfl,Nat.le_refl _,fun _=>⟨rfl,rfl⟩,fun h=>absurd h (Nat.lt_irrefl 0)⟩,trivial⟩
theorem mkP (base:Nat) (x:Nd) (ls:List (List Nd)) (t:Tm) (h:flat t=x::ls.flatten) (v:Value) (w:World) (hv:Rws w v ls) (hl:ls.length≤2) (hs:sz t≤1000) (hb:base≤w.heap.size) :
    Calls Tryz.prog 207 #[.agg #[.int .i64 x.k,.string x.n,.int .i64 x.s],v] w (OutB base t w):=by
  have e:=flat_len t;rw [h,List.length_cons] at e;refine (Rx.y6f x v ls w hv (by omega) (by omega)).mono ?_;rintro e w1 ⟨y,rfl,hn,hb1⟩;refine ⟨y,rfl,?_,hb1⟩;unfold NdO;rw [h];exact Ap.RdO.imp hn fun _ _ h=>Nat.le_trans hb h
theorem mkP0 (base:Nat) (k s:Int) (t:Tm) (h:flat t=[⟨k,⟨#[]⟩,s⟩]) (w:World) (hb:base≤w.heap.size) :
    Calls Tryz.prog 207 #[.agg #[.int .i64 k,.string ⟨#[]⟩,.int .i64 s],.slice none 0 0] w (OutB base t w):=
  mkP base ⟨k,⟨#[]⟩,s⟩ [] t h _ w (rws_none w) (by simp) (by have:=flat_len t; rw [h] at this; simp at this; omega) hb
theorem mkP1 (base:Nat) (k s:Int) (t a:Tm) (h:flat t=⟨k,⟨#[]⟩,s⟩::flat a) (v:Value) (w:World) (ty:TypeId) (ha:Nds w v (flat a)) (hs:sz t≤1000) (hb:base≤w.heap.size) :
    Calls Tryz.prog 207 #[.agg #[.int .i64 k,.string ⟨#[]⟩,.int .i64 s],.slice (some ⟨w.heap.size,0,none⟩) 1 1] (w.alloc (.cells #[v] ty)) (OutB base t w):=by
  refine (mkP base ⟨k,⟨#[]⟩,s⟩ [flat a] t (by rw [h]; simp) _ _ (rws_one ha ty) (by simp) hs (by simp; omega)).mono ?_;rintro e w1 ⟨y,rfl,hn,hb1⟩;exact ⟨y,rfl,hn,(z0b w _).trans (hb1.mono (z0b w _).size)⟩
theorem mkP2 (base:Nat) (k s:Int) (t a b:Tm) (h:flat t=⟨k,⟨#[]⟩,s⟩::(flat a++flat b)) (v u:Value) (w:World) (ty:TypeId) (ha:Nds w v (flat a)) (hu:Nds w u (flat b)) (hs:sz t≤1000) (hb:base≤w.heap.size) :
    Calls Tryz.prog 207 #[.agg #[.int .i64 k,.string ⟨#[]⟩,.int .i64 s],.slice (some ⟨w.heap.size,0,none⟩) 2 2] (w.alloc (.cells #[v,u] ty)) (OutB base t w):=by
  refine (mkP base ⟨k,⟨#[]⟩,s⟩ [flat a,flat b] t (by rw [h]; simp) _ _ (y8n ha hu ty) (by simp) hs (by simp; omega)).mono ?_;rintro e w1 ⟨y,rfl,hn,hb1⟩;exact ⟨y,rfl,hn,(z0b w _).trans (hb1.mono (z0b w _).size)⟩
theorem mkP2d (base:Nat) (k s:Int) (t a b:Tm) (h:flat t=⟨k,⟨#[]⟩,s⟩::(flat a++flat b)) (v u:Value) (w:World) (ty:TypeId) (ha:Nds w v (flat a)) (hu:Nds w u (flat b)) (hs:sz t≤1000) (hb:base≤w.heap.size) :
    Calls Tryz.prog 207 #[.agg #[.int .i64 k,.string ⟨#[]⟩,.int .i64 s],.slice (some ⟨w.heap.size,0,none⟩) 2 2] (w.alloc (.cells #[v,u] ty)).drew (OutB base t w):=by
  refine (mkP base ⟨k,⟨#[]⟩,s⟩ [flat a,flat b] t (by rw [h]; simp) _ _ ((y8n ha hu ty).below (Below.refl _ _).drew) (by simp) hs (by simp; omega)).mono ?_;rintro e w1 ⟨y,rfl,hn,hb1⟩;exact ⟨y,rfl,hn,(z0b w _).drew.trans (hb1.mono (z0b w _).drew.size)⟩
theorem mkPr (base:Nat) (k s:Int) (t a b:Tm) (h:flat t=⟨k,⟨#[]⟩,s⟩::(flat a++flat b)) (v:Value) (w:World) (hv:Rws w v [flat a,flat b]) (hs:sz t≤1000) (hb:base≤w.heap.size) :
    Calls Tryz.prog 207 #[.agg #[.int .i64 k,.string ⟨#[]⟩,.int .i64 s],v] w (OutB base t w):=mkP base ⟨k,⟨#[]⟩,s⟩ [flat a,flat b] t (by rw [h]; simp) v w hv (by simp) hs hb
theorem z0m (w:World) (k s:Int) (nm:ByteArray) (ty:TypeId):∀ w1,Below (w.alloc (.cells #[.int .i64 k,.string nm,.int .i64 s] ty)).heap.size (w.alloc (.cells #[.int .i64 k,.string nm,.int .i64 s] ty)) w1→w1.cell? ⟨w.heap.size,0,none⟩=some (.int .i64 k)∧w1.cell? ⟨w.heap.size,1,none⟩=some (.string nm)∧w1.cell? ⟨w.heap.size,2,none⟩=some (.int .i64 s):=by
  intro w1 hb;rw [hb.cell (p:=⟨w.heap.size,0,none⟩) (by simp),hb.cell (p:=⟨w.heap.size,1,none⟩) (by simp),hb.cell (p:=⟨w.heap.size,2,none⟩) (by simp)];simp [go_sem]
abbrev PS (t:Tm):Prop:=∀ (v:Value) (w:World),Nds w v (flat t)→Calls Tryz.prog 96 #[v] w (OutB w.heap.size (S t) w)
end Se
namespace Tr
open Go
theorem v1a {p q t:Tr} (h:t∈pr p q):t.a∈mx 19 p.a q.a∧t.e=Sg.both p.e q.e:=by
  unfold pr at h;obtain ⟨r,hr,rfl⟩:=List.mem_map.1 ((z0s _ _).1 h);exact ⟨hr,rfl⟩
theorem sub_self:∀ a:List ByteArray,sub a a=true
  | []=>rfl
  | x::a=>by rw [sub,if_pos rfl]; exact sub_self a
end Tr
namespace Tr
open Go Go.RowKit
def sgn (c:Int):Int:=if c<0 then -1 else if 0<c then 1 else 0
def Mine (base:Nat) (w:World) (v:Value) (l:List ByteArray):Prop:=
  StrsO (fun b=>base≤b) w v l∧∀ b off cap,v=.slice (some ⟨b,off,none⟩) l.length cap→∀ j,j<l.length→w.frozen? ⟨b,off+j,none⟩=false
def ThnPost (t:Tr) (w:World) (e:Ending) (w':World):Prop:=∃ v,e=.returned (.agg #[v,.int .i64 t.e])∧Mine w.heap.size w' v t.a∧Below w.heap.size w w'
theorem Tab.below {w w':World} (h:Sg.Tab w) (hb:Below w.heap.size w w'):Sg.Tab w':=by
  obtain ⟨t,fr,hg⟩:=h;refine ⟨t,fr,?_⟩;rw [hb.block _ ?_]
  · exact hg
  · exact Nat.lt_of_not_le fun hle=>by
      rw [Array.getElem?_eq_none hle] at hg
      cases hg
abbrev bA:ByteArray:=⟨#[97]⟩
abbrev bB:ByteArray:=⟨#[98]⟩
abbrev bC:ByteArray:=⟨#[99]⟩
abbrev tP:Tr:=⟨[bA],1⟩
abbrev tQ:Tr:=⟨[bB,bC],2⟩
end Tr
namespace Mn
open Go Tr
def hnd (p q:Tr):Tr:=if p.e=2 then ⟨p.a++q.a,q.e⟩ else p
def one (k:Int) (p q:Tr):List Tr:=if k=5 then [thn p q] else if k=7 then pr p q else [hnd p q]
def two (k:Int) (A B:List Tr):List Tr:=if k=6 then A++B else A.flatMap fun p=>B.flatMap (one k p)
def blk1 (x:Pr):List Tr:=if x.p.e=1 then [x.p] else if x.p.e=2 then [⟨x.p.a++x.q.a,x.q.e⟩] else []
def blk (X:List Pr):List Tr:=X.flatMap blk1
def tick:Tr:=⟨[],1⟩
def way:Pr:=⟨⟨[],3⟩,tick⟩
def going1 (B:List Tr) (p:Tr):List Pr:=if p.e=1 then B.map (Pr.mk p) else [⟨p,tick⟩]
def going (A B:List Tr):List Pr:=A.flatMap (going1 B)
def seq1 (Y:List Pr) (x:Pr):List Pr:=if x.p.e=1 then Y.map fun y=>⟨thn x.p y.p,thn y.q x.q⟩ else [x]
def seq (X Y:List Pr):List Pr:=X.flatMap (seq1 Y)
def par1 (x y:Pr):List Pr:=(pr x.p y.p).flatMap fun p=>(pr x.q y.q).map (Pr.mk p)
def par (X Y:List Pr):List Pr:=X.flatMap fun x=>Y.flatMap (par1 x)
def stack1 (C:List Tr) (x:Pr):List Pr:=C.map fun c=>⟨x.p,thn x.q c⟩
def stack (X:List Pr) (C:List Tr):List Pr:=X.flatMap (stack1 C)
def fin (e:Int) (C:List Tr):List Pr:=C.map (Pr.mk ⟨[],e⟩)
def twoP (k:Int) (X Y:List Pr):List Pr:=if k=5 then seq X Y else if k=7 then par X Y else X++Y
def fac:Nat→Nat
  | 0=>1
  | n+1=>(n+1)*fac n
def bin:Nat→Nat→Nat
  | 0,_=>1
  | _+1,0=>1
  | i+1,j+1=>bin i (j+1)+bin (i+1) j
theorem y4d:∀ n,1≤fac n
  | 0=>Nat.le_refl _
  | n+1=>Nat.mul_pos (Nat.succ_pos n) (y4d n)
theorem z4b:∀ i j,1≤bin i j
  | 0,_=>by rw [bin]; exact Nat.le_refl _
  | _+1,0=>by rw [bin]; exact Nat.le_refl _
  | i+1,j+1=>by rw [bin]; have:=z4b i (j+1); omega
theorem y4e:∀ i j,fac i*fac j*bin i j=fac (i+j)
  | 0,j=>by simp [bin,fac]
  | i+1,0=>by simp [bin,fac]
  | i+1,j+1=>by
    have h1:=y4e i (j+1);have h2:=y4e (i+1) j;rw [show i+1+j=i+j+1 by omega] at h2;rw [show i+(j+1)=i+j+1 by omega] at h1;rw [show i+1+(j+1)=i+j+1+1 by omega,bin,Nat.mul_add]
    have e1:fac (i+1)*fac (j+1)*bin i (j+1)=(i+1)*fac (i+j+1):=by
      rw [← h1,fac];simp only [Nat.mul_assoc]
    have e2:fac (i+1)*fac (j+1)*bin (i+1) j=(j+1)*fac (i+j+1):=by
      rw [← h2,show fac (j+1)=(j+1)*fac j from rfl];simp only [Nat.mul_assoc,Nat.mul_left_comm]
    rw [e1,e2,← Nat.add_mul,show fac (i+j+1+1)=(i+j+1+1)*fac (i+j+1) from rfl]
    congr 1
    omega
theorem bin_l:∀ i j,bin i j≤bin (i+1) j
  | 0,j=>by rw [bin]; exact z4b _ _
  | i+1,0=>by rw [bin,bin]; exact Nat.le_refl _
  | i+1,j+1=>by rw [bin.eq_3 (i+1) j]; omega
theorem bin_r:∀ i j,bin i j≤bin i (j+1)
  | 0,j=>by rw [bin,bin]; exact Nat.le_refl _
  | i+1,0=>by rw [bin]; exact z4b _ _
  | i+1,j+1=>by rw [bin.eq_3 i (j+1)]; omega
theorem bin_ml (i j:Nat):∀ d,bin i j≤bin (i+d) j
  | 0=>Nat.le_refl _
  | d+1=>Nat.le_trans (bin_ml i j d) (bin_l (i+d) j)
theorem bin_mr (i j:Nat):∀ d,bin i j≤bin i (j+d)
  | 0=>Nat.le_refl _
  | d+1=>Nat.le_trans (bin_mr i j d) (bin_r i (j+d))
theorem z8l {i j i' j':Nat} (h1:i≤i') (h2:j≤j'):bin i j≤bin i' j':=by
  obtain ⟨d,rfl⟩:=Nat.exists_eq_add_of_le h1;obtain ⟨e,rfl⟩:=Nat.exists_eq_add_of_le h2;exact Nat.le_trans (bin_ml i j d) (bin_mr (i+d) j e)
theorem x0x (i j:Nat):∀ i' j',bin i j*bin i' j'≤bin (i+i') (j+j')
  | 0,j'=>by rw [bin,Nat.mul_one]; exact z8l (by omega) (by omega)
  | i'+1,0=>by rw [bin,Nat.mul_one]; exact z8l (by omega) (by omega)
  | i'+1,j'+1=>by
    have h1:=x0x i j i' (j'+1);have h2:=x0x i j (i'+1) j';rw [bin.eq_3 i' j',Nat.mul_add]
    have e:bin (i+(i'+1)) (j+(j'+1))=bin (i+i') (j+(j'+1))+bin (i+(i'+1)) (j+j'):=by
      rw [show i+(i'+1)=i+i'+1 by omega,show j+(j'+1)=j+j'+1 by omega,bin.eq_3]
    rw [e];exact Nat.add_le_add h1 h2
theorem v0q:∀ (n:Nat) (a b:List ByteArray),(mx n a b).length≤bin a.length b.length
  | n,[],b=>by rw [x2b]; exact z4b _ _
  | n,x::a,[]=>by rw [z8f]; exact z4b _ _
  | 0,x::a,y::b=>by simp [mx]
  | n+1,x::a,y::b=>by
    simp only [mx,List.length_append,List.length_map];have h1:=v0q n a (y::b);have h2:=v0q n (x::a) b
    show _≤bin (a.length+1) (b.length+1)
    rw [bin];exact Nat.add_le_add h1 h2
theorem x9c (p q:Tr):(pr p q).length≤bin p.a.length q.a.length:=by
  refine Nat.le_trans (z2w _) ?_;rw [List.length_map];exact v0q _ _ _
theorem flat_len {α β:Type} (f:α→List β) (m:Nat):∀ l:List α,(∀ x∈l,(f x).length≤m)→(l.flatMap f).length≤l.length*m
  | [],_=>by simp
  | x::l,h=>by
    rw [List.flatMap_cons,List.length_append,List.length_cons,Nat.add_mul,Nat.one_mul,Nat.add_comm];exact Nat.add_le_add (flat_len f m l fun y hy=>h y (by simp [hy])) (h x (by simp))
def K (n a:Nat):Nat:=2 ^ n*fac a
theorem K_pos (n a:Nat):1≤K n a:=Nat.mul_pos (Nat.two_pow_pos n) (y4d a)
theorem fac_add (a b:Nat):fac a*fac b≤fac (a+b):=by
  rw [← y4e];exact Nat.le_mul_of_pos_right _ (z4b a b)
theorem fac_l (a b:Nat):fac a≤fac (a+b):=Nat.le_trans (Nat.le_mul_of_pos_right _ (y4d b)) (fac_add a b)
theorem z5m {n n' a a':Nat} (h1:n≤n') (h2:a≤a'):K n a≤K n' a':=by
  obtain ⟨d,rfl⟩:=Nat.exists_eq_add_of_le h2;exact Nat.mul_le_mul (Nat.pow_le_pow_right (by omega) h1) (fac_l a d)
theorem K_mul (n m a b:Nat):K n a*(K m b*bin a b)=K (n+m) (a+b):=by
  unfold K;rw [← y4e,Nat.pow_add];simp only [Nat.mul_assoc,Nat.mul_left_comm]
theorem v4j (n m a b:Nat):K n a*K m b≤K (n+m) (a+b):=by
  rw [← K_mul];exact Nat.mul_le_mul_left _ (Nat.le_mul_of_pos_right _ (z4b a b))
theorem K_succ (n a:Nat):K (n+1) a=K n a+K n a:=by
  unfold K;rw [Nat.pow_succ,Nat.mul_assoc,Nat.mul_left_comm,Nat.two_mul]
theorem K_add (n m a b:Nat):K n a+K m b≤K (n+m+1) (a+b):=by
  rw [K_succ];exact Nat.add_le_add (z5m (by omega) (by omega)) (z5m (by omega) (by omega))
theorem K_last {n a:Nat} (hn:n≤24) (ha:a≤6):K n a≤12079595520:=Nat.le_trans (z5m hn ha) (by decide)
def CT (f:ByteArray→Bool) (a:Nat) (A:List Tr):Prop:=∀ t∈A,t.a.countP f≤a
def CP (f:ByteArray→Bool) (a:Nat) (X:List Pr):Prop:=∀ x∈X,x.p.a.countP f+x.q.a.countP f≤a
theorem y2k (f:ByteArray→Bool) (p q:Tr):(thn p q).a.countP f≤p.a.countP f+q.a.countP f:=by
  unfold thn
  split
  · simp [List.countP_append]
  · omega
theorem hnd_cnt (f:ByteArray→Bool) (p q:Tr):(hnd p q).a.countP f≤p.a.countP f+q.a.countP f:=by
  unfold hnd
  split
  · simp [List.countP_append]
  · omega
theorem v0p (f:ByteArray→Bool):∀ (n:Nat) (a b r:List ByteArray),r∈mx n a b→r.countP f=a.countP f+b.countP f
  | n,[],b,r,h=>by rw [x2b] at h; simp at h; simp [h]
  | n,x::a,[],r,h=>by rw [z8f] at h; simp at h; simp [h]
  | 0,x::a,y::b,r,h=>by simp [mx] at h
  | n+1,x::a,y::b,r,h=>by
    simp only [mx,List.mem_append,List.mem_map] at h
    rcases h with ⟨s,hs,rfl⟩ | ⟨s,hs,rfl⟩
    · have:=v0p f n a (y::b) s hs;rw [List.countP_cons,List.countP_cons (l:=a),this];omega
    · have:=v0p f n (x::a) b s hs;rw [List.countP_cons,List.countP_cons (l:=b),this];omega
theorem x9b (f:ByteArray→Bool) {p q t:Tr} (h:t∈pr p q):t.a.countP f=p.a.countP f+q.a.countP f:=v0p f _ _ _ _ (v1a h).1
theorem one_cnt (f:ByteArray→Bool) {k:Int} {p q t:Tr} (h:t∈one k p q):t.a.countP f≤p.a.countP f+q.a.countP f:=by
  unfold one at h
  split at h
  · rw [List.mem_singleton] at h; rw [h]; exact y2k f p q
  · split at h
    · exact Nat.le_of_eq (x9b f h)
    · rw [List.mem_singleton] at h; rw [h]; exact hnd_cnt f p q
theorem z4l {k:Int} {A B:List Tr} {t:Tr}:t∈two k A B↔if k=6 then t∈A∨t∈B else ∃ p∈A,∃ q∈B,t∈one k p q:=by
  unfold two
  split
  · exact List.mem_append
  · simp only [List.mem_flatMap]
theorem CT.norm {f:ByteArray→Bool} {a:Nat} {A:List Tr} (h:CT f a A):CT f a (norm A):=fun t ht=>h t ((z0s t A).1 ht)
theorem CP.norm {f:ByteArray→Bool} {a:Nat} {X:List Pr} (h:CP f a X):CP f a (pnorm X):=fun t ht=>h t ((z0l t X).1 ht)
theorem two_ct {f:ByteArray→Bool} {k:Int} {A B:List Tr} {a b:Nat} (h1:CT f a A) (h2:CT f b B):CT f (a+b) (two k A B):=fun t ht=>by
  rw [z4l] at ht
  split at ht
  · rcases ht with ht | ht
    · have:=h1 t ht; omega
    · have:=h2 t ht; omega
  · obtain ⟨p,hp,q,hq,ht⟩:=ht;have:=h1 p hp;have:=h2 q hq;have:=one_cnt f ht;omega
theorem blk_ct {f:ByteArray→Bool} {X:List Pr} {a:Nat} (h:CP f a X):CT f a (blk X):=fun t ht=>by
  obtain ⟨x,hx,ht⟩:=List.mem_flatMap.1 ht;have:=h x hx;unfold blk1 at ht
  split at ht
  · rw [List.mem_singleton] at ht; rw [ht]; omega
  · split at ht
    · rw [List.mem_singleton] at ht; rw [ht,List.countP_append]; exact this
    · cases ht
theorem x2x {f:ByteArray→Bool} {A B:List Tr} {a b:Nat} (h1:CT f a A) (h2:CT f b B):CP f (a+b) (going A B):=fun x hx=>by
  obtain ⟨p,hp,hx⟩:=List.mem_flatMap.1 hx;have:=h1 p hp;unfold going1 at hx
  split at hx
  · obtain ⟨q,hq,rfl⟩:=List.mem_map.1 hx;have:=h2 q hq
    show p.a.countP f+q.a.countP f≤a+b
    omega
  · rw [List.mem_singleton] at hx;rw [hx]
    show p.a.countP f+0≤a+b
    omega
theorem way_cp {f:ByteArray→Bool} {X:List Pr} {a:Nat} (h:CP f a X):CP f a (X++[way]):=fun x hx=>by
  rcases List.mem_append.1 hx with hx | hx
  · exact h x hx
  · rw [List.mem_singleton] at hx;rw [hx];exact Nat.zero_le _
theorem seq_cp {f:ByteArray→Bool} {X Y:List Pr} {a b:Nat} (h1:CP f a X) (h2:CP f b Y):CP f (a+b) (seq X Y):=fun z hz=>by
  obtain ⟨x,hx,hz⟩:=List.mem_flatMap.1 hz;have:=h1 x hx;unfold seq1 at hz
  split at hz
  · obtain ⟨y,hy,rfl⟩:=List.mem_map.1 hz;have:=h2 y hy;have:=y2k f x.p y.p;have:=y2k f y.q x.q
    show (thn x.p y.p).a.countP f+(thn y.q x.q).a.countP f≤a+b
    omega
  · rw [List.mem_singleton] at hz;rw [hz];omega
theorem z6c {x y z:Pr}:z∈par1 x y↔z.p∈pr x.p y.p∧z.q∈pr x.q y.q:=by
  unfold par1;simp only [List.mem_flatMap,List.mem_map]
  constructor
  · rintro ⟨p,hp,q,hq,rfl⟩;exact ⟨hp,hq⟩
  · rintro ⟨hp,hq⟩;exact ⟨z.p,hp,z.q,hq,rfl⟩
theorem par_cp {f:ByteArray→Bool} {X Y:List Pr} {a b:Nat} (h1:CP f a X) (h2:CP f b Y):CP f (a+b) (par X Y):=fun z hz=>by
  obtain ⟨x,hx,hz⟩:=List.mem_flatMap.1 hz;obtain ⟨y,hy,hz⟩:=List.mem_flatMap.1 hz;obtain ⟨hp,hq⟩:=z6c.1 hz;have:=h1 x hx;have:=h2 y hy;rw [x9b f hp,x9b f hq];omega
theorem stack_cp {f:ByteArray→Bool} {X:List Pr} {C:List Tr} {a b:Nat} (h1:CP f a X) (h2:CT f b C):CP f (a+b) (stack X C):=fun z hz=>by
  obtain ⟨x,hx,hz⟩:=List.mem_flatMap.1 hz;obtain ⟨c,hc,rfl⟩:=List.mem_map.1 hz;have:=h1 x hx;have:=h2 c hc;have:=y2k f x.q c
  show x.p.a.countP f+(thn x.q c).a.countP f≤a+b
  omega
theorem fin_cp {f:ByteArray→Bool} {e:Int} {C:List Tr} {a:Nat} (h:CT f a C):CP f a (fin e C):=fun z hz=>by
  obtain ⟨c,hc,rfl⟩:=List.mem_map.1 hz;have:=h c hc
  show 0+c.a.countP f≤a
  omega
theorem twoP_cp {f:ByteArray→Bool} {k:Int} {X Y:List Pr} {a b:Nat} (h1:CP f a X) (h2:CP f b Y):CP f (a+b) (twoP k X Y):=by
  unfold twoP
  split
  · exact seq_cp h1 h2
  · split
    · exact par_cp h1 h2
    · intro z hz
      rcases List.mem_append.1 hz with hz | hz
      · have:=h1 z hz; omega
      · have:=h2 z hz; omega
abbrev all:ByteArray→Bool:=fun _=>true
theorem CT.len {a:Nat} {A:List Tr} (h:CT all a A) {t:Tr} (ht:t∈A):t.a.length≤a:=by
  have:=h t ht
  rwa [List.countP_true] at this
theorem CP.len {a:Nat} {X:List Pr} (h:CP all a X) {x:Pr} (hx:x∈X):x.p.a.length+x.q.a.length≤a:=by
  have:=h x hx
  rwa [List.countP_true] at this
theorem one_len (k:Int) (p q:Tr):(one k p q).length≤bin p.a.length q.a.length:=by
  unfold one
  split
  · exact z4b _ _
  · split
    · exact x9c p q
    · exact z4b _ _
theorem two_len {k:Int} {A B:List Tr} {n m a b:Nat} (h1:CT all a A) (h2:CT all b B) (l1:A.length≤K n a) (l2:B.length≤K m b):(two k A B).length≤K (n+m+1) (a+b):=by
  unfold two
  split
  · rw [List.length_append];exact Nat.le_trans (Nat.add_le_add l1 l2) (K_add n m a b)
  · refine Nat.le_trans (flat_len _ (K m b*bin a b) A fun p hp=>?_) (Nat.le_trans (Nat.mul_le_mul_right _ l1) (by rw [K_mul]; exact z5m (by omega) (Nat.le_refl _)));refine Nat.le_trans (flat_len _ (bin a b) B fun q hq=>?_) (Nat.mul_le_mul_right _ l2);exact Nat.le_trans (one_len k p q) (z8l (h1.len hp) (h2.len hq))
theorem blk_len {X:List Pr} {n a:Nat} (h:X.length≤K n a):(blk X).length≤K (n+1) a:=by
  refine Nat.le_trans (flat_len _ 1 X fun x _=>?_) (by rw [Nat.mul_one]; exact Nat.le_trans h (z5m (by omega) (Nat.le_refl _)));unfold blk1
  repeat' split
  all_goals simp
theorem y6q {A B:List Tr} {n m a b:Nat} (l1:A.length≤K n a) (l2:B.length≤K m b):(going A B).length≤K (n+m) (a+b):=by
  refine Nat.le_trans (flat_len _ (K m b) A fun p _=>?_) (Nat.le_trans (Nat.mul_le_mul_right _ l1) (v4j n m a b));unfold going1
  split
  · rw [List.length_map]; exact l2
  · exact K_pos m b
theorem way_len {X:List Pr} {n a:Nat} (h:X.length≤K n a):(X++[way]).length≤K (n+1) a:=by
  rw [List.length_append,K_succ];exact Nat.add_le_add h (K_pos n a)
theorem seq_len {X Y:List Pr} {n m a b:Nat} (l1:X.length≤K n a) (l2:Y.length≤K m b):(seq X Y).length≤K (n+m) (a+b):=by
  refine Nat.le_trans (flat_len _ (K m b) X fun x _=>?_) (Nat.le_trans (Nat.mul_le_mul_right _ l1) (v4j n m a b));unfold seq1
  split
  · rw [List.length_map]; exact l2
  · exact K_pos m b
theorem par1_len {x y:Pr} {a b:Nat} (h1:x.p.a.length+x.q.a.length≤a) (h2:y.p.a.length+y.q.a.length≤b):(par1 x y).length≤bin a b:=by
  refine Nat.le_trans (flat_len _ (bin x.q.a.length y.q.a.length) _ fun p _=>?_) (Nat.le_trans (Nat.mul_le_mul_right _ (x9c _ _)) (Nat.le_trans (x0x _ _ _ _) (z8l h1 h2)));rw [List.length_map];exact x9c _ _
theorem par_len {X Y:List Pr} {n m a b:Nat} (h1:CP all a X) (h2:CP all b Y) (l1:X.length≤K n a) (l2:Y.length≤K m b):(par X Y).length≤K (n+m) (a+b):=by
  refine Nat.le_trans (flat_len _ (K m b*bin a b) X fun x hx=>?_) (Nat.le_trans (Nat.mul_le_mul_right _ l1) (by rw [K_mul]; exact Nat.le_refl _));refine Nat.le_trans (flat_len _ (bin a b) Y fun y hy=>?_) (Nat.mul_le_mul_right _ l2);exact par1_len (h1.len hx) (h2.len hy)
theorem x8a {X:List Pr} {C:List Tr} {n m a b:Nat} (l1:X.length≤K n a) (l2:C.length≤K m b):(stack X C).length≤K (n+m) (a+b):=by
  refine Nat.le_trans (flat_len _ (K m b) X fun x _=>?_) (Nat.le_trans (Nat.mul_le_mul_right _ l1) (v4j n m a b));unfold stack1;rw [List.length_map]; exact l2
theorem twoP_len {k:Int} {X Y:List Pr} {n m a b:Nat} (h1:CP all a X) (h2:CP all b Y) (l1:X.length≤K n a) (l2:Y.length≤K m b):(twoP k X Y).length≤K (n+m+1) (a+b):=by
  unfold twoP
  split
  · exact Nat.le_trans (seq_len l1 l2) (z5m (by omega) (Nat.le_refl _))
  · split
    · exact Nat.le_trans (par_len h1 h2 l1 l2) (z5m (by omega) (Nat.le_refl _))
    · rw [List.length_append];exact Nat.le_trans (Nat.add_le_add l1 l2) (K_add n m a b)
def Sgn (e:Int):Prop:=e=1∨e=2∨e=3
def ST (A:List Tr):Prop:=∀ t∈A,Sgn t.e
def SP (X:List Pr):Prop:=∀ x∈X,Sgn x.p.e∧Sgn x.q.e
theorem sgn_both {a b:Int} (h1:Sgn a) (h2:Sgn b):Sgn (Sg.both a b):=by
  rcases h1 with rfl | rfl | rfl <;> rcases h2 with rfl | rfl | rfl <;> first | exact Or.inl rfl | exact Or.inr (Or.inl rfl) | exact Or.inr (Or.inr rfl)
theorem y2q {p q:Tr} (h1:Sgn p.e) (h2:Sgn q.e):Sgn (thn p q).e:=by
  unfold thn
  split
  · exact h2
  · exact h1
theorem x8f {p q t:Tr} (h1:Sgn p.e) (h2:Sgn q.e) (h:t∈pr p q):Sgn t.e:=by
  rw [(v1a h).2];exact sgn_both h1 h2
theorem ST.norm {A:List Tr} (h:ST A):ST (norm A):=fun t ht=>h t ((z0s t A).1 ht)
theorem SP.norm {X:List Pr} (h:SP X):SP (pnorm X):=fun t ht=>h t ((z0l t X).1 ht)
theorem two_st {k:Int} {A B:List Tr} (h1:ST A) (h2:ST B):ST (two k A B):=fun t ht=>by
  rw [z4l] at ht
  split at ht
  · exact ht.elim (h1 t) (h2 t)
  · obtain ⟨p,hp,q,hq,ht⟩:=ht;unfold one at ht
    split at ht
    · rw [List.mem_singleton] at ht; rw [ht]; exact y2q (h1 p hp) (h2 q hq)
    · split at ht
      · exact x8f (h1 p hp) (h2 q hq) ht
      · rw [List.mem_singleton] at ht;rw [ht];unfold hnd
        split
        · exact h2 q hq
        · exact h1 p hp
theorem blk_st {X:List Pr} (h:SP X):ST (blk X):=fun t ht=>by
  obtain ⟨x,hx,ht⟩:=List.mem_flatMap.1 ht;have:=h x hx;unfold blk1 at ht
  split at ht
  · rw [List.mem_singleton] at ht; rw [ht]; exact this.1
  · split at ht
    · rw [List.mem_singleton] at ht; rw [ht]; exact this.2
    · cases ht
theorem sgn1:Sgn 1:=Or.inl rfl
theorem sgn3:Sgn 3:=Or.inr (Or.inr rfl)
theorem x2w {A B:List Tr} (h1:ST A) (h2:ST B):SP (going A B):=fun x hx=>by
  obtain ⟨p,hp,hx⟩:=List.mem_flatMap.1 hx;unfold going1 at hx
  split at hx
  · obtain ⟨q,hq,rfl⟩:=List.mem_map.1 hx;exact ⟨h1 p hp,h2 q hq⟩
  · rw [List.mem_singleton] at hx;rw [hx];exact ⟨h1 p hp,sgn1⟩
theorem way_sp {X:List Pr} (h:SP X):SP (X++[way]):=fun x hx=>by
  rcases List.mem_append.1 hx with hx | hx
  · exact h x hx
  · rw [List.mem_singleton] at hx;rw [hx];exact ⟨sgn3,sgn1⟩
theorem seq_sp {X Y:List Pr} (h1:SP X) (h2:SP Y):SP (seq X Y):=fun z hz=>by
  obtain ⟨x,hx,hz⟩:=List.mem_flatMap.1 hz;unfold seq1 at hz
  split at hz
  · obtain ⟨y,hy,rfl⟩:=List.mem_map.1 hz;exact ⟨y2q (h1 x hx).1 (h2 y hy).1,y2q (h2 y hy).2 (h1 x hx).2⟩
  · rw [List.mem_singleton] at hz;rw [hz];exact h1 x hx
theorem par_sp {X Y:List Pr} (h1:SP X) (h2:SP Y):SP (par X Y):=fun z hz=>by
  obtain ⟨x,hx,hz⟩:=List.mem_flatMap.1 hz;obtain ⟨y,hy,hz⟩:=List.mem_flatMap.1 hz;obtain ⟨hp,hq⟩:=z6c.1 hz;exact ⟨x8f (h1 x hx).1 (h2 y hy).1 hp,x8f (h1 x hx).2 (h2 y hy).2 hq⟩
theorem stack_sp {X:List Pr} {C:List Tr} (h1:SP X) (h2:ST C):SP (stack X C):=fun z hz=>by
  obtain ⟨x,hx,hz⟩:=List.mem_flatMap.1 hz;obtain ⟨c,hc,rfl⟩:=List.mem_map.1 hz;exact ⟨(h1 x hx).1,y2q (h1 x hx).2 (h2 c hc)⟩
theorem fin_sp {e:Int} {C:List Tr} (he:Sgn e) (h:ST C):SP (fin e C):=fun z hz=>by
  obtain ⟨c,hc,rfl⟩:=List.mem_map.1 hz;exact ⟨he,h c hc⟩
theorem twoP_sp {k:Int} {X Y:List Pr} (h1:SP X) (h2:SP Y):SP (twoP k X Y):=by
  unfold twoP
  split
  · exact seq_sp h1 h2
  · split
    · exact par_sp h1 h2
    · intro z hz;exact (List.mem_append.1 hz).elim (h1 z) (h2 z)
def LT (A:List Tr):Prop:=∃ t∈A,t.e=1∨t.e=2
def LP (X:List Pr):Prop:=∃ x∈X,(x.p.e=1∨x.p.e=2)∧(x.q.e=1∨x.q.e=2)
theorem LT.norm {A:List Tr} (h:LT A):LT (norm A):=by
  obtain ⟨t,ht,h⟩:=h;exact ⟨t,(z0s t A).2 ht,h⟩
theorem LP.norm {X:List Pr} (h:LP X):LP (pnorm X):=by
  obtain ⟨t,ht,h⟩:=h;exact ⟨t,(z0l t X).2 ht,h⟩
theorem LT.ne {A:List Tr} (h:LT A):A≠[]:=fun e=>by
  obtain ⟨t,ht,_⟩:=h;rw [e] at ht
  cases ht
theorem mx_ne:∀ (n:Nat) (a b:List ByteArray),a.length+b.length≤n→mx n a b≠[]
  | n,[],b,_=>by rw [x2b]; simp
  | n,x::a,[],_=>by rw [z8f]; simp
  | 0,x::a,y::b,h=>by simp at h
  | n+1,x::a,y::b,h=>by
    simp only [mx,ne_eq,List.append_eq_nil_iff,List.map_eq_nil_iff,not_and];intro e;exact absurd e (mx_ne n a (y::b) (by simp at h ⊢; omega))
theorem pr_ne {p q:Tr} (h:p.a.length+q.a.length≤19):∃ t∈pr p q,t.e=Sg.both p.e q.e:=by
  obtain ⟨r,hr⟩:=List.exists_mem_of_ne_nil _ (mx_ne 19 p.a q.a h);exact ⟨⟨r,Sg.both p.e q.e⟩,(z0s _ _).2 (List.mem_map.2 ⟨r,hr,rfl⟩),rfl⟩
theorem y9m {a b:Int} (h1:a=1∨a=2) (h2:b=1∨b=2):Sg.both a b=1∨Sg.both a b=2:=by
  rcases h1 with rfl | rfl <;> rcases h2 with rfl | rfl <;> first | exact Or.inl rfl | exact Or.inr rfl
theorem two_lt {k:Int} {A B:List Tr} {a b:Nat} (c1:CT all a A) (c2:CT all b B) (hab:a+b≤19) (h1:LT A) (h2:LT B):LT (two k A B):=by
  obtain ⟨p,hp,e1⟩:=h1;obtain ⟨q,hq,e2⟩:=h2;have key:∀ t,t∈one k p q→k≠6→(t.e=1∨t.e=2)→LT (two k A B):=fun t ht hk he=>⟨t,by rw [z4l,if_neg hk]; exact ⟨p,hp,q,hq,ht⟩,he⟩
  by_cases h6:k=6
  · exact ⟨p,by rw [z4l,if_pos h6]; exact .inl hp,e1⟩
  · by_cases h5:k=5
    · refine key (thn p q) (by unfold one; rw [if_pos h5]; simp) h6 ?_;unfold thn
      split
      · exact e2
      · exact e1
    · by_cases h7:k=7
      · obtain ⟨t,ht,he⟩:=pr_ne (p:=p) (q:=q) (by have:=c1.len hp; have:=c2.len hq; omega);exact key t (by unfold one; rw [if_neg h5,if_pos h7]; exact ht) h6 (by rw [he]; exact y9m e1 e2)
      · refine key (hnd p q) (by unfold one; rw [if_neg h5,if_neg h7]; simp) h6 ?_;unfold hnd
        split
        · exact e2
        · exact e1
theorem lv_thn {p q:Tr} (h1:p.e=1∨p.e=2) (h2:q.e=1∨q.e=2):(thn p q).e=1∨(thn p q).e=2:=by
  unfold thn
  split
  · exact h2
  · exact h1
theorem going_lp {A B:List Tr} (h1:LT A) (h2:LT B):LP (going A B):=by
  obtain ⟨p,hp,e1⟩:=h1;obtain ⟨q,hq,e2⟩:=h2
  by_cases h:p.e=1
  · exact ⟨⟨p,q⟩,List.mem_flatMap.2 ⟨p,hp,by unfold going1; rw [if_pos h]; exact List.mem_map.2 ⟨q,hq,rfl⟩⟩,e1,e2⟩
  · exact ⟨⟨p,tick⟩,List.mem_flatMap.2 ⟨p,hp,by unfold going1; rw [if_neg h]; simp⟩,e1,.inl rfl⟩
theorem LP.more {X Y:List Pr} (h:LP X):LP (X++Y):=by
  obtain ⟨x,hx,e⟩:=h;exact ⟨x,List.mem_append.2 (.inl hx),e⟩
theorem twoP_lp {k:Int} {X Y:List Pr} {a b:Nat} (c1:CP all a X) (c2:CP all b Y) (hab:a+b≤19) (h1:LP X) (h2:LP Y):LP (twoP k X Y):=by
  obtain ⟨x,hx,e1,f1⟩:=h1;obtain ⟨y,hy,e2,f2⟩:=h2;unfold twoP
  split
  · by_cases h:x.p.e=1
    · exact ⟨⟨thn x.p y.p,thn y.q x.q⟩,List.mem_flatMap.2 ⟨x,hx,by unfold seq1; rw [if_pos h]; exact List.mem_map.2 ⟨y,hy,rfl⟩⟩,lv_thn e1 e2,lv_thn f2 f1⟩
    · exact ⟨x,List.mem_flatMap.2 ⟨x,hx,by unfold seq1; rw [if_neg h]; simp⟩,e1,f1⟩
  · split
    · have l1:=c1.len hx;have l2:=c2.len hy;obtain ⟨t,ht,he⟩:=pr_ne (p:=x.p) (q:=y.p) (by omega);obtain ⟨u,hu,hf⟩:=pr_ne (p:=x.q) (q:=y.q) (by omega);exact ⟨⟨t,u⟩,List.mem_flatMap.2 ⟨x,hx,List.mem_flatMap.2 ⟨y,hy,z6c.2 ⟨ht,hu⟩⟩⟩,by show t.e=1∨t.e=2; rw [he]; exact y9m e1 e2,by show u.e=1∨u.e=2; rw [hf]; exact y9m f1 f2⟩
    · exact ⟨x,List.mem_append.2 (.inl hx),e1,f1⟩
theorem blk_lt {X:List Pr} (h:LP X):LT (blk X):=by
  obtain ⟨x,hx,e,f⟩:=h
  by_cases h1:x.p.e=1
  · exact ⟨x.p,List.mem_flatMap.2 ⟨x,hx,by unfold blk1; rw [if_pos h1]; simp⟩,.inl h1⟩
  · have h2:x.p.e=2:=e.resolve_left h1;exact ⟨⟨x.p.a++x.q.a,x.q.e⟩,List.mem_flatMap.2 ⟨x,hx,by unfold blk1; rw [if_neg h1,if_pos h2]; simp⟩,f⟩
end Mn
namespace Pl
open Go Go.RowKit Rw
abbrev fo (n:Int):Nat:=floatOfInt .f64 n
def cx (p:Nat × Nat):Value:=.complex .f64 (fo p.1) (fo p.2)
def lf (x:Nd):Nat:=if Rw.ar x.k=0 then 1 else 0
theorem y0b (v:Value) (l:List Nd) (w:World) (h:Nds w v l) (hl:l.length≤4398046511104) :
    Calls Tryz.prog 320 #[v] w fun e w'=>e=.returned (.bool (one l))∧Below w.heap.size w w':=by
  have HN:=Lib.hid h;obtain ⟨_,a,cap,rfl,-⟩:=h
  by_cases h0:0<l.length
  · have HO:Hid (one l=decide (Rw.size l=l.length)):=by
      show _=_
      unfold one;rw [decide_eq_true h0,Bool.true_and]
    rw [HO.out];obtain ⟨z,hz⟩:∃ z,Rw.size l=z:=⟨_,rfl⟩
    have HZ:=Lib.hid hz;rw [hz];clear hz
    go_enter Tryz.func320,Tryz.ntmps320
    go_wp2_with fail;refine (Rx.y5l _ l _ HN.out hl).mono ?_;rw [HZ.out];rintro e w' ⟨rfl,hb⟩;have HB:=Lib.hid hb;clear hb;go_wp2_with fail;go_ret;refine ⟨ret_bool ?_,HB.out⟩;rw [Bool.eq_iff_iff];simp
    try omega
  · have HO:Hid (one l=false):=by
      show _=_
      unfold one;rw [decide_eq_false h0,Bool.false_and]
    rw [HO.out]
    go_enter Tryz.func320,Tryz.ntmps320
    go_wp2_with fail;go_ret;exact ⟨rfl,Below.refl _ _⟩
end Pl
end Go.Proofs.YtpingbiibbmcaaaGreatDoor
