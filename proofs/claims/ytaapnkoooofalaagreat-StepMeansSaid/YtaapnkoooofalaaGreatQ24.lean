/- Laws that the last text leans on. -/
import Derived.Test.YtaapnkoooofalaaGreatQ23
import Derived.Shelf.Abstract

set_option maxRecDepth 20000
set_option maxHeartbeats 4000000
namespace Go.Proofs.YtaapnkoooofalaaGreat.Pl
open Go Go.RowKit Rw So Ro
set_option maxRecDepth 20000
theorem z7i (W:World) (v:Value) (t:TypeId):(W.alloc (.cells #[v] t)).cell? ⟨W.heap.size,0,none⟩=some v∧(W.alloc (.cells #[v] t)).frozen? ⟨W.heap.size,0,none⟩=false:=by
  constructor <;> simp
theorem y9b {W:World} {a:Addr} {v:Value} (o:Obj) (h:W.cell? a=some v∧W.frozen? a=false):(W.alloc o).cell? a=some v∧(W.alloc o).frozen? a=false:=by
  have hb:=z0f W o;exact ⟨by rw [hb.cell (Ap.z0a h.1)]; exact h.1,by rw [World.frozen?_of_block (hb.block _ (Ap.z0a h.1))]; exact h.2⟩
def Cxs (w:World) (v:Value) (P:List (Nat × Nat)):Prop:=Ap.Rd w 1 v P.length (P.map cx)
theorem y7c {M:Nat→Prop} {w w':World} {p:Addr} {u:Value} (ht:Turn M w w') (hc:w.cell? p=some u) (hn:¬ M p.block):w'.frozen? p=w.frozen? p:=
  World.frozen?_of_block (ht.block _ (Ap.z0a hc) hn)
def New1 (A:World) (v u:Value) (w:World):Prop:=∃ g,v=.slice (some ⟨g,0,none⟩) 1 1∧A.heap.size≤g∧w.cell? ⟨g,0,none⟩=some u
theorem x6h {l:List Nd} {k:Nat} (h:k<rounds l):k<l.length:=by
  unfold rounds at h
  split at h
  · exact h
  · omega
/-! ### Points: a point laid onto the row -/
def Mg (vp:Value) (bp:Nat) (i t:Nat):Prop:=(i=6∧vp.ownBlock=some t)∨(i=7∧t=bp)
def Bg (A:World) (vp:Value) (bp bx:Nat) (x:Nat) (w:World):Prop:=w.cell? ⟨bx,0,none⟩=some (.int .i64 (x:Int))∧Turn (fun t=>vp.ownBlock=some t∨t=bp) A w
structure SepG (q:Nat) (A:World) (vp:Value) (bp bx:Nat):Prop where
  hp:∀ g,vp.ownBlock=some g→q≤g∧g<A.heap.size
  hbp:bp<q
  hbx:bx<q
  hne:bx≠bp
  hq:q≤A.heap.size
section
variable {q:Nat} {A:World} {vp va:Value} {bp bx:Nat} {x n:Nat} {P:List (Nat × Nat)}
end
/-! ### One more leaf or not,laid into its box -/
def Ml (bx:Nat) (i t:Nat):Prop:=i=7∧t=bx
def Rl (v:Value) (b p bx:Nat) (x k:Nat) (y:Nd) (i:Nat) (u:Value) (w:World):Prop:=match i with
  | 0=>u=.int .i64 (x:Int)
  | 1=>u=v
  | 2=>u=.int .i64 (k:Int)
  | 3=>u=.pointer (some ⟨b,p,none⟩)
  | 4=>u=.agg #[.int .i64 y.k,.string y.n,.int .i64 y.s]
  | 5=>u=.int .i64 (lf y:Nat)
  | 6=>u=.int .i64 ((x+lf y:Nat):Int)
  | 7=>w.cell? ⟨bx,0,none⟩=some (.int .i64 ((x+lf y:Nat):Int))∧w.frozen? ⟨bx,0,none⟩=false
  | _=>True
def Nl (bx x:Nat) (i:Nat) (w:World):Prop:=match i with
  | 0=>w.cell? ⟨bx,0,none⟩=some (.int .i64 (x:Int))
  | 7=>w.cell? ⟨bx,0,none⟩=some (.int .i64 (x:Int))∧w.frozen? ⟨bx,0,none⟩=false
  | _=>True
def tabL:List (List Nat):=[[],[],[],[1,2],[1,2,3],[1,2,3,4],[0,1,2,3,4,5],[0,1,2,3,4,5,6]]
section
variable {v:Value} {b p bx x k:Nat} {y:Nd} {A:World}
end
end Go.Proofs.YtaapnkoooofalaaGreat.Pl
namespace Go.Proofs.YtaapnkoooofalaaGreat
namespace Mn
open Go Go.RowKit Tr
abbrev none':Nat→Prop:=fun _=>False
structure TCon:Prop where
  cCmp:∀ (v1 v2:Value) (p q:Tr) (w:World),Strs w v1 p.a→Strs w v2 q.a→p.a.length≤1000000→q.a.length≤1000000→Calls Tryz.prog 201 #[.agg #[v1,.int .i64 p.e],.agg #[v2,.int .i64 q.e]] w fun e w'=>e=.returned (.int .i64 (cmp p q))∧∃ n os,w'=Go.Sort.grow (w.drewN n) os
  cSet:∀ (x:Value) (l:List Tr) (w:World),Trs w x l→l.length≤1000000000000→(∀ t∈l,t.a.length≤1000000)→Calls Tryz.prog 71 #[x] w (SetPost (norm l) w)
  cOr:∀ (x y:Value) (l m:List Tr) (w:World),Trs w x l→Trs w y m→l.length+m.length≤1000000000000→(∀ t∈l++m,t.a.length≤1000000)→Calls Tryz.prog 121 #[x,y] w (SetPost (norm (l++m)) w)
  cThn:∀ (v1 v2:Value) (p q:Tr) (w:World),Strs w v1 p.a→Strs w v2 q.a→p.a.length+q.a.length≤1000000→Calls Tryz.prog 173 #[.agg #[v1,.int .i64 p.e],.agg #[v2,.int .i64 q.e]] w (ThnPost (thn p q) w)
  cPar:∀ (v1 v2:Value) (p q:Tr) (w:World),Strs w v1 p.a→Strs w v2 q.a→p.a.length+q.a.length≤9→Calls Tryz.prog 175 #[.agg #[v1,.int .i64 p.e],.agg #[v2,.int .i64 q.e]] w (OutT none' (pr p q) w)
theorem z0x {ok ok':Nat→Prop} {w:World} {v:Value} {l:List ByteArray} (h:StrsO ok w v l) (hi:∀ b,b<w.heap.size→ok b→ok' b):StrsO ok' w v l:=Ap.RdO.imp h hi
theorem z4n (ok:Nat→Prop) (w:World):StrsO ok w (.slice none 0 0) []:=⟨rfl,none,0,rfl,Nat.le_refl _,fun _=>⟨rfl,rfl⟩,fun h=>absurd h (Nat.lt_irrefl _)⟩
theorem ts_nil (ok:Nat→Prop) (w:World):TsO ok w (.slice none 0 0) []:=⟨[],⟨rfl,none,0,rfl,Nat.le_refl _,fun _=>⟨rfl,rfl⟩,fun h=>absurd h (Nat.lt_irrefl _)⟩,rfl⟩
theorem ts_one {ok:Nat→Prop} {w:World} {B:Nat} {a:Value} {t:Tr} (h0:w.cell? ⟨B,0,none⟩=some a) (h1:w.cell? ⟨B,1,none⟩=some (.int .i64 t.e)) (hB:ok B) (hs:StrsO ok w a t.a):TsO ok w (.slice (some ⟨B,0,none⟩) 1 1) [t]:=by
  refine ⟨[a,.int .i64 t.e],⟨rfl,_,1,rfl,Nat.le_refl _,fun h=>(by cases h),fun _=>⟨B,0,rfl,hB,Ap.z0a h0,fun j u hu=>?_⟩⟩,Cl.one ⟨a,rfl,hs⟩ rfl⟩
  match j,hu with
  | 0,hu=>simp at hu; subst hu; exact h0
  | 1,hu=>simp at hu; subst hu; exact h1
  | j+2,hu=>simp at hu
theorem x6s {ok:Nat→Prop} {w:World} {B:Nat} {a b:Value} {x:Pr} (h0:w.cell? ⟨B,0,none⟩=some a) (h1:w.cell? ⟨B,1,none⟩=some (.int .i64 x.p.e)) (h2:w.cell? ⟨B,2,none⟩=some b) (h3:w.cell? ⟨B,3,none⟩=some (.int .i64 x.q.e)) (hB:ok B) (hs:StrsO ok w a x.p.a) (hs':StrsO ok w b x.q.a):PsO ok w (.slice (some ⟨B,0,none⟩) 1 1) [x]:=by
  refine ⟨[a,.int .i64 x.p.e,b,.int .i64 x.q.e],⟨rfl,_,1,rfl,Nat.le_refl _,fun h=>(by cases h),fun _=>⟨B,0,rfl,hB,Ap.z0a h0,fun j u hu=>?_⟩⟩,Cl.one ⟨a,b,rfl,hs,hs'⟩ rfl⟩
  match j,hu with
  | 0,hu=>simp at hu; subst hu; exact h0
  | 1,hu=>simp at hu; subst hu; exact h1
  | 2,hu=>simp at hu; subst hu; exact h2
  | 3,hu=>simp at hu; subst hu; exact h3
  | j+4,hu=>simp at hu
theorem bel1 (w:World) (x:Obj):Below w.heap.size w (w.alloc x):=(Below.refl _ _).alloc (Nat.le_refl _) x
theorem bel2 (w:World) (x y:Obj):Below w.heap.size w ((w.alloc x).alloc y):=(bel1 w x).alloc (by simp) y
theorem z2u (ok:Nat→Prop) (a:Value) (t:Tr) (w:World) (hs:StrsO ok w a t.a) :
    Calls Tryz.prog 69 #[.agg #[a,.int .i64 t.e]] w (OutT ok [t] w):=by
  have HS:=Lib.hid hs;obtain ⟨_,a',c',rfl,_⟩:=hs;unfold OutT
  go_enter Tryz.func69,Tryz.ntmps69
  go_wp2_with fail;go_ret;refine ⟨_,_,rfl,ts_one (by simp [go_sem]) (by simp [go_sem]) (.inr (by omega)) (z0e (z0x HS.out fun _ _ h=>.inl h) (bel2 _ _ _)),bel2 _ _ _⟩
theorem z2b (s:Int) (w:World) :
    Calls Tryz.prog 70 #[.int .i64 s] w fun e w'=>e=.returned (.agg #[.slice none 0 0,.int .i64 s])∧Below w.heap.size w w':=by
  go_enter Tryz.func70,Tryz.ntmps70
  go_wp2_with fail;refine bodyPost_ret (v:=.agg #[.slice none 0 0,.int .i64 s]) (by simp [results,Tryz.results70,go_sem]) rfl ⟨rfl,?_⟩;exact bel1 w _
theorem y0v (a1:Option Addr) (n c:Nat) (s:Int) (w:World) :
    Calls Tryz.prog 114 #[.agg #[.slice a1 n c,.int .i64 s]] w fun e w'=>e=.returned (.agg #[.slice a1 n c,.int .i64 1])∧Below w.heap.size w w':=by
  go_enter Tryz.func114,Tryz.ntmps114
  go_wp2_with fail;refine bodyPost_ret (v:=.agg #[.slice a1 n c,.int .i64 1]) (by simp [results,Tryz.results114,go_sem]) rfl ⟨rfl,?_⟩;exact bel2 w _ _
end Mn
namespace Se
open Go Go.RowKit Rw So
theorem y2l (a:Tm) (v:Value) (w:World) (hv:Nds w v (flat (.block a))) (PA:Hid (PS a)) (hx:Hid (∀ s c,S a=.fin s c→PS c)) (hl:sz (.block a)≤400) :
    Calls Tryz.prog 64 #[v] w (OutB w.heap.size (sBlock S (S a)) w):=by
  have HK:Hid (∀ w1,Below w.heap.size w w1→Calls Tryz.prog 50 #[v] w1 (Rx.KidsOwn [flat a] w1)):=Lib.hid fun w1 hb=>by
    have h:=Rx.z3p v (flat (.block a)) w1 (hv.below hb) (by rw [flat_len]; omega);rw [show kids (flat (.block a))=[flat a] from z5h a] at h;exact h
  have GO:Hid (∀ w,Calls Tryz.prog 97 #[.int .i64 9] w fun e w'=>e=.returned (.int .i64 1)∧w=w'):=Lib.hid fun w=>z1k (.block a) w
  have HL:Hid (sz (.block a)≤400):=Lib.hid hl;obtain ⟨bb,oo,cc,rfl,hc,hlt,hw,hat⟩:=z2f hv;obtain ⟨nn,hn⟩:∃ n,sz (.block a)=n+1:=⟨sz (.block a)-1,by have:=z0l (.block a); omega⟩
  rw [hn] at hc HK ⊢;have g3:(1:Int)≤(nn:Int)+1:=by omega
  rw [show kd (.block a)=9 from rfl,show nmT (.block a)=⟨#[]⟩ from rfl,show sg (.block a)=0 from rfl] at hw;obtain ⟨e0,e1,e2⟩:=hw w (Below.refl _ _);unfold OutB;clear hat hv hl hn hw
  go_enter Tryz.func64,Tryz.ntmps64
  go_upto_region 1 with fail
  go_cut [3,4] (fun s3 s4 wx=>∃ (B:Nat),s3=.pointer (some ⟨B,0,none⟩)∧w.heap.size≤B∧BoxN wx B 9 0 ⟨#[]⟩∧Kd w.heap.size B wx s4 [flat a]∧Below w.heap.size w wx)
  case first=>
    clear GO HL
    go_region_with (first
      | (go_at_call 50
         (with_reducible refine (HK.out _ (Below.refl _ _).drew).mono ?_)
         rintro e w1 ⟨y,cs,rfl,hown,hk,hb1⟩;have B1:=Lib.hid ((Below.refl w.heap.size w).drew.trans hb1);have K1:Hid (Kd w.heap.size w1.heap.size w1 y [flat a]):=Lib.hid (y5q hown hk (.inr (Nat.le_refl _)));have c0:w1.cell? ⟨bb,oo,none⟩=some (.int .i64 9):=by rw [B1.out.cell (p:=⟨bb,oo,none⟩) hlt]; exact e0
         have c1:w1.cell? ⟨bb,oo+1,none⟩=some (.string ⟨#[]⟩):=by rw [B1.out.cell (p:=⟨bb,oo+1,none⟩) hlt]; exact e1
         have c2:w1.cell? ⟨bb,oo+2,none⟩=some (.int .i64 0):=by rw [B1.out.cell (p:=⟨bb,oo+2,none⟩) hlt]; exact e2
         have hbl1:bb<w1.heap.size:=Ap.z0a c0;clear hown hk hb1)
      | (go_at_call 50
         (refine (HK.out _ ((Below.refl _ _).alloc (Nat.le_refl _) _).drew).mono ?_)
         rintro e w1 ⟨y,cs,rfl,hown,hk,hb1⟩;have B1:=Lib.hid (((Below.refl w.heap.size w).alloc (Nat.le_refl _) _).drew.trans (hb1.mono (by simp)));have KB:Hid (∀ u1 u2 u3:Value,Kd w.heap.size w.heap.size (((w1.setCell ⟨w.heap.size,0,none⟩ u1).setCell ⟨w.heap.size,1,none⟩ u2).setCell ⟨w.heap.size,2,none⟩ u3) y [flat a]):=Lib.hid fun u1 u2 u3=>((Kd.base (base':=w.heap.size) (B':=w.heap.size) (y5q (B:=w.heap.size) hown hk (.inl (by simp))) (by simp) (fun k h1 _ e=>by simp at h1; omega)).setB.setB).setB
         have k0:w1.cell? ⟨w.heap.size,0,none⟩=some (.int .i64 0):=by rw [hb1.cell (p:=⟨w.heap.size,0,none⟩) (by simp)]; simp [go_sem]
         have k1:w1.cell? ⟨w.heap.size,1,none⟩=some (.string ⟨#[]⟩):=by rw [hb1.cell (p:=⟨w.heap.size,1,none⟩) (by simp)]; simp [go_sem]
         have k2:w1.cell? ⟨w.heap.size,2,none⟩=some (.int .i64 0):=by rw [hb1.cell (p:=⟨w.heap.size,2,none⟩) (by simp)]; simp [go_sem]
         have f0:w1.frozen? ⟨w.heap.size,0,none⟩=false:=by rw [hb1.frozen (p:=⟨w.heap.size,0,none⟩) (by simp)]; simp [go_sem]
         have f1:w1.frozen? ⟨w.heap.size,1,none⟩=false:=by rw [hb1.frozen (p:=⟨w.heap.size,1,none⟩) (by simp)]; simp [go_sem]
         have f2:w1.frozen? ⟨w.heap.size,2,none⟩=false:=by rw [hb1.frozen (p:=⟨w.heap.size,2,none⟩) (by simp)]; simp [go_sem]
         have c0:w1.cell? ⟨bb,oo,none⟩=some (.int .i64 9):=by rw [B1.out.cell (p:=⟨bb,oo,none⟩) hlt]; exact e0
         have c1:w1.cell? ⟨bb,oo+1,none⟩=some (.string ⟨#[]⟩):=by rw [B1.out.cell (p:=⟨bb,oo+1,none⟩) hlt]; exact e1
         have c2:w1.cell? ⟨bb,oo+2,none⟩=some (.int .i64 0):=by rw [B1.out.cell (p:=⟨bb,oo+2,none⟩) hlt]; exact e2
         have hbl1:bb<w1.heap.size:=Ap.z0a c0;clear hown hk hb1)
      | fail)
    all_goals go_wp2_with fail
    all_goals go_meet
    all_goals first
      | exact ⟨_,rfl,B1.out.size,⟨by simp,by simp,by simp⟩,K1.out.below (z0f _ _),B1.out.alloc B1.out.size _⟩
      | exact ⟨_,rfl,Nat.le_refl _,y4d k0 k1 k2,KB.out _ _ _,((B1.out.setCell (Nat.le_refl _) _).setCell (Nat.le_refl _) _).setCell (Nat.le_refl _) _⟩
  case rest=>
    obtain ⟨B,rfl,hB,hbx,hkd,hbel⟩:=hcut;have BB:=Lib.hid hbel;have BX:=Lib.hid hbx;have KK:=Lib.hid hkd;have HLB:=Lib.hid hB;obtain ⟨x0,x1,x2⟩:=hbx;clear hbel HK e0 e1 e2 hB;obtain ⟨g,ck,y0,rfl,hg,hgB,hgl,hf,q0,r0⟩:=Kd.one hkd;clear hkd;go_wp2_with fail;refine (GO.out _).mono ?_;rintro e w0 ⟨rfl,rfl⟩;go_wp2_with fail;refine Go.wp_loop_rounds 2 ?_;rw [rounds_succ];go_wp2_with fail;refine (PA.out y0 wc (Ap.RdO.rd r0)).mono ?_;rintro e w1 ⟨z,rfl,hn,hb⟩;obtain ⟨_,az,cz,rfl,-⟩:=id hn;have hg1:g<w1.heap.size:=Nat.lt_of_lt_of_le hgl hb.size;have p0:w1.cell? ⟨g,0,none⟩=some y0:=by rw [hb.cell (p:=⟨g,0,none⟩) hgl]; exact q0
    have hf1:∀ j,w1.frozen? ⟨g,j,none⟩=false:=fun j=>by rw [hb.frozen (p:=⟨g,j,none⟩) hgl]; exact hf j
    have f0:=hf1 0;have HF1:=Lib.hid hf1;have X1:=Lib.hid (BX.out.below hb);have D1:=Lib.hid (BB.out.trans (hb.mono BB.out.size));have Z1:=Lib.hid hn;clear hn hb hf hf1;go_wp2_with fail;rw [rounds_succ];have D1s:=Lib.hid (D1.out.setCell (p:=⟨g,0,none⟩) (show w.heap.size≤g from hg) (.slice az (flat (S a)).length cz));have X1s:=Lib.hid (BoxN.set (o:=0) (x:=.slice az (flat (S a)).length cz) X1.out (Ne.symm hgB));obtain ⟨v0,v1,v2⟩:=X1s.out;have ZS:Hid (NdO w.heap.size (w1.setCell ⟨g,0,none⟩ (.slice az (flat (S a)).length cz)) (.slice az (flat (S a)).length cz) (S a)):=Lib.hid (NdO.more (z2x Z1.out fun k hk=>by omega) (Nat.le_trans HLB.out (Nat.le_of_lt BX.out.lt)));have s0:=z1g (x:=.slice az (flat (S a)).length cz) p0;go_wp2_with fail;refine (y9a w.heap.size (S a) g ck _ _ s0 ZS.out.nds hx D1s.out.size (by have:=HL.out; have:=S_sz a; simp only [sz] at *; omega)).mono ?_;rintro e w3 ⟨u,rfl,hn,hb⟩;have N3:=Lib.hid hn;have D3:=Lib.hid (D1s.out.trans (hb.mono D1s.out.size));clear hn hb;go_wp2_with fail;go_ret;exact ⟨_,rfl,N3.out,D3.out⟩
theorem y7h (a b:Tm) (v:Value) (w:World) (hv:Nds w v (flat (.par a b))) (PA:Hid (PS a)) (PB:Hid (PS b)) (hl:sz (.par a b)≤400) :
    Calls Tryz.prog 64 #[v] w (OutB w.heap.size (sPar (S a) (S b)) w):=by
  have HK:Hid (∀ w1,Below w.heap.size w w1→Calls Tryz.prog 50 #[v] w1 (Rx.KidsOwn [flat a,flat b] w1)):=Lib.hid fun w1 hb=>by
    have h:=Rx.z3p v (flat (.par a b)) w1 (hv.below hb) (by rw [flat_len]; omega);rw [show kids (flat (.par a b))=[flat a,flat b] from z6k a b] at h;exact h
  have GO:Hid (∀ w,Calls Tryz.prog 97 #[.int .i64 7] w fun e w'=>e=.returned (.int .i64 2)∧w=w'):=Lib.hid fun w=>z1k (.par a b) w
  have HL:Hid (sz (.par a b)≤400):=Lib.hid hl;obtain ⟨bb,oo,cc,rfl,hc,hlt,hw,hat⟩:=z2f hv;obtain ⟨nn,hn⟩:∃ n,sz (.par a b)=n+1:=⟨sz (.par a b)-1,by have:=z0l (.par a b); omega⟩
  rw [hn] at hc HK ⊢;have g3:(1:Int)≤(nn:Int)+1:=by omega
  rw [show kd (.par a b)=7 from rfl,show nmT (.par a b)=⟨#[]⟩ from rfl,show sg (.par a b)=0 from rfl] at hw;obtain ⟨e0,e1,e2⟩:=hw w (Below.refl _ _);unfold OutB;clear hat hv hl hn hw
  go_enter Tryz.func64,Tryz.ntmps64
  go_upto_region 1 with fail
  go_cut [3,4] (fun s3 s4 wx=>∃ (B:Nat),s3=.pointer (some ⟨B,0,none⟩)∧w.heap.size≤B∧BoxN wx B 7 0 ⟨#[]⟩∧Kd w.heap.size B wx s4 [flat a,flat b]∧Below w.heap.size w wx)
  case first=>
    clear GO HL
    go_region_with (first
      | (go_at_call 50
         (with_reducible refine (HK.out _ (Below.refl _ _).drew).mono ?_)
         rintro e w1 ⟨y,cs,rfl,hown,hk,hb1⟩;have B1:=Lib.hid ((Below.refl w.heap.size w).drew.trans hb1);have K1:Hid (Kd w.heap.size w1.heap.size w1 y [flat a,flat b]):=Lib.hid (y5q hown hk (.inr (Nat.le_refl _)));have c0:w1.cell? ⟨bb,oo,none⟩=some (.int .i64 7):=by rw [B1.out.cell (p:=⟨bb,oo,none⟩) hlt]; exact e0
         have c1:w1.cell? ⟨bb,oo+1,none⟩=some (.string ⟨#[]⟩):=by rw [B1.out.cell (p:=⟨bb,oo+1,none⟩) hlt]; exact e1
         have c2:w1.cell? ⟨bb,oo+2,none⟩=some (.int .i64 0):=by rw [B1.out.cell (p:=⟨bb,oo+2,none⟩) hlt]; exact e2
         have hbl1:bb<w1.heap.size:=Ap.z0a c0;clear hown hk hb1)
      | (go_at_call 50
         (refine (HK.out _ ((Below.refl _ _).alloc (Nat.le_refl _) _).drew).mono ?_)
         rintro e w1 ⟨y,cs,rfl,hown,hk,hb1⟩;have B1:=Lib.hid (((Below.refl w.heap.size w).alloc (Nat.le_refl _) _).drew.trans (hb1.mono (by simp)));have KB:Hid (∀ u1 u2 u3:Value,Kd w.heap.size w.heap.size (((w1.setCell ⟨w.heap.size,0,none⟩ u1).setCell ⟨w.heap.size,1,none⟩ u2).setCell ⟨w.heap.size,2,none⟩ u3) y [flat a,flat b]):=Lib.hid fun u1 u2 u3=>((Kd.base (base':=w.heap.size) (B':=w.heap.size) (y5q (B:=w.heap.size) hown hk (.inl (by simp))) (by simp) (fun k h1 _ e=>by simp at h1; omega)).setB.setB).setB
         have k0:w1.cell? ⟨w.heap.size,0,none⟩=some (.int .i64 0):=by rw [hb1.cell (p:=⟨w.heap.size,0,none⟩) (by simp)]; simp [go_sem]
         have k1:w1.cell? ⟨w.heap.size,1,none⟩=some (.string ⟨#[]⟩):=by rw [hb1.cell (p:=⟨w.heap.size,1,none⟩) (by simp)]; simp [go_sem]
         have k2:w1.cell? ⟨w.heap.size,2,none⟩=some (.int .i64 0):=by rw [hb1.cell (p:=⟨w.heap.size,2,none⟩) (by simp)]; simp [go_sem]
         have f0:w1.frozen? ⟨w.heap.size,0,none⟩=false:=by rw [hb1.frozen (p:=⟨w.heap.size,0,none⟩) (by simp)]; simp [go_sem]
         have f1:w1.frozen? ⟨w.heap.size,1,none⟩=false:=by rw [hb1.frozen (p:=⟨w.heap.size,1,none⟩) (by simp)]; simp [go_sem]
         have f2:w1.frozen? ⟨w.heap.size,2,none⟩=false:=by rw [hb1.frozen (p:=⟨w.heap.size,2,none⟩) (by simp)]; simp [go_sem]
         have c0:w1.cell? ⟨bb,oo,none⟩=some (.int .i64 7):=by rw [B1.out.cell (p:=⟨bb,oo,none⟩) hlt]; exact e0
         have c1:w1.cell? ⟨bb,oo+1,none⟩=some (.string ⟨#[]⟩):=by rw [B1.out.cell (p:=⟨bb,oo+1,none⟩) hlt]; exact e1
         have c2:w1.cell? ⟨bb,oo+2,none⟩=some (.int .i64 0):=by rw [B1.out.cell (p:=⟨bb,oo+2,none⟩) hlt]; exact e2
         have hbl1:bb<w1.heap.size:=Ap.z0a c0;clear hown hk hb1)
      | fail)
    all_goals go_wp2_with fail
    all_goals go_meet
    all_goals first
      | exact ⟨_,rfl,B1.out.size,⟨by simp,by simp,by simp⟩,K1.out.below (z0f _ _),B1.out.alloc B1.out.size _⟩
      | exact ⟨_,rfl,Nat.le_refl _,y4d k0 k1 k2,KB.out _ _ _,((B1.out.setCell (Nat.le_refl _) _).setCell (Nat.le_refl _) _).setCell (Nat.le_refl _) _⟩
  case rest=>
    obtain ⟨B,rfl,hB,hbx,hkd,hbel⟩:=hcut;have BB:=Lib.hid hbel;have BX:=Lib.hid hbx;have KK:=Lib.hid hkd;have HLB:=Lib.hid hB;obtain ⟨x0,x1,x2⟩:=hbx;clear hbel HK e0 e1 e2 hB;obtain ⟨g,ck,y0,y1,rfl,hg,hgB,hgl,hf,q0,q1,r0,r1⟩:=Kd.two hkd;clear hkd;go_wp2_with fail;refine (GO.out _).mono ?_;rintro e w0 ⟨rfl,rfl⟩;go_wp2_with fail;refine Go.wp_loop_rounds 3 ?_;rw [rounds_succ];go_wp2_with fail;refine (PA.out y0 wc (Ap.RdO.rd r0)).mono ?_;rintro e w1 ⟨z,rfl,hn,hb⟩;obtain ⟨_,az,cz,rfl,-⟩:=id hn;have hg1:g<w1.heap.size:=Nat.lt_of_lt_of_le hgl hb.size;have p0:w1.cell? ⟨g,0,none⟩=some y0:=by rw [hb.cell (p:=⟨g,0,none⟩) hgl]; exact q0
    have p1:w1.cell? ⟨g,1,none⟩=some y1:=by rw [hb.cell (p:=⟨g,1,none⟩) hgl]; exact q1
    have hf1:∀ j,w1.frozen? ⟨g,j,none⟩=false:=fun j=>by rw [hb.frozen (p:=⟨g,j,none⟩) hgl]; exact hf j
    have f0:=hf1 0;have HF1:=Lib.hid hf1;have X1:=Lib.hid (BX.out.below hb);have D1:=Lib.hid (BB.out.trans (hb.mono BB.out.size));have Z1:=Lib.hid hn;have Y1:=Lib.hid (Ap.RdO.below r1 hb);clear hn hb hf hf1;go_wp2_with fail;rw [rounds_succ];have D1s:=Lib.hid (D1.out.setCell (p:=⟨g,0,none⟩) (show w.heap.size≤g from hg) (.slice az (flat (S a)).length cz));have X1s:=Lib.hid (BoxN.set (o:=0) (x:=(.slice az (flat (S a)).length cz)) X1.out (Ne.symm hgB));have ZS:Hid (NdO w.heap.size (w1.setCell ⟨g,0,none⟩ (.slice az (flat (S a)).length cz)) (.slice az (flat (S a)).length cz) (S a)):=Lib.hid (NdO.more (z2x Z1.out fun k hk=>by omega) (Nat.le_trans HLB.out (Nat.le_of_lt BX.out.lt)));have ZG:Hid (Ap.RdO (fun k=>wc.heap.size≤k) (w1.setCell ⟨g,0,none⟩ (.slice az (flat (S a)).length cz)) 3 (.slice az (flat (S a)).length cz) (flat (S a)).length (cls (flat (S a)))):=Lib.hid (z2x Z1.out fun k hk=>by omega);have s0:=z1g (x:=(.slice az (flat (S a)).length cz)) p0;have s1:=(z1y (g:=g) (x:=(.slice az (flat (S a)).length cz)) (show 0≠1 by decide)).trans p1;have YS:=Lib.hid (Ap.RdO.rd (z2x (o:=0) (x:=(.slice az (flat (S a)).length cz)) Y1.out fun k hk=>hk.2.2));have hg2:g<(w1.setCell ⟨g,0,none⟩ (.slice az (flat (S a)).length cz)).heap.size:=Ap.z0a s0;have hf2:∀ j,(w1.setCell ⟨g,0,none⟩ (.slice az (flat (S a)).length cz)).frozen? ⟨g,j,none⟩=false:=fun j=>by rw [z1x]; exact HF1.out j
    go_wp2_with fail;refine (PB.out y1 _ YS.out).mono ?_;generalize w1.setCell ⟨g,0,none⟩ (.slice az (flat (S a)).length cz)=W1 at D1s X1s ZS ZG s0 s1 YS hg2 hf2 ⊢;rintro e w2 ⟨z',rfl,hn,hb⟩;obtain ⟨_,az',cz',rfl,-⟩:=id hn;have t0:w2.cell? ⟨g,0,none⟩=some (.slice az (flat (S a)).length cz):=by rw [hb.cell (p:=⟨g,0,none⟩) hg2]; exact s0
    have t1:w2.cell? ⟨g,1,none⟩=some y1:=by rw [hb.cell (p:=⟨g,1,none⟩) hg2]; exact s1
    have hf3:w2.frozen? ⟨g,1,none⟩=false:=by rw [hb.frozen (p:=⟨g,1,none⟩) hg2]; exact hf2 1
    have X2:=Lib.hid (BoxN.set (o:=1) (x:=.slice az' (flat (S b)).length cz') (X1s.out.below hb) (Ne.symm hgB));have D2:=Lib.hid ((D1s.out.trans (hb.mono D1s.out.size)).setCell (p:=⟨g,1,none⟩) (show w.heap.size≤g from hg) (.slice az' (flat (S b)).length cz'));have ZS2:Hid (NdO w.heap.size (w2.setCell ⟨g,1,none⟩ (.slice az' (flat (S b)).length cz')) (.slice az (flat (S a)).length cz) (S a)):=Lib.hid (Ap.RdO.imp (z2x (ZG.out.below hb) fun k hk=>by omega) fun k _ hk=>Nat.le_trans HLB.out (Nat.le_trans (Nat.le_of_lt BX.out.lt) hk));have ZT2:=Lib.hid (Ap.RdO.rd (z2x (o:=1) (g:=g) (x:=.slice az' (flat (S b)).length cz') hn fun k hk=>by omega));have u0:=(z1y (g:=g) (x:=.slice az' (flat (S b)).length cz') (show 1≠0 by decide)).trans t0;have u1:=z1g (x:=.slice az' (flat (S b)).length cz') t1;clear hn hb hf2 s0 s1;go_wp2_with fail;rw [rounds_succ];obtain ⟨v0,v1,v2⟩:=X2.out;go_wp2_with fail;refine (v0r w.heap.size (S a) (S b) g ck _ _ _ u0 u1 ZS2.out ZT2.out D2.out.size (by have:=HL.out; have:=S_sz a; have:=S_sz b; simp only [sz] at *; omega)).mono ?_;rintro e w3 ⟨u,rfl,hn,hb⟩;have N3:=Lib.hid hn;have D3:=Lib.hid (D2.out.trans (hb.mono D2.out.size));clear hn hb;go_wp2_with fail;go_ret;exact ⟨_,rfl,N3.out,D3.out⟩
theorem y5a:∀ t:Tm,sz t≤400→(is t 3=true∨is t 4=true)→PS t:=by
  apply x4w
  intro t ih hl hi v w hv
  cases t with
  | act s=>exact y7k s v w hv hl
  | skip=>exact y4v v w hv hl
  | throw=>exact y2i v w hv hl
  | yield=>exact y2h v w hv hl
  | over s=>exact y4x s v w hv hl
  | fin s c=>exact y7i s c v w hv hl
  | alt a b=>exact y7j a b v w hv hl
  | pair a b=>exact y4w a b v w hv hl
  | seq a b=>
    have hz:sz (.seq a b)=sz a+sz b+1:=rfl;have ia:is a 3=true∨is a 4=true:=by simp [is] at hi; exact hi.imp (·.1) (·.1)
    have ib:is b 3=true∨is b 4=true:=by simp [is] at hi; exact hi.imp (fun h=>(is13 b).1 h.2) (fun h=>(is13 b).2 h.2)
    rw [y9o];exact y7g a b v w hv (Lib.hid (ih a (by omega) (by omega) ia)) (Lib.hid (ih b (by omega) (by omega) ib)) hl
  | hand a b=>
    have hz:sz (.hand a b)=sz a+sz b+1:=rfl;have h3:is a 3=true∧is b 1=true:=by simpa [is] using hi
    rw [y0m];exact y4y a b v w hv (Lib.hid (ih a (by omega) (by omega) (.inl h3.1))) (Lib.hid (ih b (by omega) (by omega) (.inl ((is13 b).1 h3.2)))) (Lib.hid (not14 ((S_is a).1 h3.1))) hl
  | going a b=>
    have hz:sz (.going a b)=sz a+sz b+1:=rfl;have h3:is a 3=true∧is b 1=true:=by simpa [is] using hi
    rw [z5w];exact y2k a b v w hv (Lib.hid (ih a (by omega) (by omega) (.inl h3.1))) hl
  | stack a b=>
    have hz:sz (.stack a b)=sz a+sz b+1:=rfl;have h3:is a 4=true∧is b 1=true:=by simpa [is] using hi
    rw [z5v];exact y2j a b v w hv (Lib.hid (ih a (by omega) (by omega) (.inr h3.1))) hl
  | par a b=>
    have hz:sz (.par a b)=sz a+sz b+1:=rfl;have ia:is a 3=true∨is a 4=true:=by simp [is] at hi; exact hi.imp (·.1) (·.1)
    have ib:is b 3=true∨is b 4=true:=by simp [is] at hi; exact hi.imp (·.2) (·.2)
    rw [y9p];exact y7h a b v w hv (Lib.hid (ih a (by omega) (by omega) ia)) (Lib.hid (ih b (by omega) (by omega) ib)) hl
  | block a=>
    have hz:sz (.block a)=sz a+1:=rfl;have h4:is a 4=true:=by simpa [is] using hi
    rw [z5x];refine y2l a v w hv (Lib.hid (ih a (by omega) (by omega) (.inr h4))) (Lib.hid fun s c e=>?_) hl;have h5:=(S_is a).2 h4;have h6:=S_sz a;rw [e] at h5 h6;simp [is] at h5;simp only [sz] at h6;exact ih c (by omega) (by omega) (.inl ((is13 c).1 h5))
end Se
end Go.Proofs.YtaapnkoooofalaaGreat
