/- Laws that the last text leans on. -/
import Derived.Test.YtaapnkoooofalaaGreatQ39
import Derived.Lib.Join

set_option maxRecDepth 20000
set_option maxHeartbeats 8000000
namespace Go.Proofs.YtaapnkoooofalaaGreat
namespace Tr
open Go Go.RowKit
theorem y4n {w:World} {ds:List Value} {ss:List Tr} (hd:TrCells w ds ss):∀ {cs:List Value} {ts:List Tr},TrCells w cs ts→TrCells w (cs++ds) (ts++ss)
  | [],[],_=>hd
  | _::_::_,_::_,h=>⟨h.1,h.2.1,y4n hd h.2.2⟩
  | [],_::_,h=>h.elim
  | [_],[],h=>h.elim
  | [_],_::_,h=>h.elim
  | _::_::_,[],h=>h.elim
theorem v0u (w:World) (a b:Value) (t:TypeId):(w.alloc (.cells #[a,b] t)).cell? ⟨w.heap.size,0,none⟩=some a:=by simp
theorem v0t (w:World) (a b:Value) (t:TypeId):(w.alloc (.cells #[a,b] t)).cell? ⟨w.heap.size,1,none⟩=some b:=by simp
theorem orT_any (x y:Value) (l m:List Tr) (w:World) (hx:Trs w x l) (hy:Trs w y m) (hlen:l.length+m.length≤1000000000000) (hl:∀ t∈l++m,t.a.length≤1000000000000) :
    Calls Tryz.prog 121 #[x,y] w (SetPost (norm (l++m)) w):=by
  obtain ⟨cs,hr1,hc1⟩:=hx;obtain ⟨ds,hr2,hc2⟩:=hy;have hb0:∀ o,Below w.heap.size w (w.alloc o):=fun o=>(Below.refl _ _).alloc (Nat.le_refl _) o
  have HC:=Lib.hid (fun o (e0:(w.alloc o).cell? ⟨w.heap.size,0,none⟩=some x) (e1:(w.alloc o).cell? ⟨w.heap.size,1,none⟩=some y)=>y8u w.heap.size x y l.length m.length cs ds (w.alloc o) e0 e1 (hr1.below (hb0 o)) (hr2.below (hb0 o)) (y1x hc1) (y1x hc2) hlen);have HB0:=Lib.hid hb0;have HT:=Lib.hid (y4n hc2 hc1);have HL:=Lib.hid hl;obtain ⟨_,a1,c1,rfl,_⟩:=hr1;obtain ⟨_,a2,c2,rfl,_⟩:=hr2;unfold SetPost;obtain ⟨nl,hnn⟩:∃ nl,norm (l++m)=nl:=⟨_,rfl⟩
  have HN:=Lib.hid hnn;rw [hnn];clear hc1 hc2 hl hb0 hnn
  go_enter Tryz.func121,Tryz.ntmps121
  go_wp2_with fail;refine (HC.out _ (v0u _ _ _ _) (v0t _ _ _ _)).mono ?_;rintro e w1 ⟨v1,rfl,hown,hb1⟩;have B1:=Lib.hid ((HB0.out _).trans (hb1.mono (HB0.out _).size));have T1:Trs w1 v1 (l++m):=⟨cs++ds,by rw [List.length_append]; exact Ap.Rd.owned hown,TrCells.below B1.out HT.out⟩
  have S1:=x0a v1 (l++m) w1 T1 (by rw [List.length_append]; exact hlen) HL.out;rw [HN.out] at S1;have HS:=Lib.hid S1;obtain ⟨_,a3,c3,rfl,_⟩:=Ap.Rd.owned hown;clear hown hb1 T1 S1;go_wp2_with fail;refine HS.out.mono ?_;rintro e w2 ⟨v2,rfl,ht2,hb2⟩;have HT2:=Lib.hid ht2;have B2:=Lib.hid (B1.out.trans (hb2.mono B1.out.size));obtain ⟨_,⟨_,a4,c4,rfl,_⟩,_⟩:=ht2;clear hb2;go_wp2_with fail;go_ret;exact ⟨_,rfl,HT2.out,B2.out⟩
theorem x8a {w:World} {base:Nat} {v:Value} {l:List ByteArray} (h:w.ownsRow base 9 1 v l.length (l.map .string)):Mine base w v l:=by
  refine ⟨Ap.RdO.fresh h,fun b off cap hv j hj=>?_⟩;obtain ⟨_,⟨rfl,h0⟩ | ⟨g,cap',cur,rfl,_,hg,_⟩⟩:=h
  · cases hv
  · cases hv
    simp [World.frozen?,hg]
theorem x8b {w w':World} {base g:Nat} {v:Value} {l:List ByteArray} (h:Mine base w v l) (hg:w.grownBy w' (some g)) (hgb:g<base):Mine base w' v l:=by
  obtain ⟨⟨hl,a,cap,hv,hc,hn,hcell⟩,hf⟩:=h;refine ⟨⟨hl,a,cap,hv,hc,hn,fun h0=>?_⟩,fun b off cap' hv' j hj=>?_⟩
  · obtain ⟨b,off,ha,hne,hlt,hj⟩:=hcell h0;refine ⟨b,off,ha,hne,Nat.lt_of_lt_of_le hlt hg.size,fun i u hu=>?_⟩;rw [World.cell?_of_block (w:=w) (a:=⟨b,off+i,none⟩) (hg.block b hlt fun e=>by cases e; omega)];exact hj i u hu
  · have h1:=hf b off cap' hv' j hj;rw [hv] at hv';injection hv' with hv1 hv2 hv3;obtain ⟨b',off',ha,hne,hlt,_⟩:=hcell (by omega);rw [hv1] at ha
    cases ha
    rw [World.frozen?_of_block (w:=w) (a:=⟨b,off+j,none⟩) (hg.block b hlt fun e=>by cases e; omega)];exact h1
theorem z6h {w:World} {base base':Nat} {v:Value} {l:List ByteArray} (h:Mine base w v l) (hb:base'≤base):Mine base' w v l:=⟨Ap.RdO.imp h.1 fun _ _ hb'=>Nat.le_trans hb hb',h.2⟩
theorem thn_if {p q:Tr} (h:p.e=1):thn p q=⟨p.a++q.a,q.e⟩:=by rw [thn,if_pos h]
theorem thn_not {p q:Tr} (h:¬ p.e=1):thn p q=p:=by rw [thn,if_neg h]
theorem y9h (w:World) (x y z:Obj):Below w.heap.size w (((w.alloc x).alloc y).alloc z):=(((Below.refl _ _).alloc (Nat.le_refl _) x).alloc (by simp) y).alloc (by simp; omega) z
theorem v1f (w:World) (x y z u:Obj):Below w.heap.size w ((((w.alloc x).alloc y).alloc z).alloc u):=(y9h w x y z).alloc (by simp; omega) u
def Bx3 (w w4:World) (a b c d:Value):Prop:=
  w4.cell? ⟨w.heap.size,0,none⟩=some a∧w4.cell? ⟨w.heap.size,1,none⟩=some b∧w4.cell? ⟨w.heap.size+1,0,none⟩=some c∧w4.cell? ⟨w.heap.size+1,1,none⟩=some d∧w4.cell? ⟨w.heap.size+1+1,0,none⟩=some (.slice none 0 0)∧w4.cell? ⟨w.heap.size+1+1,1,none⟩=some (.int .i64 0)∧w4.frozen? ⟨w.heap.size+1+1,0,none⟩=false∧w4.frozen? ⟨w.heap.size+1+1,1,none⟩=false
theorem y6v (w:World) (a b c d:Value) (t:TypeId):Bx3 w ((((w.alloc (.cells #[a,b] t)).alloc (.cells #[c,d] t)).alloc (.cells #[.slice none 0 0,.int .i64 0] t))) a b c d:=by
  refine ⟨?_,?_,?_,?_,?_,?_,?_,?_⟩ <;> simp [go_sem]
theorem Bx3.below {w w3 w4:World} {a b c d:Value} {B:Nat} (h:Bx3 w w3 a b c d) (hb:Below B w3 w4) (hB:w.heap.size+3≤B):Bx3 w w4 a b c d:=by
  obtain ⟨h1,h2,h3,h4,h5,h6,h7,h8⟩:=h;refine ⟨?_,?_,?_,?_,?_,?_,?_,?_⟩
  · rw [hb.cell (p:=⟨w.heap.size,0,none⟩) (by show w.heap.size<B; omega)]; exact h1
  · rw [hb.cell (p:=⟨w.heap.size,1,none⟩) (by show w.heap.size<B; omega)]; exact h2
  · rw [hb.cell (p:=⟨w.heap.size+1,0,none⟩) (by show w.heap.size+1<B; omega)]; exact h3
  · rw [hb.cell (p:=⟨w.heap.size+1,1,none⟩) (by show w.heap.size+1<B; omega)]; exact h4
  · rw [hb.cell (p:=⟨w.heap.size+1+1,0,none⟩) (by show w.heap.size+1+1<B; omega)]; exact h5
  · rw [hb.cell (p:=⟨w.heap.size+1+1,1,none⟩) (by show w.heap.size+1+1<B; omega)]; exact h6
  · rw [hb.frozen (p:=⟨w.heap.size+1+1,0,none⟩) (by show w.heap.size+1+1<B; omega)]; exact h7
  · rw [hb.frozen (p:=⟨w.heap.size+1+1,1,none⟩) (by show w.heap.size+1+1<B; omega)]; exact h8
theorem z4w {w4:World} {g b o o1 o2:Nat} {x y u:Value} (h:w4.cell? ⟨b,o,none⟩=some u) (hne:g≠b):((w4.setCell ⟨g,o1,none⟩ x).setCell ⟨g,o2,none⟩ y).cell? ⟨b,o,none⟩=some u:=by
  rw [World.cell?_of_block (w:=w4) (a:=⟨b,o,none⟩) (by rw [heap_setCell,if_neg hne,heap_setCell,if_neg hne])];exact h
theorem then_not (a1 a2:Option Addr) (c1 c2:Nat) (p q:Tr) (w:World) (h1:Strs w (.slice a1 p.a.length c1) p.a) (hp:¬ p.e=1) (hlen:p.a.length≤1000000000000) :
    Calls Tryz.prog 173 #[.agg #[.slice a1 p.a.length c1,.int .i64 p.e],.agg #[.slice a2 q.a.length c2,.int .i64 q.e]] w (ThnPost p w):=by
  have H1:=Lib.hid h1;have B3:=Lib.hid (y9h w);have CL:=Lib.hid (fun x y z=>z5j (.slice a1 p.a.length c1) p.a.length (p.a.map .string) (((w.alloc x).alloc y).alloc z).drew (H1.out.below ((B3.out x y z).drew)) (z5b _) hlen);have K0:=y6v w (.slice a1 p.a.length c1) (.int .i64 p.e) (.slice a2 q.a.length c2) (.int .i64 q.e) 67;have K0':=Lib.hid K0;obtain ⟨k1,k2,-⟩:=K0;unfold ThnPost;clear h1
  go_enter Tryz.func173,Tryz.ntmps173
  go_wp2_with fail
  go_region_held3 (fun w'=>w'.cell? ⟨w.heap.size,0,none⟩=some (.slice a1 p.a.length c1)∧w'.cell? ⟨w.heap.size,1,none⟩=some (.int .i64 p.e)) (first | (simp [go_sem]; done) | exact ⟨j1,j2⟩ | exact ⟨z4w j1 (by omega),z4w j2 (by omega)⟩ | fail) (first
    | (go_at_call 107
       refine (CL.out _ _ _).mono ?_;rintro e w4 ⟨v4,rfl,hown4,hb4⟩;have K4:=K0'.out.below ((Below.refl _ _).drew.trans hb4) (by simp);obtain ⟨j1,j2,_,_,j5,j6,j7,j8⟩:=K4;have O4:=Lib.hid hown4;have B4:=Lib.hid hb4;obtain ⟨_,a4,c4,rfl,_⟩:=Ap.Rd.owned hown4;clear hown4 hb4)
    | fail)
  go_wp2_with fail;refine bodyPost_ret (v:=.agg #[.slice a4 p.a.length c4,.int .i64 p.e]) (by simp [results,Tryz.results173,go_sem,j5,j6]) rfl ⟨_,rfl,?_,?_⟩
  · refine z6h (base:=w.heap.size+3) ?_ (by omega);exact x8b (z6h (x8a O4.out) (by simp)) (z0c (z0n _ _ _ _) (z0n _ _ _ _)) (by omega)
  · exact (((B3.out _ _ _).drew.trans (B4.out.mono (by simp; omega))).setCell (by show w.heap.size≤w.heap.size+1+1; omega) _).setCell (by show w.heap.size≤w.heap.size+1+1; omega) _
theorem then_yes (a1 a2:Option Addr) (c1 c2:Nat) (p q:Tr) (w:World) (h1:Strs w (.slice a1 p.a.length c1) p.a) (h2:Strs w (.slice a2 q.a.length c2) q.a) (hlen:p.a.length+q.a.length≤1000000000000) :
    Calls Tryz.prog 173 #[.agg #[.slice a1 p.a.length c1,.int .i64 1],.agg #[.slice a2 q.a.length c2,.int .i64 q.e]] w (ThnPost ⟨p.a++q.a,q.e⟩ w):=by
  have H1:=Lib.hid h1;have H2:=Lib.hid h2;have B3:=Lib.hid (y9h w);have B4:=Lib.hid (v1f w);have CL:=Lib.hid (fun x y z u e0 e1=>y8v (w.heap.size+1+1+1) (.slice a1 p.a.length c1) (.slice a2 q.a.length c2) p.a.length q.a.length (p.a.map .string) (q.a.map .string) ((((w.alloc x).alloc y).alloc z).alloc u).drew e0 e1 (H1.out.below ((B4.out x y z u).drew)) (H2.out.below ((B4.out x y z u).drew)) (z5b _) (z5b _) hlen);have K0:=y6v w (.slice a1 p.a.length c1) (.int .i64 1) (.slice a2 q.a.length c2) (.int .i64 q.e) 67;have K0':=Lib.hid K0;unfold ThnPost;clear h1 h2 K0
  go_enter Tryz.func173,Tryz.ntmps173
  go_wp2_with fail
  go_region_held3 (fun w'=>w'.cell? ⟨w.heap.size,0,none⟩=some (.slice a1 p.a.length c1)∧w'.cell? ⟨w.heap.size+1,0,none⟩=some (.slice a2 q.a.length c2)∧w'.cell? ⟨w.heap.size+1,1,none⟩=some (.int .i64 q.e)) (first | (simp [go_sem]; done) | exact ⟨j1,j3,j4⟩ | exact ⟨z4w j1 (by omega),z4w j3 (by omega),z4w j4 (by omega)⟩ | fail) (first
    | (go_at_call 206
       refine (CL.out _ _ _ _ (by simp [go_sem]) (by simp [go_sem])).mono ?_;rintro e w4 ⟨v4,rfl,hown4,hb4⟩;have K4:=K0'.out.below ((((Below.refl _ _).alloc (Nat.le_refl _) _).drew).trans (hb4.mono (by simp))) (by simp);obtain ⟨j1,_,j3,j4,j5,j6,j7,j8⟩:=K4;have O4:=Lib.hid hown4;have HB4:=Lib.hid hb4;obtain ⟨_,a4,c4,rfl,_⟩:=Ap.Rd.owned hown4;clear hown4 hb4)
    | fail)
  go_wp2_with fail;refine bodyPost_ret (v:=.agg #[.slice a4 (p.a.length+q.a.length) c4,.int .i64 q.e]) (by simp [results,Tryz.results173,go_sem,j5,j6]) rfl ⟨_,rfl,?_,?_⟩
  · refine z6h (base:=w.heap.size+3) ?_ (by omega);have O5:=O4.out;rw [← List.length_append,← List.map_append] at O5;have:=x8b (z6h (base':=w.heap.size+3) (x8a O5) (by simp)) (z0c (z0n _ (w.heap.size+1+1) 0 (.slice a4 (p.a++q.a).length c4)) (z0n _ (w.heap.size+1+1) 1 (.int .i64 q.e))) (by omega);rw [List.length_append] at this;exact this
  · exact (((B4.out _ _ _ _).drew.trans (HB4.out.mono (by simp; omega))).setCell (by show w.heap.size≤w.heap.size+1+1; omega) _).setCell (by show w.heap.size≤w.heap.size+1+1; omega) _
theorem x5p (v1 v2:Value) (p q:Tr) (w:World) (h1:Strs w v1 p.a) (h2:Strs w v2 q.a) (hlen:p.a.length+q.a.length≤1000000000000) :
    Calls Tryz.prog 173 #[.agg #[v1,.int .i64 p.e],.agg #[v2,.int .i64 q.e]] w (ThnPost (thn p q) w):=by
  have h1':=h1;have h2':=h2;obtain ⟨_,a1,c1,rfl,-⟩:=h1';obtain ⟨_,a2,c2,rfl,-⟩:=h2'
  by_cases hp:p.e=1
  · rw [thn_if hp,hp];exact then_yes a1 a2 c1 c2 p q w h1 h2 hlen
  · rw [thn_not hp];exact then_not a1 a2 c1 c2 p q w h1 hp (by omega)
theorem infoRs:(Tryz.prog.info? 210).map (fun i=>(i.zero,i.size,i.bytes))=some (some (.agg #[.slice none 0 0,.slice none 0 0]),2,48):=by kernel_rfl
theorem z8v {wr:World} {base n:Nat} {v a b:Value} {cs:List Value} (hown:wr.ownsRow base 210 2 v n cs) (hbase:base≤wr.heap.size) (ha:a.oneCell'=true) (hb:b.oneCell'=true) (hlen:n≤1000000000000) :
    ∃ v' w',(Builtin.append_ #[206,206] 206 #[v,.slice (some ⟨wr.heap.size,0,none⟩) 1 1]).run Tryz.prog (wr.alloc (.cells #[a,b] 210))=.ok v' w'∧
      w'.ownsRow base 210 2 v' (n+1) (cs++[a,b])∧wr.grownBy w' v.ownBlock∧Below base wr w'∧Ap.Fresh wr v v':=by
  obtain ⟨i0,hi,hz,hs1,hb8⟩:=info_parts infoRs
  obtain ⟨v',w',h1,h2,h3,h4,h5⟩:=Ap.z0w (P:=Tryz.prog) (ty:=206) Tryz.underlying206 hi hz hs1 hb8 (by rfl) (by omega) hown hbase #[a,b] rfl
    (fun u hu=>by
      simp at hu
      rcases hu with rfl | rfl
      · exact ha
      · exact hb) (by unfold maxLen; omega) (by omega)
  exact ⟨v',w',h1,by simpa using h2,h3,h4,h5⟩
theorem z1h {wr:World} {base n g:Nat} {v a b:Value} {cs:List Value} (hg:wr.heap.size=g) (hown:wr.ownsRow base 210 2 v n cs) (hbase:base≤wr.heap.size) (ha:a.oneCell'=true) (hb:b.oneCell'=true) (hlen:n≤1000000000000) :
    ∃ v' w',(Builtin.append_ #[206,206] 206 #[v,.slice (some ⟨g,0,none⟩) 1 1]).run Tryz.prog (wr.alloc (.cells #[a,b] 210)).drew=.ok v' w'∧
      w'.ownsRow base 210 2 v' (n+1) (cs++[a,b])∧wr.grownBy w' v.ownBlock∧Below base wr w'∧Ap.Fresh wr v v':=by
  subst hg;obtain ⟨v',w',h1,h2,h3,h4,h5⟩:=z8v (wr:=wr.drew) (a:=a) (b:=b) (Ap.own_below hown (Below.refl _ _).drew) hbase ha hb hlen;exact ⟨v',w',h1,h2,z0c (z0u _ _) h3,(Below.refl _ _).drew.trans h4,h5⟩
theorem RsC.snoc {ok:Nat→Prop} {w:World} {a b:Value} {q:Rst} (ha:StrsO ok w a q.1) (hb:StrsO ok w b q.2):∀ {cs:List Value} {qs:List Rst},RsC ok w cs qs→RsC ok w (cs++[a,b]) (qs++[q])
  | [],[],_=>⟨ha,hb,trivial⟩
  | _::_::_,_::_,h=>⟨h.1,h.2.1,RsC.snoc ha hb h.2.2⟩
  | [],_::_,h=>h.elim
  | [_],[],h=>h.elim
  | [_],_::_,h=>h.elim
  | _::_::_,[],h=>h.elim
theorem z5c {ok:Nat→Prop} {w:World} {b off cap:Nat} {x:ByteArray} {l:List ByteArray} (h:StrsO ok w (.slice (some ⟨b,off,none⟩) (l.length+1) cap) (x::l)) (o:Nat) (ho:o=off+1∨cap=1) :
    StrsO ok w (.slice (some ⟨b,o,none⟩) l.length (cap-1)) l:=by
  obtain ⟨hl,a,cap',hv,hc,hn,hcell⟩:=h
  cases hv
  simp at hc;refine ⟨by simp,some ⟨b,o,none⟩,cap-1,rfl,by omega,fun h=>(by cases h),fun h0=>?_⟩;obtain ⟨b',off',ha,hok,hlt,hj⟩:=hcell (by simp)
  cases ha
  rcases ho with rfl | h1
  · refine ⟨b,off+1,rfl,hok,hlt,fun j u hu=>?_⟩;rw [show off+1+j=off+(j+1) by omega];exact hj (j+1) u (by simpa using hu)
  · omega
theorem bh_take (x:ByteArray) (left:List Rst) (k:Nat) (h:k<left.length):bh x (left.take (k+1))=bh x (left.take k)++bh1 x left[k]:=by
  rw [List.take_succ_eq_append_getElem h,bh,List.flatMap_append];simp [bh]
theorem v1b (x:ByteArray):∀ left:List Rst,(bh x left).length≤2*left.length
  | []=>by simp [bh]
  | q::left=>by
    have:=v1b x left;have e:bh x (q::left)=bh1 x q++bh x left:=by simp [bh]
    have e2:(bh1 x q).length≤2:=by
      unfold bh1;rw [List.length_append]
      split <;> split <;> simp
    rw [e,List.length_append,List.length_cons];omega
theorem str_ne {x y:ByteArray} (h:y≠x):(y.toList==x.toList)=false:=by
  rw [beq_eq_false_iff_ne];exact fun e=>h (toList_inj e)
theorem Rss.formO {ok:Nat→Prop} {w:World} {v:Value} {qs:List Rst} (h:Rss ok w v qs):∃ a cap,v=.slice a qs.length cap∧
    ∀ k,(hk:k<qs.length)→∃ b off x y,a=some ⟨b,off,none⟩∧w.cell? ⟨b,off+k*2,none⟩=some x∧w.cell? ⟨b,off+k*2+1,none⟩=some y∧StrsO ok w x qs[k].1∧StrsO ok w y qs[k].2:=by
  obtain ⟨cs,⟨_,a,cap,rfl,_,_,hcell⟩,hc⟩:=h;refine ⟨a,cap,rfl,fun k hk=>?_⟩;obtain ⟨b,off,ha,_,_,hj⟩:=hcell (by omega);obtain ⟨x,y,h1,h2,h3,h4⟩:=hc.at k hk;exact ⟨b,off,x,y,ha,by rw [Nat.mul_comm k 2]; exact hj _ _ h1,by rw [Nat.mul_comm k 2,Nat.add_assoc]; exact hj _ _ h2,h3,h4⟩
def BhI (ok:Nat→Prop) (x:ByteArray) (left:List Rst) (w:World) (k:Nat) (v:Value) (wr:World):Prop:=
  ∃ cs,wr.ownsRow w.heap.size 210 2 v (bh x (left.take k)).length cs∧RsC ok w cs (bh x (left.take k))∧Below w.heap.size w wr
theorem y9i (ok:Nat→Prop) (v:Value) (left:List Rst) (x:ByteArray) (w:World) (h:Rss ok w v left) (hlen:left.length≤100000) (hq:∀ q∈left,q.1.length≤1000∧q.2.length≤1000)
    (fin:∀ (v1:Value) (w1:World),BhI ok x left w left.length v1 w1→Calls Tryz.prog 239 #[v1,.func (.func 240) #[] #[]] w1 fun e w'=>∃ vl l',e=.returned vl∧Rss (fun b=>ok b∨w.heap.size≤b) w' vl l'∧(∀ p,p∈l'↔p∈bh x left)∧l'.length≤2*left.length∧Below w.heap.size w w') :
    Calls Tryz.prog 230 #[v,.string x] w fun e w'=>∃ vl l',e=.returned vl∧Rss (fun b=>ok b∨w.heap.size≤b) w' vl l'∧(∀ p,p∈l'↔p∈bh x left)∧l'.length≤2*left.length∧Below w.heap.size w w':=by
  obtain ⟨a,cap,rfl,hf⟩:=h.formO;have HF:=Lib.hid hf;have HQ:=Lib.hid hq;have FIN:=Lib.hid fin;clear hf hq h fin
  go_enter Tryz.func230,Tryz.ntmps230
  go_wp2_with fail
  go_loopw [5,10] (fun vn i wr=>∃ k:Nat,k≤left.length∧i=.int .i64 (k:Int)∧BhI ok x left w k vn wr) (fun _ i _=>left.length-(intOf i).toNat)
  case atStart=>exact ⟨0,Nat.zero_le _,rfl,[],⟨rfl,.inl ⟨rfl,rfl⟩⟩,trivial,Below.refl _ _⟩
  case round=>
    obtain ⟨k,hk,rfl,HI⟩:=hrel
    by_cases hlt:k<left.length
    · obtain ⟨cs,hown,hrs,hb⟩:=HI;have hbl:=v1b x (left.take k);have hkk:(left.take k).length=k:=by simp; omega
      obtain ⟨b,off,xv,yv,rfl,e0,e1,s0,s1⟩:=HF.out k hlt;have c0:wr.cell? ⟨b,off+k*2,none⟩=some xv:=by rw [hb.cell (Ap.z0a e0)]; exact e0
      have c1:wr.cell? ⟨b,off+k*2+1,none⟩=some yv:=by rw [hb.cell (Ap.z0a e1)]; exact e1
      have hq:=HQ.out _ (List.getElem_mem hlt);have ht:=bh_take x left k hlt;obtain ⟨q,hqq⟩:∃ q,left[k]=q:=⟨_,rfl⟩
      rw [hqq] at hq ht s0 s1;clear hqq e0 e1;obtain ⟨qa,qb⟩:=q;simp only at hq s0 s1;obtain ⟨n0,hn0⟩:∃ n0,(bh x (left.take k)).length=n0:=⟨_,rfl⟩
      rw [hn0] at hown hbl;obtain ⟨_,a3,c3,rfl,-⟩:=id (Ap.Rd.owned hown);have HO:=Lib.hid hown;have HR:=Lib.hid hrs;have HB:=Lib.hid hb;have HN:=Lib.hid hn0;have HT:=Lib.hid ht;have S0:=Lib.hid s0;have S1:=Lib.hid s1
      have hnb:some wr.heap.size≠(Value.slice a3 n0 c3).ownBlock:=fun e=>by
        have:=Ap.z6g hown _ e.symm;omega
      have HNB:=Lib.hid hnb;clear hown hrs hb ht s0 s1 hn0 hnb
      cases qb with
      | nil=>
        obtain ⟨_,ay,cy,rfl,-⟩:=id S1.out
        cases qa with
        | nil=>
          obtain ⟨_,ax,cx,rfl,-⟩:=id S0.out;go_wp2_with fail
          go_roundw
          case rel=>
            refine ⟨k+1,by omega,by go_num,cs,?_,?_,HB.out.alloc HB.out.size _⟩
            · rw [HT.out,show bh1 x ([],[])=[] by simp [bh1],List.append_nil,HN.out]; exact HO.out.alloc _
            · rw [HT.out,show bh1 x ([],[])=[] by simp [bh1],List.append_nil]; exact HR.out
          case measure=>simp [intOf]; omega
        | cons z l=>
          obtain ⟨_,ax,cx,rfl,_,_,hcx⟩:=id S0.out;obtain ⟨b1,o1,rfl,_,hlt1,hj1⟩:=hcx (by simp);have hz0:w.cell? ⟨b1,o1,none⟩=some (.string z):=hj1 0 (.string z) (by simp);have HZ0:=Lib.hid hz0;clear hj1 hcx hz0;have hl1:(0:Int)<(l.length:Int)+1:=by omega
          have f1:(wr.alloc (.cells #[.slice (some ⟨b1,o1,none⟩) (l.length+1) cx,.slice ay 0 cy] 210)).cell? ⟨b1,o1,none⟩=some (.string z):=by rw [World.cell?_alloc_lt _ _ _ (Nat.lt_of_lt_of_le hlt1 HB.out.size),HB.out.cell (p:=⟨b1,o1,none⟩) hlt1]; exact HZ0.out
          by_cases hzx:z=x
          · subst hzx;have heqz:(z.toList==z.toList)=true:=by simp
            obtain ⟨p1,hp1,rs1⟩:∃ p1,(p1=o1+1∨cx=1)∧∀ w:World,(Instr.slice 65 (.slice (some ⟨b1,o1,none⟩) (l.length+1) cx) (some (.int .i64 1)) none none).run Tryz.prog w=.ok (.slice (some ⟨b1,p1,none⟩) l.length (cx-1)) w:=⟨_,(by by_cases h:cx=1 <;> simp [h]),y9x b1 o1 l.length cx⟩
            have TA:=Lib.hid (z5c S0.out p1 hp1);clear hp1;obtain ⟨v5,w5,hr5,ho5,hg5,hb5,_⟩:=z1h (wr:=wr.alloc (.cells #[.slice (some ⟨b1,o1,none⟩) (l.length+1) cx,.slice ay 0 cy] 210)) (g:=wr.heap.size+1) (a:=.slice (some ⟨b1,p1,none⟩) l.length (cx-1)) (b:=.slice ay 0 cy) (by simp) (HO.out.alloc (.cells #[.slice (some ⟨b1,o1,none⟩) (l.length+1) cx,.slice ay 0 cy] 210)) (HB.out.alloc HB.out.size (.cells #[.slice (some ⟨b1,o1,none⟩) (l.length+1) cx,.slice ay 0 cy] 210)).size rfl rfl (by omega);have g0:w5.cell? ⟨wr.heap.size,0,none⟩=some (.slice (some ⟨b1,o1,none⟩) (l.length+1) cx):=hg5.cell (a:=⟨wr.heap.size,0,none⟩) (by simp [go_sem]) HNB.out;have g1:w5.cell? ⟨wr.heap.size,1,none⟩=some (.slice ay 0 cy):=hg5.cell (a:=⟨wr.heap.size,1,none⟩) (by simp [go_sem]) HNB.out;have R5:=Lib.hid hr5;have O5:=Lib.hid ho5;have B5:=Lib.hid ((HB.out.alloc HB.out.size (.cells #[.slice (some ⟨b1,o1,none⟩) (l.length+1) cx,.slice ay 0 cy] 210)).trans hb5);obtain ⟨_,a5,c5,rfl,-⟩:=id (Ap.Rd.owned ho5);clear hr5 ho5 hg5 hb5;go_wp2_with fail
            go_region_held3 (fun w'=>w'.cell? ⟨wr.heap.size,0,none⟩=some (.slice (some ⟨b1,o1,none⟩) (l.length+1) cx)∧w'.cell? ⟨wr.heap.size,1,none⟩=some (.slice ay 0 cy)) (first | exact ⟨g0,g1⟩ | fail | (simp [go_sem]; done) | go_keep | fail) (first
              | (refine Ap.z0m (by rfl) _ _ _ _ rfl _ _ rfl rfl _ w5 R5.out ?_)
              | fail)
            go_wp2_with fail
            go_roundw
            case rel=>
              refine ⟨k+1,by omega,by go_num,cs++[.slice (some ⟨b1,p1,none⟩) l.length (cx-1),.slice ay 0 cy],?_,?_,B5.out⟩
              · rw [HT.out,show bh1 z ((z::l),[])=[(l,[])] by simp [bh1],List.length_append,HN.out]; exact O5.out
              · rw [HT.out,show bh1 z ((z::l),[])=[(l,[])] by simp [bh1]]; exact RsC.snoc (q:=(l,[])) TA.out S1.out HR.out
            case measure=>simp [intOf]; omega
          · have heqz:=str_ne hzx;have HZX:=Lib.hid hzx;clear hzx;go_wp2_with fail
            go_roundw
            case rel=>
              refine ⟨k+1,by omega,by go_num,cs,?_,?_,HB.out.alloc HB.out.size _⟩
              · rw [HT.out,show bh1 x ((z::l),[])=[] by simp [bh1,HZX.out],List.append_nil,HN.out]; exact HO.out.alloc _
              · rw [HT.out,show bh1 x ((z::l),[])=[] by simp [bh1,HZX.out],List.append_nil]; exact HR.out
            case measure=>simp [intOf]; omega
      | cons y m=>
        obtain ⟨_,ay,cy,rfl,_,_,hcy⟩:=id S1.out;obtain ⟨b2,o2,rfl,_,hlt2,hj2⟩:=hcy (by simp);have hy0:w.cell? ⟨b2,o2,none⟩=some (.string y):=hj2 0 (.string y) (by simp);have f2:∀ o,(wr.alloc o).cell? ⟨b2,o2,none⟩=some (.string y):=fun o=>by rw [World.cell?_alloc_lt _ _ _ (Nat.lt_of_lt_of_le hlt2 HB.out.size),HB.out.cell (p:=⟨b2,o2,none⟩) hlt2]; exact hy0
        have F2:=Lib.hid f2;clear hj2 hcy hy0 f2;have hm1:(0:Int)<(m.length:Int)+1:=by omega
        by_cases hyx:y=x
        · subst hyx;have heq:(y.toList==y.toList)=true:=by simp
          obtain ⟨p2,hp2,rs2⟩:∃ p2,(p2=o2+1∨cy=1)∧∀ w:World,(Instr.slice 65 (.slice (some ⟨b2,o2,none⟩) (m.length+1) cy) (some (.int .i64 1)) none none).run Tryz.prog w=.ok (.slice (some ⟨b2,p2,none⟩) m.length (cy-1)) w:=⟨_,(by by_cases h:cy=1 <;> simp [h]),y9x b2 o2 m.length cy⟩
          have TB:=Lib.hid (z5c S1.out p2 hp2);clear hp2
          cases qa with
          | nil=>
            obtain ⟨_,ax,cx,rfl,-⟩:=id S0.out;have f2:=F2.out (.cells #[.slice ax 0 cx,.slice (some ⟨b2,o2,none⟩) (m.length+1) cy] 210);obtain ⟨v4,w4,hr4,ho4,hg4,hb4,hfr4⟩:=z1h (wr:=wr.alloc (.cells #[.slice ax 0 cx,.slice (some ⟨b2,o2,none⟩) (m.length+1) cy] 210)) (g:=wr.heap.size+1) (a:=.slice ax 0 cx) (b:=.slice (some ⟨b2,p2,none⟩) m.length (cy-1)) (by simp) (HO.out.alloc (.cells #[.slice ax 0 cx,.slice (some ⟨b2,o2,none⟩) (m.length+1) cy] 210)) (HB.out.alloc HB.out.size (.cells #[.slice ax 0 cx,.slice (some ⟨b2,o2,none⟩) (m.length+1) cy] 210)).size rfl rfl (by omega);have kb0:w4.cell? ⟨wr.heap.size,0,none⟩=some (.slice ax 0 cx):=hg4.cell (a:=⟨wr.heap.size,0,none⟩) (by simp [go_sem]) HNB.out;have kb1:w4.cell? ⟨wr.heap.size,1,none⟩=some (.slice (some ⟨b2,o2,none⟩) (m.length+1) cy):=hg4.cell (a:=⟨wr.heap.size,1,none⟩) (by simp [go_sem]) HNB.out;have R4:=Lib.hid hr4;have HB2:=Lib.hid ((HB.out.alloc HB.out.size (.cells #[.slice ax 0 cx,.slice (some ⟨b2,o2,none⟩) (m.length+1) cy] 210)).trans hb4);have HR2:=Lib.hid (RsC.snoc (q:=([],m)) S0.out TB.out HR.out)
            have hnb2:some wr.heap.size≠v4.ownBlock:=fun e=>by
              rcases hfr4 with h | ⟨k',h,h'⟩
              · rw [h] at e; exact HNB.out e
              · rw [h] at e
                cases e
                simp at h';omega
            have HNB2:=Lib.hid hnb2;obtain ⟨_,a4,c4,rfl,-⟩:=id (Ap.Rd.owned ho4);have HO2:=Lib.hid ho4;clear hr4 ho4 hg4 hb4 hfr4 hnb2;go_wp2_with fail
            go_region_held3 (fun w'=>w'.cell? ⟨wr.heap.size,0,none⟩=some (.slice ax 0 cx)∧w'.cell? ⟨wr.heap.size,1,none⟩=some (.slice (some ⟨b2,o2,none⟩) (m.length+1) cy)) (first | exact ⟨kb0,kb1⟩ | (simp [go_sem]; done) | go_keep | fail) (first
              | (refine Ap.z0m (by rfl) _ _ _ _ rfl _ _ rfl rfl _ w4 R4.out ?_)
              | fail)
            go_wp2_with fail
            go_roundw
            case rel=>
              refine ⟨k+1,by omega,by go_num,cs++[.slice ax 0 cx,.slice (some ⟨b2,p2,none⟩) m.length (cy-1)],?_,?_,HB2.out⟩
              · rw [HT.out,show bh1 y ([],(y::m))=[([],m)] by simp [bh1],List.length_append,HN.out]; exact HO2.out
              · rw [HT.out,show bh1 y ([],(y::m))=[([],m)] by simp [bh1]]; exact HR2.out
            case measure=>simp [intOf]; omega
          | cons z l=>
            obtain ⟨_,ax,cx,rfl,_,_,hcx⟩:=id S0.out;obtain ⟨b1,o1,rfl,_,hlt1,hj1⟩:=hcx (by simp);have hz0:w.cell? ⟨b1,o1,none⟩=some (.string z):=hj1 0 (.string z) (by simp);have HZ0:=Lib.hid hz0;clear hj1 hcx hz0;have hl1:(0:Int)<(l.length:Int)+1:=by omega
            have f2:=F2.out (.cells #[.slice (some ⟨b1,o1,none⟩) (l.length+1) cx,.slice (some ⟨b2,o2,none⟩) (m.length+1) cy] 210);obtain ⟨v4,w4,hr4,ho4,hg4,hb4,hfr4⟩:=z1h (wr:=wr.alloc (.cells #[.slice (some ⟨b1,o1,none⟩) (l.length+1) cx,.slice (some ⟨b2,o2,none⟩) (m.length+1) cy] 210)) (g:=wr.heap.size+1) (a:=.slice (some ⟨b1,o1,none⟩) (l.length+1) cx) (b:=.slice (some ⟨b2,p2,none⟩) m.length (cy-1)) (by simp) (HO.out.alloc (.cells #[.slice (some ⟨b1,o1,none⟩) (l.length+1) cx,.slice (some ⟨b2,o2,none⟩) (m.length+1) cy] 210)) (HB.out.alloc HB.out.size (.cells #[.slice (some ⟨b1,o1,none⟩) (l.length+1) cx,.slice (some ⟨b2,o2,none⟩) (m.length+1) cy] 210)).size rfl rfl (by omega);have kb0:w4.cell? ⟨wr.heap.size,0,none⟩=some (.slice (some ⟨b1,o1,none⟩) (l.length+1) cx):=hg4.cell (a:=⟨wr.heap.size,0,none⟩) (by simp [go_sem]) HNB.out;have kb1:w4.cell? ⟨wr.heap.size,1,none⟩=some (.slice (some ⟨b2,o2,none⟩) (m.length+1) cy):=hg4.cell (a:=⟨wr.heap.size,1,none⟩) (by simp [go_sem]) HNB.out;have R4:=Lib.hid hr4;have HB2:=Lib.hid ((HB.out.alloc HB.out.size (.cells #[.slice (some ⟨b1,o1,none⟩) (l.length+1) cx,.slice (some ⟨b2,o2,none⟩) (m.length+1) cy] 210)).trans hb4);have HR2:=Lib.hid (RsC.snoc (q:=((z::l),m)) S0.out TB.out HR.out)
            have hnb2:some wr.heap.size≠v4.ownBlock:=fun e=>by
              rcases hfr4 with h | ⟨k',h,h'⟩
              · rw [h] at e; exact HNB.out e
              · rw [h] at e
                cases e
                simp at h';omega
            have HNB2:=Lib.hid hnb2;obtain ⟨_,a4,c4,rfl,-⟩:=id (Ap.Rd.owned ho4);have HO2:=Lib.hid ho4;clear hr4 ho4 hg4 hb4 hfr4 hnb2;go_wp2_with fail
            go_region_held3 (fun w'=>w'.cell? ⟨wr.heap.size,0,none⟩=some (.slice (some ⟨b1,o1,none⟩) (l.length+1) cx)∧w'.cell? ⟨wr.heap.size,1,none⟩=some (.slice (some ⟨b2,o2,none⟩) (m.length+1) cy)) (first | exact ⟨kb0,kb1⟩ | (simp [go_sem]; done) | go_keep | fail) (first
              | (refine Ap.z0m (by rfl) _ _ _ _ rfl _ _ rfl rfl _ w4 R4.out ?_)
              | fail)
            have f1:w4.cell? ⟨b1,o1,none⟩=some (.string z):=by rw [HB2.out.cell (p:=⟨b1,o1,none⟩) hlt1]; exact HZ0.out
            by_cases hzx:z=y
            · subst hzx;have heqz:(z.toList==z.toList)=true:=by simp
              obtain ⟨p1,hp1,rs1⟩:∃ p1,(p1=o1+1∨cx=1)∧∀ w:World,(Instr.slice 65 (.slice (some ⟨b1,o1,none⟩) (l.length+1) cx) (some (.int .i64 1)) none none).run Tryz.prog w=.ok (.slice (some ⟨b1,p1,none⟩) l.length (cx-1)) w:=⟨_,(by by_cases h:cx=1 <;> simp [h]),y9x b1 o1 l.length cx⟩
              have TA:=Lib.hid (z5c S0.out p1 hp1);clear hp1;obtain ⟨v5,w5,hr5,ho5,hg5,hb5,_⟩:=z1h (wr:=w4) (g:=w4.heap.size) (a:=.slice (some ⟨b1,p1,none⟩) l.length (cx-1)) (b:=.slice (some ⟨b2,o2,none⟩) (m.length+1) cy) (by simp) (HO2.out) (HB2.out).size rfl rfl (by omega);have g0:w5.cell? ⟨wr.heap.size,0,none⟩=some (.slice (some ⟨b1,o1,none⟩) (l.length+1) cx):=hg5.cell (a:=⟨wr.heap.size,0,none⟩) (by exact kb0) HNB2.out;have g1:w5.cell? ⟨wr.heap.size,1,none⟩=some (.slice (some ⟨b2,o2,none⟩) (m.length+1) cy):=hg5.cell (a:=⟨wr.heap.size,1,none⟩) (by exact kb1) HNB2.out;have R5:=Lib.hid hr5;have O5:=Lib.hid ho5;have B5:=Lib.hid ((HB2.out).trans hb5);obtain ⟨_,a5,c5,rfl,-⟩:=id (Ap.Rd.owned ho5);clear hr5 ho5 hg5 hb5;go_wp2_with fail
              go_region_held3 (fun w'=>w'.cell? ⟨wr.heap.size,0,none⟩=some (.slice (some ⟨b1,o1,none⟩) (l.length+1) cx)∧w'.cell? ⟨wr.heap.size,1,none⟩=some (.slice (some ⟨b2,o2,none⟩) (m.length+1) cy)) (first | exact ⟨g0,g1⟩ | exact ⟨kb0,kb1⟩ | (simp [go_sem]; done) | go_keep | fail) (first
                | (refine Ap.z0m (by rfl) _ _ _ _ rfl _ _ rfl rfl _ w5 R5.out ?_)
                | fail)
              go_wp2_with fail
              go_roundw
              case rel=>
                refine ⟨k+1,by omega,by go_num,cs++[.slice (some ⟨b1,o1,none⟩) (l.length+1) cx,.slice (some ⟨b2,p2,none⟩) m.length (cy-1)]++[.slice (some ⟨b1,p1,none⟩) l.length (cx-1),.slice (some ⟨b2,o2,none⟩) (m.length+1) cy],?_,?_,B5.out⟩
                · rw [HT.out,show bh1 z ((z::l),(z::m))=[((z::l),m)]++[(l,(z::m))] by simp [bh1],List.length_append,List.length_append,HN.out]; exact O5.out
                · rw [HT.out,show bh1 z ((z::l),(z::m))=[((z::l),m)]++[(l,(z::m))] by simp [bh1],← List.append_assoc]; exact RsC.snoc (q:=(l,z::m)) TA.out S1.out HR2.out
              case measure=>simp [intOf]; omega
            · have heqz:=str_ne hzx;have HZX:=Lib.hid hzx;clear hzx;go_wp2_with fail
              go_roundw
              case rel=>
                refine ⟨k+1,by omega,by go_num,cs++[.slice (some ⟨b1,o1,none⟩) (l.length+1) cx,.slice (some ⟨b2,p2,none⟩) m.length (cy-1)],?_,?_,HB2.out⟩
                · rw [HT.out,show bh1 y ((z::l),(y::m))=[((z::l),m)] by simp [bh1,HZX.out],List.length_append,HN.out]; exact HO2.out
                · rw [HT.out,show bh1 y ((z::l),(y::m))=[((z::l),m)] by simp [bh1,HZX.out]]; exact HR2.out
              case measure=>simp [intOf]; omega
        · have heq:=str_ne hyx;have HYX:=Lib.hid hyx;clear hyx
          cases qa with
          | nil=>
            obtain ⟨_,ax,cx,rfl,-⟩:=id S0.out;have f2:=F2.out (.cells #[.slice ax 0 cx,.slice (some ⟨b2,o2,none⟩) (m.length+1) cy] 210);go_wp2_with fail
            go_roundw
            case rel=>
              refine ⟨k+1,by omega,by go_num,cs,?_,?_,HB.out.alloc HB.out.size _⟩
              · rw [HT.out,show bh1 x ([],(y::m))=[] by simp [bh1,HYX.out],List.append_nil,HN.out]; exact HO.out.alloc _
              · rw [HT.out,show bh1 x ([],(y::m))=[] by simp [bh1,HYX.out],List.append_nil]; exact HR.out
            case measure=>simp [intOf]; omega
          | cons z l=>
            obtain ⟨_,ax,cx,rfl,_,_,hcx⟩:=id S0.out;obtain ⟨b1,o1,rfl,_,hlt1,hj1⟩:=hcx (by simp);have hz0:w.cell? ⟨b1,o1,none⟩=some (.string z):=hj1 0 (.string z) (by simp);have HZ0:=Lib.hid hz0;clear hj1 hcx hz0;have hl1:(0:Int)<(l.length:Int)+1:=by omega
            have f1:(wr.alloc (.cells #[.slice (some ⟨b1,o1,none⟩) (l.length+1) cx,.slice (some ⟨b2,o2,none⟩) (m.length+1) cy] 210)).cell? ⟨b1,o1,none⟩=some (.string z):=by rw [World.cell?_alloc_lt _ _ _ (Nat.lt_of_lt_of_le hlt1 HB.out.size),HB.out.cell (p:=⟨b1,o1,none⟩) hlt1]; exact HZ0.out
            have f2:=F2.out (.cells #[.slice (some ⟨b1,o1,none⟩) (l.length+1) cx,.slice (some ⟨b2,o2,none⟩) (m.length+1) cy] 210)
            by_cases hzx:z=x
            · subst hzx;have heqz:(z.toList==z.toList)=true:=by simp
              obtain ⟨p1,hp1,rs1⟩:∃ p1,(p1=o1+1∨cx=1)∧∀ w:World,(Instr.slice 65 (.slice (some ⟨b1,o1,none⟩) (l.length+1) cx) (some (.int .i64 1)) none none).run Tryz.prog w=.ok (.slice (some ⟨b1,p1,none⟩) l.length (cx-1)) w:=⟨_,(by by_cases h:cx=1 <;> simp [h]),y9x b1 o1 l.length cx⟩
              have TA:=Lib.hid (z5c S0.out p1 hp1);clear hp1;obtain ⟨v5,w5,hr5,ho5,hg5,hb5,_⟩:=z1h (wr:=wr.alloc (.cells #[.slice (some ⟨b1,o1,none⟩) (l.length+1) cx,.slice (some ⟨b2,o2,none⟩) (m.length+1) cy] 210)) (g:=wr.heap.size+1) (a:=.slice (some ⟨b1,p1,none⟩) l.length (cx-1)) (b:=.slice (some ⟨b2,o2,none⟩) (m.length+1) cy) (by simp) (HO.out.alloc (.cells #[.slice (some ⟨b1,o1,none⟩) (l.length+1) cx,.slice (some ⟨b2,o2,none⟩) (m.length+1) cy] 210)) (HB.out.alloc HB.out.size (.cells #[.slice (some ⟨b1,o1,none⟩) (l.length+1) cx,.slice (some ⟨b2,o2,none⟩) (m.length+1) cy] 210)).size rfl rfl (by omega);have g0:w5.cell? ⟨wr.heap.size,0,none⟩=some (.slice (some ⟨b1,o1,none⟩) (l.length+1) cx):=hg5.cell (a:=⟨wr.heap.size,0,none⟩) (by simp [go_sem]) HNB.out;have g1:w5.cell? ⟨wr.heap.size,1,none⟩=some (.slice (some ⟨b2,o2,none⟩) (m.length+1) cy):=hg5.cell (a:=⟨wr.heap.size,1,none⟩) (by simp [go_sem]) HNB.out;have R5:=Lib.hid hr5;have O5:=Lib.hid ho5;have B5:=Lib.hid ((HB.out.alloc HB.out.size (.cells #[.slice (some ⟨b1,o1,none⟩) (l.length+1) cx,.slice (some ⟨b2,o2,none⟩) (m.length+1) cy] 210)).trans hb5);obtain ⟨_,a5,c5,rfl,-⟩:=id (Ap.Rd.owned ho5);clear hr5 ho5 hg5 hb5;go_wp2_with fail
              go_region_held3 (fun w'=>w'.cell? ⟨wr.heap.size,0,none⟩=some (.slice (some ⟨b1,o1,none⟩) (l.length+1) cx)∧w'.cell? ⟨wr.heap.size,1,none⟩=some (.slice (some ⟨b2,o2,none⟩) (m.length+1) cy)) (first | exact ⟨g0,g1⟩ | fail | (simp [go_sem]; done) | go_keep | fail) (first
                | (refine Ap.z0m (by rfl) _ _ _ _ rfl _ _ rfl rfl _ w5 R5.out ?_)
                | fail)
              go_wp2_with fail
              go_roundw
              case rel=>
                refine ⟨k+1,by omega,by go_num,cs++[.slice (some ⟨b1,p1,none⟩) l.length (cx-1),.slice (some ⟨b2,o2,none⟩) (m.length+1) cy],?_,?_,B5.out⟩
                · rw [HT.out,show bh1 z ((z::l),(y::m))=[(l,(y::m))] by simp [bh1,HYX.out],List.length_append,HN.out]; exact O5.out
                · rw [HT.out,show bh1 z ((z::l),(y::m))=[(l,(y::m))] by simp [bh1,HYX.out]]; exact RsC.snoc (q:=(l,(y::m))) TA.out S1.out HR.out
              case measure=>simp [intOf]; omega
            · have heqz:=str_ne hzx;have HZX:=Lib.hid hzx;clear hzx;go_wp2_with fail
              go_roundw
              case rel=>
                refine ⟨k+1,by omega,by go_num,cs,?_,?_,HB.out.alloc HB.out.size _⟩
                · rw [HT.out,show bh1 x ((z::l),(y::m))=[] by simp [bh1,HYX.out,HZX.out],List.append_nil,HN.out]; exact HO.out.alloc _
                · rw [HT.out,show bh1 x ((z::l),(y::m))=[] by simp [bh1,HYX.out,HZX.out],List.append_nil]; exact HR.out
              case measure=>simp [intOf]; omega
    · have hkl:k=left.length:=by omega
      subst hkl;have HI2:=HI;obtain ⟨cs,hown,-⟩:=HI2;obtain ⟨n0,hn0⟩:∃ n0,(bh x (left.take left.length)).length=n0:=⟨_,rfl⟩
      rw [hn0] at hown;obtain ⟨_,a3,c3,rfl,-⟩:=id (Ap.Rd.owned hown);have F:=Lib.hid (FIN.out _ _ HI);clear hown hn0 HI;go_wp2_with fail;refine F.out.mono ?_;rintro e w' ⟨vl,l',rfl,hl1,hl2,hl3,hl4⟩;have L1:=Lib.hid hl1;have L2:=Lib.hid hl2;have L4:=Lib.hid hl4;obtain ⟨_,⟨_,al,cl,rfl,-⟩,-⟩:=hl1;clear hl2 hl4;go_wp2_with fail;go_ret;exact ⟨_,l',rfl,L1.out,L2.out,hl3,L4.out⟩

end Tr
end Go.Proofs.YtaapnkoooofalaaGreat
