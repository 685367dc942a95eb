/- Laws that the last text leans on. -/
import Derived.Test.YtpingbiibbmcaaaGreatDoorQ06
import Derived.Laws.MakeOwn
import Derived.WalkMore
import Derived.Deep.LoopGhost
import Derived.Laws.RangeAny
import Derived.Sort.Grow

set_option maxRecDepth 20000
set_option maxHeartbeats 2000000
namespace Go.Proofs.YtpingbiibbmcaaaGreatDoor
namespace Rw
open Go Go.RowKit
def sameN (l m:List Nd):Bool:=decide (l=m)
theorem y5u {l m:List Nd} (h:l.length≠m.length):sameN l m=false:=decide_eq_false fun e=>h (by rw [e])
theorem x1n {l m:List Nd} {k:Nat} (h1:k<l.length) (h2:k<m.length):sameN (l.drop k) (m.drop k)=(decide (l[k]=m[k])&&sameN (l.drop (k+1)) (m.drop (k+1))):=by
  unfold sameN;rw [List.drop_eq_getElem_cons h1,List.drop_eq_getElem_cons h2,Bool.eq_iff_iff];simp only [decide_eq_true_eq,Bool.and_eq_true,List.cons.injEq]
theorem y8l (a1 a2:Option Addr) (c1 c2 n m:Nat) (w:World) (h:n≠m) :
    Calls Tryz.prog 18 #[.slice a1 n c1,.slice a2 m c2] w fun e w'=>e=.returned (.bool false)∧Below w.heap.size w w':=by
  have hne:((n:Int)==(m:Int))=false:=by rw [beq_eq_false_iff_ne]; omega
  have hne':((n:Int) != (m:Int))=true:=by rw [bne_iff_ne]; omega
  go_enter Tryz.func18,Tryz.ntmps18
  go_wp2_with fail;go_ret;exact ⟨rfl,Below.refl _ _⟩
theorem z9a (a1 a2:Option Addr) (c1 c2:Nat) (w:World) :
    Calls Tryz.prog 18 #[.slice a1 0 c1,.slice a2 0 c2] w fun e w'=>e=.returned (.bool true)∧Below w.heap.size w w':=by
  go_enter Tryz.func18,Tryz.ntmps18
  go_wp2_with fail;refine Go.wp_loop_rounds 1 ?_;rw [rounds_succ];go_wp2_with fail;go_ret;exact ⟨rfl,Below.refl _ _⟩
theorem y8m (b1 o1 c1 b2 o2 c2:Nat) (l m:List Nd) (w:World) (hl:l.length≤1000000) (he:m.length=l.length) (h1:At w b1 o1 l) (h2:At w b2 o2 m) :
    Calls Tryz.prog 18 #[.slice (some ⟨b1,o1,none⟩) l.length c1,.slice (some ⟨b2,o2,none⟩) l.length c2] w fun e w'=>e=.returned (.bool (sameN l m))∧Below w.heap.size w w':=by
  have H1:=Lib.hid h1;have H2:=Lib.hid h2;have HE:=Lib.hid he;clear h1 h2 he
  go_enter Tryz.func18,Tryz.ntmps18
  go_wp2_with fail
  go_loopw [5] (fun i wr=>∃ k:Nat,k≤l.length∧i=.int .i64 k∧Below w.heap.size w wr∧sameN l m=sameN (l.drop k) (m.drop k)) (fun i _=>l.length-(intOf i).toNat)
  case atStart=>exact ⟨0,Nat.zero_le _,rfl,Below.refl _ _,rfl⟩
  case round=>
    obtain ⟨k,hk,rfl,hb,hsame⟩:=hrel;have HB:=Lib.hid hb;have HS:=Lib.hid hsame;clear hb hsame
    by_cases hlt:k<l.length
    · have hlt2:k<m.length:=by rw [HE.out]; exact hlt
      obtain ⟨e1,e2,e3⟩:=H1.out k hlt;obtain ⟨e1',e2',e3'⟩:=H2.out k hlt2;have d1:wr.cell? ⟨b1,o1+k*3,none⟩=some (.int .i64 l[k].k):=by rw [HB.out.cell (Ap.z0a e1)]; exact e1
      have d2:wr.cell? ⟨b1,o1+k*3+1,none⟩=some (.string l[k].n):=by rw [HB.out.cell (Ap.z0a e2)]; exact e2
      have d3:wr.cell? ⟨b1,o1+k*3+2,none⟩=some (.int .i64 l[k].s):=by rw [HB.out.cell (Ap.z0a e3)]; exact e3
      have d4:wr.cell? ⟨b2,o2+k*3,none⟩=some (.int .i64 m[k].k):=by rw [HB.out.cell (Ap.z0a e1')]; exact e1'
      have d5:wr.cell? ⟨b2,o2+k*3+1,none⟩=some (.string m[k].n):=by rw [HB.out.cell (Ap.z0a e2')]; exact e2'
      have d6:wr.cell? ⟨b2,o2+k*3+2,none⟩=some (.int .i64 m[k].s):=by rw [HB.out.cell (Ap.z0a e3')]; exact e3'
      have HA:=Lib.hid (HS.out.trans (x1n hlt hlt2));clear e1 e2 e3 e1' e2' e3';obtain ⟨u,hu⟩:∃ u,l[k]=u:=⟨_,rfl⟩
      obtain ⟨v,hv⟩:∃ v,m[k]=v:=⟨_,rfl⟩
      rw [hu] at d1 d2 d3 HA;rw [hv] at d4 d5 d6 HA;clear hu hv;have hq:=neq_nd u v
      by_cases huv:u=v
      · rw [decide_eq_true huv] at hq;have HV:=Lib.hid huv;clear huv;go_wp2_with fail
        go_quiet (fail)
        go_wp2_with fail
        go_roundw
        case rel=>exact ⟨k+1,by omega,by go_num,HB.out.trans (Below.drewN _ _ _),by rw [HA.out,decide_eq_true HV.out,Bool.true_and]⟩
        case measure=>simp [intOf]; omega
      · rw [decide_eq_false huv] at hq;have HV:=Lib.hid huv;clear huv;go_wp2_with fail
        go_quiet (fail)
        go_wp2_with fail;go_ret;exact ⟨ret_bool (by rw [HA.out,decide_eq_false HV.out,Bool.false_and]),HB.out.trans (Below.drewN _ _ _)⟩
    · go_wp2_with fail;go_ret;refine ⟨ret_bool ?_,HB.out⟩;rw [HS.out,List.drop_eq_nil_of_le (by omega),List.drop_eq_nil_of_le (by rw [HE.out]; omega)]
      rfl
theorem y5t (x y:Value) (l m:List Nd) (w:World) (hx:Nds w x l) (hy:Nds w y m) (hl:l.length≤1000000) :
    Calls Tryz.prog 18 #[x,y] w fun e w'=>e=.returned (.bool (sameN l m))∧Below w.heap.size w w':=by
  by_cases he:l.length=m.length
  · rcases hx.form with ⟨rfl,a,cap,rfl⟩ | ⟨b,off,cap,rfl,_,hc⟩
    · obtain rfl:m=[]:=List.eq_nil_of_length_eq_zero he.symm;obtain ⟨_,a',cap',rfl,_⟩:=hy;exact z9a a a' cap cap' w
    · rcases hy.form with ⟨rfl,a',cap',rfl⟩ | ⟨b',off',cap',rfl,_,hc'⟩
      · obtain rfl:l=[]:=List.eq_nil_of_length_eq_zero he;exact z9a _ a' cap cap' w
      · rw [← he];exact y8m b off cap b' off' cap' l m w hl he.symm hc hc'
  · rw [y5u he];obtain ⟨_,a,cap,rfl,_⟩:=hx;obtain ⟨_,a',cap',rfl,_⟩:=hy;exact y8l a a' cap cap' l.length m.length w he

end Rw
namespace Rx
open Go Go.RowKit Rw
theorem rwC_at {w:World}:∀ {cs:List Value} {ls:List (List Nd)},RwC w cs ls→∀ i (h:i<ls.length),∃ a,cs[i]?=some a∧Nds w a ls[i]
  | [],[],_,i,h=>by simp at h
  | a::_,_::_,hr,0,_=>⟨a,rfl,hr.1⟩
  | _::cs,_::ls,hr,i+1,h=>by
    obtain ⟨a,h1,h2⟩:=rwC_at hr.2 i (by simpa using h);exact ⟨a,by simpa using h1,by simpa using h2⟩
  | [],_::_,h,_,_=>h.elim
  | _::_,[],h,_,_=>h.elim
def AtRs (w:World) (b off:Nat) (ls:List (List Nd)):Prop:=∀ i,(h:i<ls.length)→∃ a,w.cell? ⟨b,off+i,none⟩=some a∧Nds w a ls[i]
theorem x1o {w:World} {v:Value} {ls:List (List Nd)} (h:Rws w v ls) :
    (ls=[]∧∃ a cap,v=.slice a 0 cap)∨∃ b off cap,v=.slice (some ⟨b,off,none⟩) ls.length cap∧AtRs w b off ls:=by
  obtain ⟨cs,⟨_,a,cap,rfl,hle,_,hcell⟩,hr⟩:=h
  by_cases h0:0<ls.length
  · obtain ⟨b,off,rfl,hj⟩:=hcell h0;refine Or.inr ⟨b,off,cap,rfl,fun i hi=>?_⟩;obtain ⟨a,h1,h2⟩:=rwC_at hr i hi;exact ⟨a,hj i a h1,h2⟩
  · have:ls=[]:=List.eq_nil_of_length_eq_zero (by omega);subst this;exact Or.inl ⟨rfl,a,cap,rfl⟩
theorem heap_new (w:World) (o:Obj):(w.alloc o).heap[w.heap.size]?=some o:=by
  show (w.heap.push o)[w.heap.size]?=some o
  simp
def Mk (w wr:World) (x:Nd) (ls:List (List Nd)) (k:Nat) (v:Value):Prop:=wr.ownsRow w.heap.size 68 3 v (x::(ls.take k).flatten).length (cls (x::(ls.take k).flatten))∧Below w.heap.size w wr
theorem Mk.start (w:World) (x:Nd) (ls:List (List Nd)):Mk w ((w.alloc (nb x)).alloc (nb x)) x ls 0 (.slice (some ⟨w.heap.size+1,0,none⟩) 1 1):=by
  refine ⟨⟨by simp [cls,cl],.inr ⟨w.heap.size+1,1,#[.int .i64 x.k,.string x.n,.int .i64 x.s],rfl,by omega,?_,by simp,by decide,rfl,by simp [cls,cl]⟩⟩,?_⟩
  · have h:=heap_new (w.alloc (nb x)) (nb x);rw [show (w.alloc (nb x)).heap.size=w.heap.size+1 by simp] at h;exact h
  · exact (z0b w _).alloc (z0b w _).size _
theorem y5g {ls:List (List Nd)} {k:Nat} (h:k<ls.length):(ls.take (k+1)).flatten=(ls.take k).flatten++ls[k]:=by
  rw [List.take_succ_eq_append_getElem h,List.flatten_append];simp only [List.flatten_cons,List.flatten_nil,List.append_nil]
theorem v2l:∀ (ls:List (List Nd)) (k:Nat),(ls.take k).flatten.length≤ls.flatten.length
  | [],k=>by simp
  | _::_,0=>by simp
  | l::ls,k+1=>by have:=v2l ls k; simp [List.take_succ_cons]; simp at this; omega
theorem Mk.next {w wr:World} {x:Nd} {ls:List (List Nd)} {k:Nat} {v a:Value} (h:Mk w wr x ls k v) (hk:k<ls.length) (ha:Nds wr a ls[k]) (hf:ls.flatten.length≤1000000) :
    ∃ v' w',(Builtin.append_ #[22,22] 22 #[v,a]).run Tryz.prog wr=.ok v' w'∧Mk w w' x ls (k+1) v':=by
  have h1:=v2l ls (k+1);rw [y5g hk,List.length_append] at h1;obtain ⟨v',w',hrun,hown,_,hb,_⟩:=z2b h.1 h.2.size ha (by rw [List.length_cons]; omega);refine ⟨v',w',hrun,?_,h.2.trans hb⟩;rw [y5g hk,← List.cons_append];exact hown
theorem y6a {w:World} {base size n:Nat} {e:TypeId} {v:Value} {xs:List Value} (h:w.ownsRow base e size v n xs):∃ a c,v=.slice a n c:=by
  obtain ⟨_,⟨rfl,rfl⟩ | ⟨g,cap,cur,rfl,_⟩⟩:=h
  · exact ⟨none,0,rfl⟩
  · exact ⟨_,_,rfl⟩
theorem x5r (x:Nd) (b off cap:Nat) (ls:List (List Nd)) (w:World) (hat:AtRs w b off ls) (hl:ls.length≤1000) (hf:ls.flatten.length≤1000000) :
    Calls Tryz.prog 207 #[.agg #[.int .i64 x.k,.string x.n,.int .i64 x.s],.slice (some ⟨b,off,none⟩) ls.length cap] w fun e w'=>∃ y,e=.returned y∧Ap.RdO (fun g=>w.heap.size≤g) w' 3 y (x::ls.flatten).length (cls (x::ls.flatten))∧Below w.heap.size w w':=by
  have HA:=Lib.hid hat;have HF:=Lib.hid hf;have HS:=Lib.hid (Mk.start w x ls);clear hat hf
  go_enter Tryz.func207,Tryz.ntmps207
  go_wp2_with fail
  go_loopw [5,12] (fun mv iv wr=>∃ k:Nat,k≤ls.length∧iv=.int .i64 k∧Hid (Mk w wr x ls k mv)) (fun _ i _=>ls.length-(intOf i).toNat)
  case atStart=>exact ⟨0,Nat.zero_le _,rfl,HS⟩
  case round=>
    obtain ⟨k,hk,rfl,HM⟩:=hrel
    by_cases hlt:k<ls.length
    · obtain ⟨a,ha,hnd⟩:=HA.out k hlt;have c1:wr.cell? ⟨b,off+k,none⟩=some a:=by rw [HM.out.2.cell (Ap.z0a ha)]; exact ha
      obtain ⟨v',w',hrun,hmk⟩:=HM.out.next hlt (hnd.below HM.out.2) HF.out;obtain ⟨am,cm,rfl⟩:=y6a HM.out.1;obtain ⟨_,aa,ca,rfl,-⟩:=hnd;have R:=Lib.hid hrun;have HM':=Lib.hid hmk;clear ha hrun hmk;go_wp2_with (at_builtin; refine Ap.wpList_append_run (by rfl) (.tmp 16) (.tmp 17) _ _ rfl _ _ rfl rfl v' w' R.out ?_)
      go_roundw
      case rel=>exact ⟨k+1,by omega,by go_num,HM'⟩
      case measure=>simp [intOf]; omega
    · have h1:=HM.out;unfold Mk at h1;rw [List.take_of_length_le (by omega)] at h1;obtain ⟨am,cm,rfl⟩:=y6a h1.1;have H1:=Lib.hid h1;clear h1;go_wp2_with fail;go_ret;exact ⟨_,rfl,Ap.RdO.fresh H1.out.1,H1.out.2⟩
theorem x5q (x:Nd) (a:Option Addr) (cap:Nat) (w:World) :
    Calls Tryz.prog 207 #[.agg #[.int .i64 x.k,.string x.n,.int .i64 x.s],.slice a 0 cap] w fun e w'=>∃ y,e=.returned y∧Ap.RdO (fun g=>w.heap.size≤g) w' 3 y (x::([]:List (List Nd)).flatten).length (cls (x::([]:List (List Nd)).flatten))∧Below w.heap.size w w':=by
  have HS:=Lib.hid (Mk.start w x [])
  go_enter Tryz.func207,Tryz.ntmps207
  go_wp2_with fail;refine Go.wp_loop_rounds 1 ?_;rw [rounds_succ];go_wp2_with fail;go_ret;exact ⟨_,rfl,Ap.RdO.fresh HS.out.1,HS.out.2⟩
theorem y6f (x:Nd) (v:Value) (ls:List (List Nd)) (w:World) (h:Rws w v ls) (hl:ls.length≤1000) (hf:ls.flatten.length≤1000000) :
    Calls Tryz.prog 207 #[.agg #[.int .i64 x.k,.string x.n,.int .i64 x.s],v] w fun e w'=>∃ y,e=.returned y∧Ap.RdO (fun g=>w.heap.size≤g) w' 3 y (x::ls.flatten).length (cls (x::ls.flatten))∧Below w.heap.size w w':=by
  rcases x1o h with ⟨rfl,a,cap,rfl⟩ | ⟨b,off,cap,rfl,hat⟩
  · exact x5q x a cap w
  · exact x5r x b off cap ls w hat hl hf
theorem v1u:(Tryz.prog.info? 3).map (fun i=>(i.zero,i.size,i.bytes))=some (some (.int .i64 0),1,8):=by kernel_rfl
def ic (st:List Nat):List Value:=st.map fun (k:Nat)=>.int .i64 (k:Int)
def Stk (base:Nat) (w:World) (g cap:Nat) (st:List Nat):Prop:=w.ownsRow base 3 1 (.slice (some ⟨g,0,none⟩) st.length cap) st.length (ic st)
theorem Stk.parts {base:Nat} {w:World} {g cap:Nat} {st:List Nat} (h:Stk base w g cap st):∃ cur:Array Value,w.heap[g]?=some (.cells cur 3 (0,0))∧base≤g∧cap≤maxLen∧cur.size=cap∧st.length≤cap∧cur.toList.take st.length=ic st:=by
  obtain ⟨_,⟨h0,_⟩ | ⟨g',cap',cur,hv,hb,hg,hn,hm,hs,ht⟩⟩:=h
  · cases h0
  · cases hv
    exact ⟨cur,hg,hb,hm,by simpa using hs,hn,by simpa using ht⟩
theorem Stk.of {base:Nat} {w:World} {g cap:Nat} {st:List Nat} {cur:Array Value} (hg:w.heap[g]?=some (.cells cur 3 (0,0))) (hb:base≤g) (hm:cap≤maxLen) (hs:cur.size=cap) (hn:st.length≤cap) (ht:cur.toList.take st.length=ic st):Stk base w g cap st:=
  ⟨by simp [ic],.inr ⟨g,cap,cur,rfl,hb,hg,hn,hm,by simpa using hs,by simpa using ht⟩⟩
theorem Stk.cell {base:Nat} {w:World} {g cap:Nat} {st:List Nat} (h:Stk base w g cap st) (j:Nat) (hj:j<st.length):w.cell? ⟨g,j,none⟩=some (.int .i64 (st[j]:Int)):=by
  obtain ⟨cur,hg,_,_,hs,hn,ht⟩:=h.parts;have:cur.toList[j]?=(ic st)[j]?:=by rw [← ht,List.getElem?_take_of_lt hj]
  simp only [ic,List.getElem?_map,List.getElem?_eq_getElem hj,Option.map_some] at this;simp only [World.cell?,hg]
  simpa using this
theorem Stk.soft {base:Nat} {w:World} {g cap:Nat} {st:List Nat} (h:Stk base w g cap st) (j:Nat):w.frozen? ⟨g,j,none⟩=false:=by
  obtain ⟨cur,hg,_⟩:=h.parts;simp [World.frozen?,hg]
theorem Stk.cap {base:Nat} {w:World} {g cap:Nat} {st:List Nat} (h:Stk base w g cap st):st.length≤cap∧cap≤maxLen:=by
  obtain ⟨cur,_,_,hm,_,hn,_⟩:=h.parts;exact ⟨hn,hm⟩
theorem heap_setCell (w:World) (g o:Nat) (v:Value) (k:Nat):(w.setCell ⟨g,o,none⟩ v).heap[k]?=if g=k then (w.heap[k]?).map (fun x=>match x with | .cells c elem frozen=>.cells (c.setIfInBounds o v) elem frozen | o=>o) else w.heap[k]?:=by
  simp only [World.setCell,Array.getElem?_modify]
  by_cases h:g=k
  · simp [h]
    rfl
  · simp [h]
theorem Stk.down {base:Nat} {w:World} {g cap:Nat} {st:List Nat} (h:Stk base w g cap st) (i y:Nat) (hi:i<st.length):Stk base (w.setCell ⟨g,i,none⟩ (.int .i64 (y:Int))) g cap (st.take i++[y]):=by
  obtain ⟨cur,hg,hb,hm,hs,hn,ht⟩:=h.parts;refine Stk.of (cur:=cur.setIfInBounds i (.int .i64 (y:Int))) (by simp [heap_setCell,hg]) hb hm (by simpa using hs) (by simp; omega) ?_;have hl:(st.take i++[y]).length=i+1:=by simp; omega
  rw [hl];refine List.ext_getElem? fun j=>?_
  rw [List.getElem?_take]
  by_cases hj:j<i+1
  · rw [if_pos hj,Array.getElem?_toList,Array.getElem?_setIfInBounds]
    by_cases hji:j=i
    · subst hji;rw [if_pos rfl,if_pos (by omega)];simp [ic,List.length_take,Nat.min_eq_left (Nat.le_of_lt hi)]
    · have e:cur.toList[j]?=(ic st)[j]?:=by rw [← ht,List.getElem?_take_of_lt (by omega)]
      rw [if_neg (by omega),← Array.getElem?_toList,e];simp only [ic,List.getElem?_map];rw [List.getElem?_append_left (by simp; omega),List.getElem?_take_of_lt (by omega)]
  · rw [if_neg hj,List.getElem?_eq_none (by simp [ic]; omega)]
theorem z0f {B:Nat} {w0 w:World} (h:Below B w0 w) (g o:Nat) (v:Value) (hg:B≤g):Below B w0 (w.setCell ⟨g,o,none⟩ v):=
  ⟨h.os,h.tape,h.output,by rw [show (w.setCell ⟨g,o,none⟩ v).heap.size=w.heap.size by simp [World.setCell]]; exact h.size,fun k hk=>by rw [heap_setCell,if_neg (by omega)]; exact h.block k hk⟩
theorem Stk.push {base:Nat} {w:World} {g cap:Nat} {st:List Nat} (a:Nat) (h:Stk base w g cap st) (hbase:base≤w.heap.size) (hlen:st.length≤8796093022208) :
    ∃ g' cap' w',(Builtin.append_ #[23,23] 23 #[.slice (some ⟨g,0,none⟩) st.length cap,.slice (some ⟨w.heap.size,0,none⟩) 1 1]).run Tryz.prog (w.alloc (.cells #[.int .i64 (a:Int)] 3))=.ok (.slice (some ⟨g',0,none⟩) (st.length+1) cap') w'∧Stk base w' g' cap' (st++[a])∧Below base w w':=by
  obtain ⟨i0,hi,hz,hs1,hb8⟩:=info_parts v1u
  obtain ⟨v',w',h1,h2,h3,h4,h5⟩:=Ap.z1f (P:=Tryz.prog) (ty:=23) Tryz.underlying23 hi hz hs1 hb8 (by rfl) (by omega) h hbase #[.int .i64 (a:Int)] rfl
    (by intro u hu; simp at hu; subst hu; rfl) (by unfold maxLen; omega) (by omega)
  have hform:∃ g' cap',v'=.slice (some ⟨g',0,none⟩) (st.length+1) cap':=by
    obtain ⟨_,⟨_,h0⟩ | ⟨g',cap',cur,hv,_⟩⟩:=h2
    · omega
    · exact ⟨g',cap',hv⟩
  obtain ⟨g',cap',rfl⟩:=hform;refine ⟨g',cap',w',h1,?_,h4⟩;unfold Stk;have e:ic (st++[a])=ic st++[.int .i64 (a:Int)]:=by simp [ic]
  rw [e,show (st++[a]).length=st.length+1 by simp];exact h2
theorem pop_last {st:List Nat} {i:Nat} (h:i<st.length):(st.take (i+1)).reverse=st[i]::(st.take i).reverse:=by
  rw [List.take_succ_eq_append_getElem h,List.reverse_append]
  rfl
def Rest (l:List Nd) (k:Nat) (st:List Nat) (d:Nat):Prop:=Rx.ms (l.drop k) st.reverse d k=(size l,depth l)
theorem Rest.start (l:List Nd):Rest l 0 [] 0:=ms_of l
theorem Rest.stop {l:List Nd} {k d:Nat} {st:List Nat} (h:Rest l k st d) (hk:k<l.length) (ha:ar l[k].k<0):size l=0∧depth l=0:=by
  unfold Rest at h;rw [List.drop_eq_getElem_cons hk,Rx.ms,if_pos ha] at h;exact ⟨(congrArg Prod.fst h).symm,(congrArg Prod.snd h).symm⟩
theorem Rest.out {l:List Nd} {k d:Nat} {st:List Nat} (h:Rest l k st d) (hk:¬ k<l.length):size l=0∧depth l=0:=by
  unfold Rest at h;rw [List.drop_eq_nil_of_le (by omega),Rx.ms] at h;exact ⟨(congrArg Prod.fst h).symm,(congrArg Prod.snd h).symm⟩
theorem Rest.end {l:List Nd} {k d a:Nat} {st:List Nat} (h:Rest l k st d) (hk:k<l.length) (ha:ar l[k].k=(a:Int)) (hp:pop (st++[a]).reverse=none):size l=k+1∧depth l=max d (st.length+1):=by
  unfold Rest at h;rw [List.reverse_concat] at hp;rw [List.drop_eq_getElem_cons hk,Rx.ms,if_neg (by omega),ha,Int.toNat_natCast,hp,List.length_reverse] at h;exact ⟨(congrArg Prod.fst h).symm,(congrArg Prod.snd h).symm⟩
theorem Rest.more {l:List Nd} {k d a:Nat} {st s:List Nat} (h:Rest l k st d) (hk:k<l.length) (ha:ar l[k].k=(a:Int)) (hp:pop (st++[a]).reverse=some s.reverse):Rest l (k+1) s (max d (st.length+1)):=by
  unfold Rest at h ⊢;rw [List.reverse_concat] at hp;rw [List.drop_eq_getElem_cons hk,Rx.ms,if_neg (by omega),ha,Int.toNat_natCast,hp,List.length_reverse] at h;exact h
def nm (n:ByteArray):Bool:=low n.data.toList&&(decide (1≤n.size)&&decide (n.size≤8))&&!wordB n
theorem x5p (s:ByteArray) (w:World) (h:wordB s=false) (h0:s.size≠0) (hs:s.size≤140737488355328):Calls Tryz.prog 289 #[.string s] w fun e w'=>e=.returned (.bool (nm s))∧Below w.heap.size w w':=by
  have hb:¬ (s=w1∨s=w2∨s=w3∨s=w4∨s=w5∨s=w6):=by simpa [wordB] using h
  have e0:=z9q h0
  have HN:Hid (nm s=(low s.data.toList&&decide (s.size≤8))):=by
    show _=_
    unfold nm;rw [h,decide_eq_true (show 1≤s.size by omega)];simp
  clear h h0;simp only [not_or] at hb;obtain ⟨h1,h2,h3,h4,h5,h6⟩:=hb;have e1:=z1o (l:=[115,107,105,112]) h1;have e2:=z1o (l:=[116,104,114,111,119]) h2;have e3:=z1o (l:=[121,105,101,108,100]) h3;have e4:=z1o (l:=[115,107,105,112,112]) h4;have e5:=z1o (l:=[116,104,114,111,119,119]) h5;have e6:=z1o (l:=[121,105,101,108,100,100]) h6;clear h1 h2 h3 h4 h5 h6
  go_enter Tryz.func289,Tryz.ntmps289
  go_wp2_with fail
  go_loopw [] (fun wr=>∃ pos:Nat,pos≤s.size∧wr=w.iter s pos∧Hid (low (s.data.toList.take pos)=true)) (fun wr=>s.size-wr.iterPos w.heap.size)
  case atStart=>exact ⟨0,Nat.zero_le _,rfl,Lib.hid rfl⟩
  case round=>
    obtain ⟨pos,hp,rfl,HL⟩:=hrel
    by_cases hlt:pos<s.size
    · have HT:=Lib.hid (y3s s pos hlt);have HF:=Lib.hid (fun hb=>low_no hlt hb)
      by_cases ha:(s[pos]'hlt).toNat<128
      · have hnx:∀ ty,(Instr.next (.pointer (some ⟨w.heap.size,0,none⟩)) true ty).run Tryz.prog (w.iter s pos)=_:=fun ty=>run_next_ascii w s pos ty hlt ha
        obtain ⟨c,hc⟩:∃ c,(s[pos]'hlt).toNat=c:=⟨_,rfl⟩
        have HC:=Lib.hid hc;rw [hc] at hnx ha;clear hc
        by_cases b1:c<97
        · have d1:decide ((c:Int)<97)=true:=by simp; omega
          go_wp2_with fail;go_ret;refine ⟨ret_bool ?_,(Below.refl _ _).alloc (Nat.le_refl _) _⟩;rw [HN.out,HF.out (by rw [HC.out]; simp; omega)]
          rfl
        · have d1:decide ((c:Int)<97)=false:=by simp; omega
          by_cases b2:122<c
          · have d2:decide (122<(c:Int))=true:=by simp; omega
            go_wp2_with fail;go_ret;refine ⟨ret_bool ?_,(Below.refl _ _).alloc (Nat.le_refl _) _⟩;rw [HN.out,HF.out (by rw [HC.out]; simp; omega)]
            rfl
          · have d2:decide (122<(c:Int))=false:=by simp; omega
            have HG:Hid (low (s.data.toList.take (pos+1))=true):=by
              show _=true
              rw [HT.out,HL.out,HC.out];simp;omega
            go_wp2_with fail
            go_roundw
            case rel=>exact ⟨pos+1,by omega,rfl,HG⟩
            case measure=>simp only [World.iterPos_iter]; omega
      · have hnx:∀ ty,(Instr.next (.pointer (some ⟨w.heap.size,0,none⟩)) true ty).run Tryz.prog (w.iter s pos)=_:=fun ty=>run_next_any w s pos ty hlt
        have hh:=(decode_high s pos hlt (by omega)).1;obtain ⟨c,hc⟩:∃ c,(Utf8.decode s pos).1=c:=⟨_,rfl⟩
        obtain ⟨q,hq⟩:∃ q,pos+(Utf8.decode s pos).2=q:=⟨_,rfl⟩
        rw [hc] at hh;rw [hc,hq] at hnx;have HC:=Lib.hid ha;clear hc hq ha;have d1:decide ((c:Int)<97)=false:=by simp; omega
        have d2:decide (122<(c:Int))=true:=by simp; omega
        go_wp2_with fail;go_ret;refine ⟨ret_bool ?_,(Below.refl _ _).alloc (Nat.le_refl _) _⟩;rw [HN.out,HF.out (by have:=HC.out; simp; omega)]
        rfl
    · have hnx:∀ ty,(Instr.next (.pointer (some ⟨w.heap.size,0,none⟩)) true ty).run Tryz.prog (w.iter s pos)=_:=fun ty=>run_next_end w s pos ty hlt
      have HF:Hid (low s.data.toList=true):=by
        have:=HL.out
        rwa [List.take_of_length_le (by simp; omega)] at this
      by_cases q2:s.size≤8
      · go_wp2_with fail;go_ret;refine ⟨ret_bool ?_,(Below.refl _ _).alloc (Nat.le_refl _) _⟩;rw [HN.out,HF.out,Bool.true_and,Bool.eq_iff_iff];simp;omega
      · go_wp2_with fail;go_ret;refine ⟨ret_bool ?_,(Below.refl _ _).alloc (Nat.le_refl _) _⟩;rw [HN.out,HF.out,Bool.true_and,Bool.eq_iff_iff];simp;omega
theorem name_any (s:ByteArray) (w:World) (hs:s.size≤140737488355328):Calls Tryz.prog 289 #[.string s] w fun e w'=>e=.returned (.bool (nm s))∧Below w.heap.size w w':=by
  by_cases h0:s.size=0
  · obtain rfl:=z3z h0;clear h0 hs;rw [show nm ⟨#[]⟩=false from rfl]
    go_enter Tryz.func289,Tryz.ntmps289
    go_wp2_with fail;go_ret;exact ⟨rfl,Below.refl _ _⟩
  · cases hw:wordB s with
    | false=>exact x5p s w hw h0 hs
    | true=>
      have hb:nm s=false:=by unfold nm; rw [hw]; simp
      rw [hb];have:s=w1∨s=w2∨s=w3∨s=w4∨s=w5∨s=w6:=by simpa [wordB] using hw
      clear hw h0 hs hb
      rcases this with rfl | rfl | rfl | rfl | rfl | rfl
      all_goals
        simp only [w1,w2,w3,w4,w5,w6]
        go_enter Tryz.func289,Tryz.ntmps289
        go_wp2_with fail;go_ret;exact ⟨rfl,Below.refl _ _⟩
def idxAt (x:Int):List Int→Nat→Int
  | [],_=>-1
  | y::l,k=>if x=y then k else idxAt x l (k+1)
theorem v2a (x:Int) (l:List Int) (k:Nat):decide (0≤idxAt x l k)=decide (x∈l):=by
  induction l generalizing k with
  | nil=>simp [idxAt]
  | cons y l ih=>
    unfold idxAt
    by_cases h:x=y
    · rw [if_pos h,decide_eq_true (show x∈y::l by rw [h]; exact List.mem_cons_self)];simp
    · rw [if_neg h,ih (k+1)];simp [h]
theorem v2b {x:Int} {l:List Int} {k:Nat} (h:¬ k<l.length):idxAt x (l.drop k) k=-1:=by rw [List.drop_eq_nil_of_le (by omega)]; rfl
theorem idxAt_at {x:Int} {l:List Int} {k:Nat} (h:k<l.length):idxAt x (l.drop k) k=if x=l[k] then (k:Int) else idxAt x (l.drop (k+1)) (k+1):=by
  rw [List.drop_eq_getElem_cons h,idxAt]
theorem idx_empty (a:Option Addr) (cap:Nat) (x:Int) (w:World) :
    Calls Tryz.prog 111 #[.slice a 0 cap,.int .i64 x] w fun e w'=>e=.returned (.int .i64 (-1))∧w=w':=by
  go_enter Tryz.func111,Tryz.ntmps111
  go_wp2_with fail;refine Go.wp_loop_rounds 1 ?_;rw [rounds_succ];go_wp2_with fail;go_ret;exact ⟨rfl,rfl⟩
theorem v1z (b off cap:Nat) (l:List Int) (x:Int) (w:World) (hat:AtI w b off l) (hl:l.length≤1000000) :
    Calls Tryz.prog 111 #[.slice (some ⟨b,off,none⟩) l.length cap,.int .i64 x] w fun e w'=>e=.returned (.int .i64 (idxAt x l 0))∧Below w.heap.size w w':=by
  have HA:=Lib.hid hat;clear hat
  go_enter Tryz.func111,Tryz.ntmps111
  go_wp2_with fail
  go_loopw [8] (fun i wr=>∃ k:Nat,k≤l.length∧i=.int .i64 k∧Below w.heap.size w wr∧Hid (idxAt x l 0=idxAt x (l.drop k) k)) (fun i _=>l.length-(intOf i).toNat)
  case atStart=>exact ⟨0,Nat.zero_le _,rfl,Below.refl _ _,Lib.hid rfl⟩
  case round=>
    obtain ⟨k,hk,rfl,hb,HK⟩:=hrel;have HB:=Lib.hid hb;clear hb
    by_cases hlt:k<l.length
    · have e1:=HA.out k hlt;have c1:wr.cell? ⟨b,off+k,none⟩=some (.int .i64 l[k]):=by rw [HB.out.cell (Ap.z0a e1)]; exact e1
      have HX:=Lib.hid (HK.out.trans (idxAt_at hlt));obtain ⟨y,hy⟩:∃ y,l[k]=y:=⟨_,rfl⟩
      rw [hy] at c1 HX;clear hy e1
      by_cases hxy:x=y
      · rw [if_pos hxy] at HX;subst hxy;go_wp2_with fail
        try go_quiet (fail)
        try go_wp2_with fail
        go_ret;exact ⟨ret_int HX.out.symm,by first | exact HB.out.trans (Below.drewN _ _ _) | exact HB.out⟩
      · rw [if_neg hxy] at HX;have g:(x==y)=false:=by rw [beq_eq_false_iff_ne]; exact hxy
        clear hxy;go_wp2_with fail
        try go_quiet (fail)
        try go_wp2_with fail
        go_roundw
        case rel=>exact ⟨k+1,by omega,by go_num,by first | exact HB.out.trans (Below.drewN _ _ _) | exact HB.out,HX⟩
        case measure=>simp [intOf]; omega
    · go_wp2_with fail;go_ret;exact ⟨ret_int (by rw [HK.out,v2b hlt]),HB.out⟩
theorem idx_any (v:Value) (l:List Int) (x:Int) (w:World) (h:Ints w v l) (hl:l.length≤1000000) :
    Calls Tryz.prog 111 #[v,.int .i64 x] w fun e w'=>e=.returned (.int .i64 (idxAt x l 0))∧Below w.heap.size w w':=by
  rcases h.form with ⟨rfl,a,cap,rfl⟩ | ⟨b,off,cap,rfl,_,hat⟩
  · refine (idx_empty a cap x w).mono ?_;rintro e w' ⟨rfl,rfl⟩;exact ⟨rfl,Below.refl _ _⟩
  · exact v1z b off cap l x w hat hl
theorem y0e (v:Value) (l:List Int) (x:Int) (w:World) (h:Ints w v l) (hl:l.length≤1000000) :
    Calls Tryz.prog 61 #[v,.int .i64 x] w fun e w'=>e=.returned (.bool (decide (x∈l)))∧Below w.heap.size w w':=by
  have H:=Lib.hid h;have HQ:=Lib.hid (v2a x l 0);obtain ⟨q,hq⟩:∃ q,idxAt x l 0=q:=⟨_,rfl⟩
  rw [hq] at HQ;have HC:=Lib.hid hq;clear h hq
  go_enter Tryz.func61,Tryz.ntmps61
  go_wp2_with fail;refine (idx_any v l x _ H.out hl).mono ?_;rw [HC.out];rintro e w' ⟨rfl,hb⟩;have HB:=Lib.hid hb;clear hb;go_wp2_with fail;go_ret;exact ⟨ret_bool HQ.out,HB.out⟩
theorem y7g (a:Option Addr) (cap:Nat) (y:Value) (w:World) :
    Calls Tryz.prog 30 #[.slice a 0 cap,y] w fun e w'=>e=.returned (.int .i64 0)∧Below w.heap.size w w':=by
  go_enter Tryz.func30,Tryz.ntmps30
  go_wp2_with fail;refine Go.wp_loop_rounds 1 ?_;rw [rounds_succ];go_wp2_with fail;go_ret;exact ⟨rfl,Below.refl _ _⟩
theorem y7h (b off cap:Nat) (l:List Nd) (v:Value) (ks:List Int) (w:World) (hl:l.length≤1000000) (hk:ks.length≤1000000) (h1:At w b off l) (h2:Ints w v ks) :
    Calls Tryz.prog 30 #[.slice (some ⟨b,off,none⟩) l.length cap,v] w fun e w'=>e=.returned (.int .i64 (cnt l ks))∧Below w.heap.size w w':=by
  have H1:=Lib.hid h1;have H2:=Lib.hid h2;clear h1 h2
  go_enter Tryz.func30,Tryz.ntmps30
  go_wp2_with fail
  go_loopw [5,10] (fun n i wr=>∃ k c:Nat,k≤l.length∧c≤k∧i=.int .i64 k∧n=.int .i64 c∧Below w.heap.size w wr∧Hid (cnt (l.take k) ks=c)) (fun _ i _=>l.length-(intOf i).toNat)
  case atStart=>exact ⟨0,0,Nat.zero_le _,Nat.zero_le _,rfl,rfl,Below.refl _ _,Lib.hid rfl⟩
  case round=>
    obtain ⟨k,c,hk',hck,rfl,rfl,hb,HC⟩:=hrel;have HB:=Lib.hid hb;clear hb
    by_cases hlt:k<l.length
    · obtain ⟨e1,e2,e3⟩:=H1.out k hlt;have c1:wr.cell? ⟨b,off+k*3,none⟩=some (.int .i64 l[k].k):=by rw [HB.out.cell (Ap.z0a e1)]; exact e1
      have c2:wr.cell? ⟨b,off+k*3+1,none⟩=some (.string l[k].n):=by rw [HB.out.cell (Ap.z0a e2)]; exact e2
      have c3:wr.cell? ⟨b,off+k*3+2,none⟩=some (.int .i64 l[k].s):=by rw [HB.out.cell (Ap.z0a e3)]; exact e3
      have HY:=Lib.hid (cnt_yes l ks k hlt);have HN:=Lib.hid (cnt_no l ks k hlt);obtain ⟨x,hx⟩:∃ x,l[k]=x:=⟨_,rfl⟩
      rw [hx] at c1 c2 c3 HY HN;clear hx e1 e2 e3;have HB1:=Lib.hid (HB.out.alloc HB.out.size (nb x))
      by_cases hm:x.k∈ks
      · have HX:=Lib.hid (decide_eq_true hm);have HM:=Lib.hid hm;clear hm;go_wp2_with fail;refine (y0e v ks x.k _ (H2.out.below HB1.out) hk).mono ?_;rw [HX.out];rintro e w' ⟨rfl,hb⟩;have HB2:=Lib.hid (HB1.out.trans (hb.mono HB1.out.size));clear hb;go_wp2_with fail
        go_roundw
        case rel=>exact ⟨k+1,c+1,by omega,by omega,by go_num,by go_num,HB2.out,Lib.hid (by rw [HY.out HM.out,HC.out])⟩
        case measure=>simp [intOf]; omega
      · have HX:=Lib.hid (decide_eq_false hm);have HM:=Lib.hid hm;clear hm;go_wp2_with fail;refine (y0e v ks x.k _ (H2.out.below HB1.out) hk).mono ?_;rw [HX.out];rintro e w' ⟨rfl,hb⟩;have HB2:=Lib.hid (HB1.out.trans (hb.mono HB1.out.size));clear hb;go_wp2_with fail
        go_roundw
        case rel=>exact ⟨k+1,c,by omega,by omega,by go_num,rfl,HB2.out,Lib.hid (by rw [HN.out HM.out,HC.out])⟩
        case measure=>simp [intOf]; omega
    · have HZ:Hid (cnt l ks=c):=by
        have:=HC.out
        rwa [List.take_of_length_le (by omega)] at this
      go_wp2_with fail;go_ret;exact ⟨ret_int (by rw [HZ.out]),HB.out⟩
theorem z7h (x y:Value) (l:List Nd) (ks:List Int) (w:World) (hx:Nds w x l) (hy:Ints w y ks) (hl:l.length≤1000000) (hk:ks.length≤1000000) :
    Calls Tryz.prog 30 #[x,y] w fun e w'=>e=.returned (.int .i64 (cnt l ks))∧Below w.heap.size w w':=by
  rcases hx.form with ⟨rfl,a,cap,rfl⟩ | ⟨b,off,cap,rfl,_,hc⟩
  · exact y7g a cap y w
  · exact y7h b off cap l y ks w hl hk hc hy
end Rx
namespace St
open Go Go.RowKit Rw
def putN (l:List Nd) (q:Nat) (x:List Nd):List Nd:=if size (l.drop q)=0 then l else l.take q++x++l.drop (q+size (l.drop q))
def putR (l:List Nd) (at_:Int) (x:List Nd):List Nd:=if at_<0∨at_≥l.length then l else putN l at_.toNat x
def GotN (base:Nat) (w:World) (v:Value) (l:List Nd):Prop:=w.ownsRow base 68 3 v l.length (cls l)∧base≤w.heap.size
theorem y4g {w:World} {b o n c:Nat} {l:List Nd} (hn:l.length=n) (hat:At w b o l) (q:Nat) (hq:q≤n) (hc:n≤c):Nds w (.slice (some ⟨b,o+q*3,none⟩) (n-q) (c-q)) (l.drop q):=by
  subst hn;have:=z3d hat q (l.length-q) (c-q) (by omega) (by omega)
  rwa [List.take_of_length_le (by rw [List.length_drop]; omega)] at this
theorem take_nds {w:World} {b o n c:Nat} {l:List Nd} (hn:l.length=n) (hat:At w b o l) (q:Nat) (hq:q≤n) (hc:n≤c):Nds w (.slice (some ⟨b,o,none⟩) q c) (l.take q):=by
  subst hn;have:=z3d hat 0 q c (by omega) (by omega)
  simpa using this
end St
namespace Tr
open Go Go.RowKit
theorem infoT:(Tryz.prog.info? 36).map (fun i=>(i.zero,i.size,i.bytes))=some (some (.agg #[.slice none 0 0,.int .i64 0]),2,32):=by kernel_rfl
theorem below_grow (w:World) (n:Nat) (os:Array Obj):Below w.heap.size w (Go.Sort.grow (w.drewN n) os):=
  ⟨rfl,rfl,rfl,by simp [Go.Sort.grow,World.drewN],fun k hk=>by
    show (w.heap++os)[k]?=w.heap[k]?
    rw [Array.getElem?_append_left hk]⟩
theorem grow2_eq (w:World) (x y:Obj):(w.alloc x).alloc y=Go.Sort.grow w #[x,y]:=by
  rw [Go.Sort.alloc_eq_grow,Go.Sort.alloc_eq_grow,Go.Sort.grow_grow]
  rfl
theorem grow3_eq (w:World) (x y z:Obj):((w.alloc x).alloc y).alloc z=Go.Sort.grow w #[x,y,z]:=by
  rw [grow2_eq,Go.Sort.alloc_eq_grow,Go.Sort.grow_grow]
  rfl
theorem x6c (w:World) (x y z:Obj):(((w.alloc x).alloc y).alloc z).drew=Go.Sort.grow (w.drewN 1) #[x,y,z]:=by
  rw [grow3_eq]
  rfl
theorem z8s {w:World} {v:Value} {l:List ByteArray} (h:Strs w v l) (x y:Obj):Strs (((w.alloc x).alloc y).drew) v l:=
  h.below (((Below.refl _ _).alloc (Nat.le_refl _) x).alloc (by simp) y).drew
theorem z2y (v1 v2:Value) (p q:Tr) (w:World) (h1:Strs w v1 p.a) (h2:Strs w v2 q.a) (hl:p.a.length≤1000000000000) (hm:q.a.length≤1000000000000) :
    Calls Tryz.prog 62 #[.agg #[v1,.int .i64 p.e],.agg #[v2,.int .i64 q.e]] w fun e w'=>e=.returned (.int .i64 (cmp p q))∧∃ n os,w'=Go.Sort.grow (w.drewN n) os:=by
  have H1:=Lib.hid (z8s h1);have H2:=Lib.hid (z8s h2);obtain ⟨_,a1,c1,rfl,-⟩:=h1;obtain ⟨_,a2,c2,rfl,-⟩:=h2;have HC:=Lib.hid (cmp_or p q);obtain ⟨x,hx⟩:∃ x,sg3 (row p.a q.a)=x:=⟨_,rfl⟩
  obtain ⟨y,hy⟩:∃ y,cmpI p.e q.e=y:=⟨_,rfl⟩
  have R1:Hid (∀ w,Strs w (.slice a1 p.a.length c1) p.a→Strs w (.slice a2 q.a.length c2) q.a→Calls Tryz.prog 113 #[.slice a1 p.a.length c1,.slice a2 q.a.length c2] w fun e w'=>e=.returned (.int .i64 x)∧w'=w):=Lib.hid (fun w ha hb=>by rw [← hx]; exact rowc_any _ _ _ _ w ha hb hl hm);have R2:Hid (∀ w,Calls Tryz.prog 114 #[.int .i64 p.e,.int .i64 q.e] w fun e w'=>e=.returned (.int .i64 y)∧w'=w):=Lib.hid (fun w=>by rw [← hy]; exact cmpI_any _ _ w);rw [hx,hy] at HC;have R3:Hid (∀ b w,w.cell? ⟨b,0,none⟩=some (.int .i64 x)→w.cell? ⟨b,1,none⟩=some (.int .i64 y)→Calls Tryz.prog 112 #[.slice (some ⟨b,0,none⟩) 2 2] w fun e w'=>e=.returned (.int .i64 (cmp p q))∧w'=w):=Lib.hid (fun b w ha hb=>by rw [← HC.out]; exact or2_any x y b w ha hb);clear hx hy HC
  go_enter Tryz.func62,Tryz.ntmps62
  go_wp2_with fail
  go_region_held3 (fun w'=>w'.cell? ⟨w.heap.size,0,none⟩=some (.slice a1 p.a.length c1)∧w'.cell? ⟨w.heap.size,1,none⟩=some (.int .i64 p.e)∧w'.cell? ⟨w.heap.size+1,0,none⟩=some (.slice a2 q.a.length c2)∧w'.cell? ⟨w.heap.size+1,1,none⟩=some (.int .i64 q.e)) (first | (simp [go_sem]; done) | go_keep | fail) (first
    | (go_at_call 113
       refine (R1.out _ (H1.out _ _) (H2.out _ _)).mono ?_;rintro e w' ⟨rfl,rfl⟩)
    | (go_at_call 114
       refine (R2.out _).mono ?_;rintro e w' ⟨rfl,rfl⟩)
    | (go_at_call 112
       refine (R3.out _ _ (by simp [go_sem]) (by simp [go_sem])).mono ?_;rintro e w' ⟨rfl,rfl⟩)
    | fail)
  go_wp2_with fail;go_ret;exact ⟨rfl,1,_,x6c _ _ _ _⟩
theorem x0m (v1 v2:Value) (p q:Tr) (w:World) (h1:Strs w v1 p.a) (h2:Strs w v2 q.a) (hl:p.a.length≤1000000000000) (hm:q.a.length≤1000000000000) :
    Calls Tryz.prog 31 #[.agg #[v1,.int .i64 p.e],.agg #[v2,.int .i64 q.e]] w fun e w'=>e=.returned (.int .i64 (cmp p q))∧Below w.heap.size w w':=by
  have H1:=Lib.hid (fun x y=>h1.below (((Below.refl _ _).alloc (Nat.le_refl _) x).alloc (by simp) y));have H2:=Lib.hid (fun x y=>h2.below (((Below.refl _ _).alloc (Nat.le_refl _) x).alloc (by simp) y));obtain ⟨_,a1,c1,rfl,-⟩:=h1;obtain ⟨_,a2,c2,rfl,-⟩:=h2
  go_enter Tryz.func31,Tryz.ntmps31
  go_wp2_with (go_at_call 62; refine (z2y _ _ p q _ (H1.out _ _) (H2.out _ _) hl hm).mono ?_; rintro e w' ⟨rfl,n,os,rfl⟩);go_ret;exact ⟨rfl,(((Below.refl _ _).alloc (Nat.le_refl _) _).alloc (by simp) _).trans ((below_grow _ n os).mono (by simp; omega))⟩
def EqPost (p q:Tr) (w:World) (e:Ending) (w':World):Prop:=e=.returned (.bool (cmp p q==0))∧Below w.heap.size w w'
theorem set1_any (v1 v2:Value) (p q:Tr) (w:World) (h1:Strs w v1 p.a) (h2:Strs w v2 q.a) (hl:p.a.length≤1000000000000) (hm:q.a.length≤1000000000000) :
    Calls Tryz.prog 143 #[.agg #[v1,.int .i64 p.e],.agg #[v2,.int .i64 q.e]] w (EqPost p q w):=by
  have H1:=Lib.hid (fun x y=>h1.below (((Below.refl _ _).alloc (Nat.le_refl _) x).alloc (by simp) y));have H2:=Lib.hid (fun x y=>h2.below (((Below.refl _ _).alloc (Nat.le_refl _) x).alloc (by simp) y));obtain ⟨_,a1,c1,rfl,-⟩:=h1;obtain ⟨_,a2,c2,rfl,-⟩:=h2;have HB:Hid (∀ x y n os,Below w.heap.size w (Go.Sort.grow (((w.alloc x).alloc y).drewN n) os)):=Lib.hid fun x y n os=>(((Below.refl _ _).alloc (Nat.le_refl _) _).alloc (by simp) _).trans ((below_grow _ n os).mono (by simp; omega))
  unfold EqPost
  cases hc:cmp p q==0 with
  | true=>
    have hc':cmp p q=0:=by simpa using hc
    have A:=Lib.hid (fun w ha hb=>z2y (.slice a1 p.a.length c1) (.slice a2 q.a.length c2) p q w ha hb hl hm);rw [hc'] at A;clear hc hc'
    go_enter Tryz.func143,Tryz.ntmps143
    go_wp2_with (go_at_call 62; refine (A.out _ (H1.out _ _) (H2.out _ _)).mono ?_; rintro e w' ⟨rfl,n,os,rfl⟩);go_ret;exact ⟨rfl,HB.out _ _ n os⟩
  | false=>
    have hc':cmp p q≠0:=by simpa using hc
    have A:=Lib.hid (fun w ha hb=>z2y (.slice a1 p.a.length c1) (.slice a2 q.a.length c2) p q w ha hb hl hm);generalize cmp p q=c at A hc' ⊢;clear hc
    go_enter Tryz.func143,Tryz.ntmps143
    go_wp2_with (go_at_call 62; refine (A.out _ (H1.out _ _) (H2.out _ _)).mono ?_; rintro e w' ⟨rfl,n,os,rfl⟩);go_ret;exact ⟨by simp [hc'],HB.out _ _ n os⟩
end Tr
end Go.Proofs.YtpingbiibbmcaaaGreatDoor
namespace Go.Proofs.YtpingbiibbmcaaaGreatDoor.Tr
set_option maxRecDepth 100000
open Go Go.ChangeShapes Go.WideShapes Go.ChangeAt Go.RowKit
theorem cT:Tryz.prog.cellsOf 36=2:=by kernel_rfl
theorem cS:Tryz.prog.cellsOf 26=1:=by kernel_rfl
theorem cStr:Tryz.prog.cellsOf 9=1:=by kernel_rfl
theorem cInt:Tryz.prog.cellsOf 3=1:=by kernel_rfl
section
variable {H:Type} {enc:TypeId × Value→H} {W:World} {base:Nat} {v:Value} {d:DataW H} {p:List MemPlace}
theorem tr_arg (hok:Value.okWide Tryz.prog W .any base 36 v) (h:DataW.Trod enc Tryz.prog W 0 (fun _=>true) true 36 v d p) :
    ∃ (a:Value) (t:Tr) (r:List ByteArray),v=.agg #[a,.int .i64 t.e]∧Strs W a t.a∧dat t r d:=by
  obtain ⟨cs,rfl,hsz⟩:=okWide_struct Tryz.underlying36 hok;obtain ⟨fuel,hf⟩:=h;obtain ⟨a,t,r,hcs,hs,_,_,hd,_⟩:=tr_of Tryz.underlying36 cT rfl rfl rfl rfl Tryz.underlying26 cS Tryz.underlying9 cStr Tryz.underlying3 cInt hf;refine ⟨a,t,r,?_,hs,hd⟩;have e:cs.toList=[a,.int .i64 t.e]:=hcs
  cases cs
  simp at e;rw [e]
end
end Go.Proofs.YtpingbiibbmcaaaGreatDoor.Tr
namespace Go.Proofs.YtpingbiibbmcaaaGreatDoor
namespace Rw
open Go Go.RowKit
def Made0 (w0 w wr:World) (v:Value) (l:List Nd) (k p:Nat):Prop:=∃ cs d,Far l 0 k p d∧wr.ownsRow w.heap.size 22 1 v k cs∧RwC w0 cs (kidsN k (l.drop 1))∧Below w.heap.size w wr
def n0:Nd:=⟨5,⟨#[]⟩,0⟩
def n1:Nd:=⟨1,⟨#[97]⟩,0⟩
def n2:Nd:=⟨6,⟨#[]⟩,0⟩
def n3:Nd:=⟨2,⟨#[]⟩,0⟩
def n4:Nd:=⟨3,⟨#[]⟩,0⟩
def aL:List Nd:=[n0,n1,n2,n3,n4]
end Rw
end Go.Proofs.YtpingbiibbmcaaaGreatDoor
