/- Laws that the last text leans on. -/
import Derived.Test.YtpingbiibbmcaaaGreatDoorQ05
import Derived.Laws.AppendOwn
import Derived.Laws.StructEq

set_option maxRecDepth 100000
set_option maxHeartbeats 2000000
namespace Go.Proofs.YtpingbiibbmcaaaGreatDoor
namespace Rw
open Go Go.RowKit
theorem infoN:(Tryz.prog.info? 68).map (fun i=>(i.zero,i.size,i.bytes))=some (some (.agg #[.int .i64 0,.string ⟨#[]⟩,.int .i64 0]),3,32):=by kernel_rfl
theorem v3q {l:List Nd}:∀ u∈cls l,u.oneCell'=true:=by
  induction l with
  | nil=>intro u hu; cases hu
  | cons x l ih=>
    intro u hu;rw [cls,List.mem_append] at hu
    rcases hu with hu | hu
    · simp [cl] at hu
      rcases hu with rfl | rfl | rfl <;> rfl
    · exact ih u hu
theorem z2b {w:World} {base:Nat} {v x:Value} {l m:List Nd} (hown:w.ownsRow base 68 3 v l.length (cls l)) (hbase:base≤w.heap.size) (hx:Nds w x m) (hlen:l.length+m.length≤2000000) :
    ∃ v' w',(Builtin.append_ #[22,22] 22 #[v,x]).run Tryz.prog w=.ok v' w'∧w'.ownsRow base 68 3 v' (l++m).length (cls (l++m))∧w.grownBy w' v.ownBlock∧Below base w w'∧Ap.Fresh w v v':=by
  obtain ⟨i0,hi,hz,hs1,hb8⟩:=info_parts infoN
  obtain ⟨v',w',h1,h2,h3,h4,h5⟩:=Ap.z0t (P:=Tryz.prog) (ty:=22) Tryz.underlying22 hi hz hs1 hb8 (by rfl) (by omega) hown hbase hx
    v3q (by unfold maxLen; omega) (by omega)
  exact ⟨v',w',h1,by rw [z3r]; simpa using h2,h3,h4,h5⟩
theorem y2z {w:World} {base:Nat} {v:Value} {l:List Nd} (x:Nd) (hown:w.ownsRow base 68 3 v l.length (cls l)) (hbase:base≤w.heap.size) (hlen:l.length≤2000000) :
    ∃ v' w',(Builtin.append_ #[22,22] 22 #[v,.slice (some ⟨w.heap.size,0,none⟩) 1 1]).run Tryz.prog (w.alloc (.cells #[.int .i64 x.k,.string x.n,.int .i64 x.s] 68))=.ok v' w'∧w'.ownsRow base 68 3 v' (l++[x]).length (cls (l++[x]))∧w.grownBy w' v.ownBlock∧Below base w w'∧Ap.Fresh w v v':=by
  obtain ⟨i0,hi,hz,hs1,hb8⟩:=info_parts infoN
  obtain ⟨v',w',h1,h2,h3,h4,h5⟩:=Ap.z1f (P:=Tryz.prog) (ty:=22) Tryz.underlying22 hi hz hs1 hb8 (by rfl) (by omega) hown hbase #[.int .i64 x.k,.string x.n,.int .i64 x.s] rfl
    (by intro u hu; simp at hu; rcases hu with rfl | rfl | rfl <;> rfl) (by unfold maxLen; omega) (by omega)
  exact ⟨v',w',h1,by rw [z3r,List.length_append]; exact h2,h3,h4,h5⟩
abbrev nb (x:Nd):Obj:=.cells #[.int .i64 x.k,.string x.n,.int .i64 x.s] 68
theorem z0b (w:World) (x:Obj):Below w.heap.size w (w.alloc x):=(Below.refl _ _).alloc (Nat.le_refl _) _
theorem one_runs (x:Nd) (v:Value) (l:List Nd) (w:World) (hv:Nds w v l) (hl:l.length≤1000000) :
    ∃ v1 w1 v2 w2,(Builtin.append_ #[22,22] 22 #[.slice none 0 0,.slice (some ⟨w.heap.size+1,0,none⟩) 1 1]).run Tryz.prog ((w.alloc (nb x)).alloc (nb x))=.ok v1 w1∧
      (Builtin.append_ #[22,22] 22 #[v1,v]).run Tryz.prog w1=.ok v2 w2∧w2.ownsRow w.heap.size 68 3 v2 (x::l).length (cls (x::l))∧Below w.heap.size w w2:=by
  have B0:=z0b w (nb x);obtain ⟨v1,w1,hrun1,hown1,hg1,hb1,_⟩:=y2z (w:=w.alloc (nb x)) (base:=(w.alloc (nb x)).heap.size) (v:=.slice none 0 0) (l:=[]) x ⟨rfl,.inl ⟨rfl,rfl⟩⟩ (Nat.le_refl _) (by simp);rw [List.nil_append] at hown1;have hsz:(w.alloc (nb x)).heap.size=w.heap.size+1:=by simp
  obtain ⟨v2,w2,hrun2,hown2,hg2,hb2,_⟩:=z2b (Ap.z3e hown1 (show w.heap.size≤_ by omega)) (Nat.le_trans B0.size hb1.size) ((hv.below B0).below hb1) (by simp; omega);rw [hsz] at hrun1;exact ⟨v1,w1,v2,w2,hrun1,hrun2,hown2,(B0.trans (hb1.mono (by omega))).trans hb2⟩
def RwC (w:World):List Value→List (List Nd)→Prop
  | [],[]=>True
  | a::cs,r::rs=>Nds w a r∧RwC w cs rs
  | _,_=>False
theorem RwC.below {w w':World} (hb:Below w.heap.size w w'):∀ {cs:List Value} {ls:List (List Nd)},RwC w cs ls→RwC w' cs ls
  | [],[],_=>trivial
  | _::_,_::_,h=>⟨h.1.below hb,RwC.below hb h.2⟩
  | [],_::_,h=>h.elim
  | _::_,[],h=>h.elim
theorem RwC.snoc {w:World} {a:Value} {r:List Nd} (ha:Nds w a r):∀ {cs:List Value} {ls:List (List Nd)},RwC w cs ls→RwC w (cs++[a]) (ls++[r])
  | [],[],_=>⟨ha,trivial⟩
  | _::_,_::_,h=>⟨h.1,RwC.snoc ha h.2⟩
  | [],_::_,h=>h.elim
  | _::_,[],h=>h.elim
def Rws (w:World) (v:Value) (ls:List (List Nd)):Prop:=∃ cs,Ap.Rd w 1 v ls.length cs∧RwC w cs ls
theorem Rws.below {w w':World} {v:Value} {ls:List (List Nd)} (h:Rws w v ls) (hb:Below w.heap.size w w'):Rws w' v ls:=by
  obtain ⟨cs,h1,h2⟩:=h;exact ⟨cs,h1.below hb,h2.below hb⟩
theorem infoR:(Tryz.prog.info? 22).map (fun i=>(i.zero,i.size,i.bytes))=some (some (.slice none 0 0),1,24):=by kernel_rfl
theorem z3d {w:World} {b off:Nat} {l:List Nd} (h:At w b off l) (p n c:Nat) (hp:p+n≤l.length) (hn:n≤c):Nds w (.slice (some ⟨b,off+p*3,none⟩) n c) ((l.drop p).take n):=by
  have hlen:((l.drop p).take n).length=n:=by rw [List.length_take,List.length_drop]; omega
  unfold Nds;rw [hlen];refine ⟨by rw [z2a,hlen],_,c,rfl,hn,fun e=>(by cases e),fun _=>⟨b,off+p*3,rfl,fun j u hu=>?_⟩⟩
  have hj:j<n*3:=by
    have:=(List.getElem?_eq_some_iff.1 hu).1;rw [z2a,hlen] at this;exact this
  have hk:j / 3<((l.drop p).take n).length:=by rw [hlen]; omega
  obtain ⟨h1,h2,h3⟩:=x3j _ (j / 3) hk;have hkl:p+j / 3<l.length:=by omega
  have hx:((l.drop p).take n)[j / 3]=l[p+j / 3]:=by simp
  rw [hx] at h1 h2 h3;obtain ⟨g1,g2,g3⟩:=h (p+j / 3) hkl;have hr:j % 3=0∨j % 3=1∨j % 3=2:=by omega
  rcases hr with hr | hr | hr
  · have:j=j / 3*3:=by omega
    rw [← this,hu] at h1;rw [Option.some.inj h1,show off+p*3+j=off+(p+j / 3)*3 by omega];exact g1
  · have:j=j / 3*3+1:=by omega
    rw [← this,hu] at h2;rw [Option.some.inj h2,show off+p*3+j=off+(p+j / 3)*3+1 by omega];exact g2
  · have:j=j / 3*3+2:=by omega
    rw [← this,hu] at h3;rw [Option.some.inj h3,show off+p*3+j=off+(p+j / 3)*3+2 by omega];exact g3
theorem y6g {l:List Nd} {k p d c' d':Nat} (h:Far l 0 k p d) (ht:T (l.drop p)=some (c',d')):kidsN (k+1) (l.drop 1)=kidsN k (l.drop 1)++[(l.drop p).take c']:=by
  obtain ⟨c,hs,rfl⟩:=h;rw [Nat.zero_add] at hs ht;rw [kidsN,hs];simp only [Option.getD_some,List.drop_drop,Nat.zero_add];have:size (l.drop (1+c))=c':=by unfold size; rw [ht]
  rw [this]
theorem y0a {l:List Nd} {k p d:Nat} (h0:0<l.length) (hs:size l≠0) (h:Far l 0 k p d) (hk:(k:Int)<ar l[0].k):∃ c' d',T (l.drop p)=some (c',d'):=by
  cases ht:T (l.drop p) with
  | some x=>exact ⟨x.1,x.2,rfl⟩
  | none=>
    exfalso
    have h1:=h.stop ht;have hn:¬ ar l[0].k<0:=by omega
    have:=y5d (l:=l) (i:=0) h0 hn hk h1;rw [List.drop_zero] at this;exact hs (y2p.2 this)
theorem y9n {l:List Nd} (h0:0<l.length) (hs:size l≠0):kids l=kidsN (ar l[0].k).toNat (l.drop 1):=by
  cases l with
  | nil=>simp at h0
  | cons n r=>
    unfold kids;rw [if_neg hs]
    rfl
theorem z9s {x y:Nd}:x=y↔x.k=y.k∧x.n=y.n∧x.s=y.s:=by
  cases x; cases y; simp
theorem v2q (d:Nat) (x y:Nd) (w:World):(Op.equalIn (d+2) 68 (.agg #[.int .i64 x.k,.string x.n,.int .i64 x.s]) (.agg #[.int .i64 y.k,.string y.n,.int .i64 y.s])).run Tryz.prog w=.ok (decide (x=y)) w:=by
  rw [run_equalIn_struct w (d+1) _ _ _ (by kernel_rfl) (by kernel_rfl)];simp only [Program.fieldsOf,Tryz.underlying68]
  by_cases h1:x.k=y.k
  · by_cases h2:x.n=y.n
    · by_cases h3:x.s=y.s
      · rw [decide_eq_true (z9s.2 ⟨h1,h2,h3⟩),h1,h2,h3];simp [go_sem,Op.eqFields]
      · rw [decide_eq_false (fun e=>h3 (z9s.1 e).2.2),h1,h2];simp [go_sem,Op.eqFields,h3]
    · have e2:(x.n.toList==y.n.toList)=false:=by
        rw [ByteArray.toList_eq y.n];exact z1o fun e=>h2 (by rw [e])
      rw [decide_eq_false (fun e=>h2 (z9s.1 e).2.1),h1];simp [go_sem,Op.eqFields,e2]
  · rw [decide_eq_false (fun e=>h1 (z9s.1 e).1)];simp [go_sem,Op.eqFields,h1]
theorem neq_nd (x y:Nd) (w:World):(binOp .neq 68 (.agg #[.int .i64 x.k,.string x.n,.int .i64 x.s]) (.agg #[.int .i64 y.k,.string y.n,.int .i64 y.s])).run Tryz.prog w=.ok (.bool (!decide (x=y))) w:=by
  rw [run_neq_struct,show (10000:Nat)=9998+2 from rfl,v2q]
  rfl
theorem cnt_yes (l:List Nd) (ks:List Int) (k:Nat) (h:k<l.length) (hm:l[k].k∈ks):cnt (l.take (k+1)) ks=cnt (l.take k) ks+1:=by
  unfold cnt;rw [List.take_succ_eq_append_getElem h,List.countP_append];simp [hm]
theorem cnt_no (l:List Nd) (ks:List Int) (k:Nat) (h:k<l.length) (hm:¬ l[k].k∈ks):cnt (l.take (k+1)) ks=cnt (l.take k) ks:=by
  unfold cnt;rw [List.take_succ_eq_append_getElem h,List.countP_append];simp [hm]
theorem cnt_le (l:List Nd) (ks:List Int):cnt l ks≤l.length:=List.countP_le_length
end Rw
namespace So
open Rw
def k0 (l:List Nd):List Nd:=(kids l).getD 0 []
def k1 (l:List Nd):List Nd:=(kids l).getD 1 []
def hd (l:List Nd):Int:=match l with | []=>0 | n::_=>n.k
def plainB (t:Nat→List Nd→Bool) (l:List Nd):Bool:=
  if hd l=1∨hd l=2∨hd l=3∨hd l=4 then true
  else if hd l=5∨hd l=6∨hd l=7∨hd l=8 then t 1 (k0 l)&&t 1 (k1 l)
  else if hd l=9 then t 2 (k0 l) else false
def pairedB (t:Nat→List Nd→Bool) (l:List Nd):Bool:=
  if hd l=10 then t 1 (k0 l)&&t 1 (k1 l)
  else if hd l=5∨hd l=6∨hd l=7 then t 2 (k0 l)&&t 2 (k1 l) else false
def plainOnB (t:Nat→List Nd→Bool) (l:List Nd):Bool:=
  if hd l=11 then true
  else if hd l=5∨hd l=8 then t 3 (k0 l)&&t 1 (k1 l)
  else if hd l=7 then t 3 (k0 l)&&t 3 (k1 l)
  else if hd l=9 then t 4 (k0 l) else false
def pairedOnB (t:Nat→List Nd→Bool) (l:List Nd):Bool:=
  if hd l=12 then t 3 (k0 l)&&t 1 (k1 l)
  else if hd l=5 then t 4 (k0 l)&&t 2 (k1 l)
  else if hd l=7 then t 4 (k0 l)&&t 4 (k1 l)
  else if hd l=13 then t 4 (k0 l)&&t 1 (k1 l)
  else if hd l=14 then t 1 (k0 l) else false
def stepB (t:Nat→List Nd→Bool) (s:Nat) (l:List Nd):Bool:=
  if s=1 then plainB t l else if s=2 then pairedB t l else if s=3 then plainB t l||plainOnB t l else pairedB t l||pairedOnB t l
def isF:Nat→Nat→List Nd→Bool
  | 0,_,_=>false
  | f+1,s,l=>stepB (isF f) s l
theorem z5b {l r:List Nd} (hr:r∈kids l):r.length<l.length:=by
  have hs:size l≠0:=fun e=>by
    unfold kids at hr;rw [if_pos e] at hr
    cases hr
  have h0:0<l.length:=by have:=size_le l; omega
  cases l with
  | nil=>simp at h0
  | cons n rs=>
    have:=z6e hs
    have h1:r.length≤(kids (n::rs)).flatten.length:=by
      obtain ⟨s,t,hst⟩:=List.append_of_mem hr;rw [hst];simp;omega
    have h2:(kids (n::rs)).flatten.length+1=((n::rs).take (size (n::rs))).length:=by rw [← this]; simp
    rw [List.length_take] at h2;omega
theorem z3p (l:List Nd) (i:Nat) (h:0<l.length):((kids l).getD i []).length<l.length:=by
  rw [List.getD_eq_getElem?_getD]
  cases hx:(kids l)[i]? with
  | none=>simpa using h
  | some r=>exact z5b (List.mem_of_getElem? hx)
theorem z8w {t t':Nat→List Nd→Bool} (s:Nat) (l:List Nd) (h:∀ s i,t s ((kids l).getD i [])=t' s ((kids l).getD i [])):stepB t s l=stepB t' s l:=by
  unfold stepB plainB pairedB plainOnB pairedOnB k0 k1;simp only [h]
theorem z5v (t:Nat→List Nd→Bool) (s:Nat):stepB t s []=false:=by
  unfold stepB plainB pairedB plainOnB pairedOnB;simp [hd]
theorem y3w:∀ (f s:Nat),isF f s []=false
  | 0,_=>rfl
  | _+1,s=>z5v _ s
theorem x2t:∀ (f:Nat) (s:Nat) (l:List Nd),l.length≤f→isF (f+1) s l=isF f s l
  | 0,s,l,h=>by
    have:l=[]:=List.eq_nil_of_length_eq_zero (by omega);subst this;rw [y3w,y3w]
  | f+1,s,l,h=>by
    by_cases h0:0<l.length
    · exact z8w s l fun s' i=>x2t f s' _ (by have:=z3p l i h0; omega)
    · have:l=[]:=List.eq_nil_of_length_eq_zero (by omega);subst this;rw [y3w,y3w]
def Is (s:Nat) (l:List Nd):Bool:=isF l.length s l
theorem isF_Is (f s:Nat) (l:List Nd) (h:l.length≤f):isF f s l=Is s l:=by
  have:∀ g,isF (l.length+g) s l=isF l.length s l:=by
    intro g
    induction g with
    | zero=>rfl
    | succ g ih=>rw [← Nat.add_assoc,x2t _ _ _ (by omega),ih]
  have h':=this (f-l.length);rw [show l.length+(f-l.length)=f by omega] at h';exact h'
theorem x7e (s:Nat) (l:List Nd):Is s l=stepB Is s l:=by
  cases hl:l.length with
  | zero=>
    have:l=[]:=List.eq_nil_of_length_eq_zero hl;subst this;rw [z5v]
    rfl
  | succ n=>
    unfold Is;rw [hl];exact z8w s l fun s' i=>isF_Is n s' _ (by have:=z3p l i (by omega); omega)
theorem z1y (l:List Nd):Is 1 l=plainB Is l:=x7e 1 l
theorem z1x (l:List Nd):Is 2 l=pairedB Is l:=x7e 2 l
theorem z0x (l:List Nd):Is 3 l=(plainB Is l||plainOnB Is l):=x7e 3 l
theorem z1i (l:List Nd):Is 4 l=(pairedB Is l||pairedOnB Is l):=x7e 4 l
theorem z0n {l:List Nd} (h:Is 1 l=true):Is 3 l=true:=by rw [z0x,← z1y,h]; rfl
theorem z1k {l:List Nd} (h:Is 2 l=true):Is 4 l=true:=by rw [z1i,← z1x,h]; rfl
def first (l:List Nd):Nat:=if Is 1 l then 1 else if Is 2 l then 2 else if Is 3 l then 3 else if Is 4 l then 4 else 0
def of (l:List Nd):Nat:=if whole l then first l else 0
theorem of_le (l:List Nd):of l≤4:=by
  unfold of first
  repeat' split
  all_goals omega
theorem of_cases (l:List Nd):of l=0∨of l=1∨of l=2∨of l=3∨of l=4:=by have:=of_le l; omega
theorem apart:∀ (m:Nat) (l:List Nd),l.length≤m→¬ (Is 3 l=true∧Is 4 l=true)
  | 0,l,h,hh=>by
    have:l=[]:=List.eq_nil_of_length_eq_zero (by omega);subst this;rw [x7e,z5v] at hh
    cases hh.1
  | m+1,l,h,hh=>by
    by_cases h0:0<l.length
    case neg=>
      have:l=[]:=List.eq_nil_of_length_eq_zero (by omega);subst this;rw [x7e,z5v] at hh
      cases hh.1
    have i0:=apart m (k0 l) (by have:=z3p l 0 h0; unfold k0; omega);obtain ⟨h3,h4⟩:=hh
    have key:∀ r,(Is 1 r=true∨Is 3 r=true)→(Is 2 r=true∨Is 4 r=true)→Is 3 r=true∧Is 4 r=true:=fun r a b=>
      ⟨a.elim z0n id,b.elim z1k id⟩
    rw [z0x,Bool.or_eq_true] at h3;rw [z1i,Bool.or_eq_true] at h4;unfold plainB plainOnB at h3;unfold pairedB pairedOnB at h4;generalize hd l=k at h3 h4
    apply i0
    apply key
    · rcases h3 with h3 | h3
      all_goals
        repeat' split at h3
        all_goals (first | (simp only [Bool.and_eq_true] at h3; exact Or.inl h3.1) | (simp only [Bool.and_eq_true] at h3; exact Or.inr h3.1) | skip)
        all_goals (exfalso; rcases h4 with h4 | h4 <;> (repeat' split at h4) <;> first | omega | (cases h4; done) | (cases h3; done))
    · rcases h4 with h4 | h4
      all_goals
        repeat' split at h4
        all_goals (first | (simp only [Bool.and_eq_true] at h4; exact Or.inl h4.1) | (simp only [Bool.and_eq_true] at h4; exact Or.inr h4.1) | skip)
        all_goals (exfalso; rcases h3 with h3 | h3 <;> (repeat' split at h3) <;> first | omega | (cases h4; done) | (cases h3; done))
end So
namespace Tr
open Go Go.RowKit
def same:List Tr→List Tr→Bool
  | [],[]=>true
  | p::l,q::m=>cmp p q==0&&same l m
  | _,_=>false
def sg3 (c:Int):Int:=if c<0 then -1 else if 0<c then 1 else 0
def cmpS (x y:ByteArray):Int:=if ls x y then -1 else if ls y x then 1 else 0
def cmpI (x y:Int):Int:=if x<y then -1 else if y<x then 1 else 0
theorem nanS (x:ByteArray) (w:World):Calls Tryz.prog 236 #[.string x] w fun e w'=>e=.returned (.bool false)∧w'=w:=by
  have hxx:(x.toList==x.toList)=true:=by simp
  go_enter Tryz.func236,Tryz.ntmps236
  go_wp2_with fail;go_ret;exact ⟨rfl,rfl⟩
theorem nanI (x:Int) (w:World):Calls Tryz.prog 182 #[.int .i64 x] w fun e w'=>e=.returned (.bool false)∧w'=w:=by
  go_enter Tryz.func182,Tryz.ntmps182
  go_wp2_with fail;go_ret;exact ⟨rfl,rfl⟩
theorem cmpS_any (x y:ByteArray) (w:World):Calls Tryz.prog 181 #[.string x,.string y] w fun e w'=>e=.returned (.int .i64 (cmpS x y))∧w'=w:=by
  cases hx:ls x y with
  | true=>
    have hx':Op.bytesLess x.toList y.toList=true:=hx;have HX:=Lib.hid hx;clear hx
    go_enter Tryz.func181,Tryz.ntmps181
    go_wp2_with (go_at_call 236; refine (nanS _ _).mono ?_; rintro e w' ⟨rfl,rfl⟩);go_ret;exact ⟨ret_int (by rw [cmpS,HX.out]; rfl),rfl⟩
  | false=>
    have hx':Op.bytesLess x.toList y.toList=false:=hx;have hy':=eq_of_ls hx;have HX:=Lib.hid hx;clear hx
    cases hy:ls y x with
    | true=>
      rw [hy] at hy';have HY:=Lib.hid hy;clear hy
      go_enter Tryz.func181,Tryz.ntmps181
      go_wp2_with (go_at_call 236; refine (nanS _ _).mono ?_; rintro e w' ⟨rfl,rfl⟩);go_ret;exact ⟨ret_int (by rw [cmpS,HX.out,HY.out]; rfl),rfl⟩
    | false=>
      rw [hy] at hy';have HY:=Lib.hid hy;clear hy
      go_enter Tryz.func181,Tryz.ntmps181
      go_wp2_with (go_at_call 236; refine (nanS _ _).mono ?_; rintro e w' ⟨rfl,rfl⟩);go_ret;exact ⟨ret_int (by rw [cmpS,HX.out,HY.out]; rfl),rfl⟩
theorem cmpI_any (x y:Int) (w:World):Calls Tryz.prog 114 #[.int .i64 x,.int .i64 y] w fun e w'=>e=.returned (.int .i64 (cmpI x y))∧w'=w:=by
  by_cases h1:x<y
  · go_enter Tryz.func114,Tryz.ntmps114
    go_wp2_with (go_at_call 182; refine (nanI _ _).mono ?_; rintro e w' ⟨rfl,rfl⟩);go_ret;exact ⟨ret_int (by rw [cmpI,if_pos h1]),rfl⟩
  · by_cases h2:y<x
    · go_enter Tryz.func114,Tryz.ntmps114
      go_wp2_with (go_at_call 182; refine (nanI _ _).mono ?_; rintro e w' ⟨rfl,rfl⟩);go_ret;exact ⟨ret_int (by rw [cmpI,if_neg (by omega),if_pos h2]),rfl⟩
    · go_enter Tryz.func114,Tryz.ntmps114
      go_wp2_with (go_at_call 182; refine (nanI _ _).mono ?_; rintro e w' ⟨rfl,rfl⟩);go_ret;exact ⟨ret_int (by rw [cmpI,if_neg (by omega),if_neg (by omega)]),rfl⟩
theorem sg3_at (l m:List ByteArray) (k:Nat) (h1:k<l.length) (h2:k<m.length) :
    sg3 (row (l.drop k) (m.drop k))=if cmpS l[k] m[k]=0 then sg3 (row (l.drop (k+1)) (m.drop (k+1))) else cmpS l[k] m[k]:=by
  rw [row_at l m k h1 h2,cmpS]
  cases ls l[k] m[k] with
  | true=>rfl
  | false=>
    cases ls m[k] l[k] with
    | true=>rfl
    | false=>rfl
theorem sg3_over (l m:List ByteArray) (k:Nat) (h1:k<l.length) (h2:¬ k<m.length) (h3:k≤m.length):sg3 (row (l.drop k) (m.drop k))=1:=by
  rw [x8o l m k (by omega) h3 (.inr h2),sg3,if_neg (by omega),if_pos (by omega)]
theorem x8g (l m:List ByteArray) (k:Nat) (h1:k=l.length) (h3:k≤m.length):sg3 (row (l.drop k) (m.drop k))=if l.length<m.length then -1 else 0:=by
  rw [x8o l m k (by omega) h3 (.inl (by omega)),sg3]
  by_cases h:l.length<m.length
  · rw [if_pos (by omega),if_pos h]
  · rw [if_neg (by omega),if_neg (by omega),if_neg h]
theorem x4p (b1 o1 c1 b2 o2 c2:Nat) (l m:List ByteArray) (w:World) (hl:l.length≤1000000000000) (_hm:m.length≤1000000000000)
    (h1:∀ k,(h:k<l.length)→w.cell? ⟨b1,o1+k,none⟩=some (.string l[k])) (h2:∀ k,(h:k<m.length)→w.cell? ⟨b2,o2+k,none⟩=some (.string m[k])) :
    Calls Tryz.prog 113 #[.slice (some ⟨b1,o1,none⟩) l.length c1,.slice (some ⟨b2,o2,none⟩) m.length c2] w fun e w'=>e=.returned (.int .i64 (sg3 (row l m)))∧w'=w:=by
  have H1:=Lib.hid h1;have H2:=Lib.hid h2;clear h1 h2
  go_enter Tryz.func113,Tryz.ntmps113
  go_wp2_with fail
  go_loopw [11] (fun i wr=>∃ k:Nat,k≤l.length∧k≤m.length∧i=.int .i64 k∧wr=w∧sg3 (row l m)=sg3 (row (l.drop k) (m.drop k))) (fun i _=>l.length-(intOf i).toNat)
  case atStart=>exact ⟨0,Nat.zero_le _,Nat.zero_le _,rfl,rfl,rfl⟩
  case round=>
    obtain ⟨k,hk1,hk2,rfl,rfl,hrow⟩:=hrel;have HROW:=Lib.hid hrow;clear hrow
    by_cases hlt:k<l.length
    · have e1:=H1.out k hlt
      by_cases hlt2:k<m.length
      · have e2:=H2.out k hlt2;have HA:=Lib.hid (HROW.out.trans (sg3_at l m k hlt hlt2));obtain ⟨x,hx⟩:∃ x,l[k]=x:=⟨_,rfl⟩
        obtain ⟨y,hy⟩:∃ y,m[k]=y:=⟨_,rfl⟩
        rw [hx] at e1 HA;rw [hy] at e2 HA;clear hx hy;obtain ⟨c,hc⟩:∃ c,cmpS x y=c:=⟨_,rfl⟩
        have HC:=Lib.hid (cmpS_any x y);rw [hc] at HA HC;clear hc
        by_cases h0:c=0
        · subst h0;go_wp2_with (go_at_call 181; refine (HC.out _).mono ?_; rintro e w' ⟨rfl,rfl⟩)
          go_roundw
          case rel=>exact ⟨k+1,by omega,by omega,by go_num,(by first | rfl | trivial),HA.out⟩
          case measure=>simp [intOf]; omega
        · have H0:=Lib.hid h0;go_wp2_with (go_at_call 181; refine (HC.out _).mono ?_; rintro e w' ⟨rfl,rfl⟩);go_ret;exact ⟨ret_int (by rw [HA.out,if_neg H0.out]),rfl⟩
      · have HE:=Lib.hid (HROW.out.trans (sg3_over l m k hlt hlt2 hk2));go_wp2_with fail;go_ret;exact ⟨ret_int HE.out.symm,rfl⟩
    · have HE:=Lib.hid (HROW.out.trans (x8g l m k (by omega) hk2))
      by_cases hlm:l.length<m.length
      · rw [if_pos hlm] at HE;go_wp2_with fail;go_ret;exact ⟨ret_int HE.out.symm,rfl⟩
      · rw [if_neg hlm] at HE;go_wp2_with fail;go_ret;exact ⟨ret_int HE.out.symm,rfl⟩
theorem z7o (a1 a2:Option Addr) (c1 c2 n:Nat) (w:World) (_hn:n≤1000000000000) :
    Calls Tryz.prog 113 #[.slice a1 0 c1,.slice a2 n c2] w fun e w'=>e=.returned (.int .i64 (if 0<n then -1 else 0))∧w'=w:=by
  by_cases h:0<n
  · rw [if_pos h]
    go_enter Tryz.func113,Tryz.ntmps113
    go_wp2_with fail;refine Go.wp_loop_rounds 1 ?_;rw [rounds_succ];go_wp2_with fail;go_ret;exact ⟨rfl,rfl⟩
  · rw [if_neg h]
    go_enter Tryz.func113,Tryz.ntmps113
    go_wp2_with fail;refine Go.wp_loop_rounds 1 ?_;rw [rounds_succ];go_wp2_with fail;go_ret;exact ⟨rfl,rfl⟩
theorem y5v (b1 o1 c1:Nat) (a2:Option Addr) (c2 n:Nat) (w:World) (x:ByteArray) (_hn:n≤1000000000000) (h0:0<n) (h1:w.cell? ⟨b1,o1,none⟩=some (.string x)) :
    Calls Tryz.prog 113 #[.slice (some ⟨b1,o1,none⟩) n c1,.slice a2 0 c2] w fun e w'=>e=.returned (.int .i64 1)∧w'=w:=by
  go_enter Tryz.func113,Tryz.ntmps113
  go_wp2_with fail;refine Go.wp_loop_rounds 1 ?_;rw [rounds_succ];go_wp2_with fail;go_ret;exact ⟨rfl,rfl⟩
theorem rowc_any (v1 v2:Value) (l m:List ByteArray) (w:World) (h1:Strs w v1 l) (h2:Strs w v2 m) (hl:l.length≤1000000000000) (hm:m.length≤1000000000000) :
    Calls Tryz.prog 113 #[v1,v2] w fun e w'=>e=.returned (.int .i64 (sg3 (row l m)))∧w'=w:=by
  have hL:∀ m:List ByteArray,sg3 (row [] m)=if 0<m.length then -1 else 0:=fun m=>by
    have:=x8g [] m 0 rfl (Nat.zero_le _)
    simpa using this
  rcases h1.form with ⟨rfl,a1,c1,rfl⟩ | ⟨b1,o1,c1,rfl,hc1⟩
  · obtain ⟨_,a2,c2,rfl,_⟩:=h2;rw [hL];exact z7o a1 a2 c1 c2 m.length w hm
  · by_cases h0:0<l.length
    · rcases h2.form with ⟨rfl,a2,c2,rfl⟩ | ⟨b2,o2,c2,rfl,hc2⟩
      · rw [z2f,sg3,if_neg (by omega),if_pos (by omega)];exact y5v b1 o1 c1 a2 c2 l.length w l[0] hl h0 (hc1 0 h0)
      · exact x4p b1 o1 c1 b2 o2 c2 l m w hl hm hc1 hc2
    · obtain rfl:l=[]:=List.eq_nil_of_length_eq_zero (by omega);obtain ⟨_,a2,c2,rfl,_⟩:=h2;rw [hL];exact z7o _ a2 c1 c2 m.length w hm
theorem or2_any (x y:Int) (b:Nat) (w:World) (h1:w.cell? ⟨b,0,none⟩=some (.int .i64 x)) (h2:w.cell? ⟨b,1,none⟩=some (.int .i64 y)) :
    Calls Tryz.prog 112 #[.slice (some ⟨b,0,none⟩) 2 2] w fun e w'=>e=.returned (.int .i64 (if x=0 then y else x))∧w'=w:=by
  by_cases hx:x=0
  · rw [if_pos hx];subst hx
    by_cases hy:y=0
    · subst hy
      go_enter Tryz.func112,Tryz.ntmps112
      go_wp2_with fail;refine Go.wp_loop_rounds 3 ?_;rw [rounds_succ];go_wp2_with fail;rw [rounds_succ];go_wp2_with fail;rw [rounds_succ];go_wp2_with fail;go_ret;exact ⟨rfl,rfl⟩
    · go_enter Tryz.func112,Tryz.ntmps112
      go_wp2_with fail;refine Go.wp_loop_rounds 2 ?_;rw [rounds_succ];go_wp2_with fail;rw [rounds_succ];go_wp2_with fail;go_ret;exact ⟨rfl,rfl⟩
  · rw [if_neg hx]
    go_enter Tryz.func112,Tryz.ntmps112
    go_wp2_with fail;refine Go.wp_loop_rounds 1 ?_;rw [rounds_succ];go_wp2_with fail;go_ret;exact ⟨rfl,rfl⟩
theorem cmp_or (p q:Tr):(if sg3 (row p.a q.a)=0 then cmpI p.e q.e else sg3 (row p.a q.a))=cmp p q:=by
  rcases Int.lt_trichotomy (row p.a q.a) 0 with h | h | h
  · have e:sg3 (row p.a q.a)=-1:=by rw [sg3,if_pos h]
    rw [e,if_neg (by decide)];have:=x0r (p:=p) (q:=q) |>.2 (.inl h);have:=y7k p q;omega
  · have e:sg3 (row p.a q.a)=0:=by rw [h]; rfl
    rw [e,if_pos rfl,cmpI,cmp];simp [h]
    repeat' split
    all_goals omega
  · have e:sg3 (row p.a q.a)=1:=by rw [sg3,if_neg (by omega),if_pos h]
    rw [e,if_neg (by decide)];have h2:row q.a p.a<0:=(z8a _ _).2 h;have:=x0r (p:=q) (q:=p) |>.2 (.inl h2);have:=z5h p q;have:=y7k p q;omega
end Tr
end Go.Proofs.YtpingbiibbmcaaaGreatDoor
namespace Go.Proofs.YtpingbiibbmcaaaGreatDoor.Tr
open Go Go.RowKit Go.ChangeShapes Go.WideShapes
section
variable {H:Type} {P:Program}
end
end Go.Proofs.YtpingbiibbmcaaaGreatDoor.Tr
namespace Go.Proofs.YtpingbiibbmcaaaGreatDoor
namespace Mn
open Go Go.ChangeShapes Go.WideShapes Go.ChangeAt Go.RowKit
open Rw (Nd Nds)
theorem bNode:Tryz.prog.bytesOf 68=32:=by kernel_rfl
theorem nds_len {H:Type} {d:DataW H} {l:List Nd} (hd:Rw.nodesD l d) (h:(d.weights Tryz.prog 22).all (·≤reachBytes)=true):l.length≤140737488355328:=by
  rcases hd with ⟨rfl,_⟩ | ⟨sp,rfl⟩
  · exact Nat.zero_le _
  · rw [DataW.weights,Tryz.underlying22] at h;simp only [List.all_cons,List.all_append,Bool.and_eq_true,bNode] at h;have h1:=h.1;simp [reachBytes] at h1;omega
end Mn
namespace Rw
open Go Go.RowKit
theorem v1f (v:Value) (l:List Nd) (w:World) (hv:Nds w v l) (hl:l.length≤1000000) (hs:size l=0) :
    Calls Tryz.prog 88 #[v] w fun e w'=>e=.returned (.slice none 0 0)∧w=w':=by
  have HV:=Lib.hid hv;have HS:=Lib.hid hs;obtain ⟨_,a,cap,rfl,-⟩:=hv;clear hs
  go_enter Tryz.func88,Tryz.ntmps88
  go_wp2_with fail;refine (z8y _ l _ HV.out hl).mono ?_;rw [HS.out];rintro e w' ⟨rfl,rfl⟩;go_wp2_with fail;go_ret;exact ⟨rfl,rfl⟩
def Made (w wr:World) (v:Value) (l:List Nd) (k p:Nat):Prop:=∃ cs d,Far l 0 k p d∧wr.ownsRow w.heap.size 22 1 v k cs∧RwC w cs (kidsN k (l.drop 1))∧Below w.heap.size w wr
theorem Made.start (w:World) (l:List Nd):Made w w (.slice none 0 0) l 0 1:=⟨[],0,Far.start l 0,⟨rfl,.inl ⟨rfl,rfl⟩⟩,trivial,Below.refl _ _⟩
theorem Made.next {w wr:World} {v:Value} {l:List Nd} {k p c' d' b off cap:Nat} (h:Made w wr v l k p) (ht:T (l.drop p)=some (c',d')) (hat:At w b off l) (hp:p+c'≤l.length) (hc:c'≤cap) (hk:k≤2) :
    ∃ v' w',(Builtin.append_ #[116,116] 116 #[v,.slice (some ⟨wr.heap.size,0,none⟩) 1 1]).run Tryz.prog (wr.alloc (.cells #[.slice (some ⟨b,off+p*3,none⟩) c' cap] 22))=.ok v' w'∧Made w w' v' l (k+1) (p+c'):=by
  obtain ⟨cs,d,hfar,hown,hrw,hb⟩:=h;obtain ⟨i0,hi,hz,hs1,hb8⟩:=info_parts infoR
  obtain ⟨v',w',h1,h2,h3,h4,h5⟩:=Ap.z1f (P:=Tryz.prog) (ty:=116) Tryz.underlying116 hi hz hs1 hb8 (by rfl) (by omega) hown hb.size #[.slice (some ⟨b,off+p*3,none⟩) c' cap] rfl
    (by intro u hu; simp at hu; subst hu; rfl) (by unfold maxLen; omega) (by omega)
  refine ⟨v',w',h1,cs++[.slice (some ⟨b,off+p*3,none⟩) c' cap],max d d',hfar.next ht,h2,?_,hb.trans h4⟩;rw [y6g hfar ht];exact hrw.snoc (z3d hat p c' cap hp hc)
theorem x5v (b off cap:Nat) (l:List Nd) (w:World) (hn:Nds w (.slice (some ⟨b,off,none⟩) l.length cap) l) (hat:At w b off l) (hl:l.length≤1000000) (hcap:l.length≤cap) (hs:size l≠0) :
    Calls Tryz.prog 88 #[.slice (some ⟨b,off,none⟩) l.length cap] w fun e w'=>∃ y,e=.returned y∧Rws w' y (kids l)∧Below w.heap.size w w':=by
  have h0:0<l.length:=by have:=size_le l; omega
  have HN:=Lib.hid hn;have HA:=Lib.hid hat;have HS:=Lib.hid hs;have hz:=size_le l;have HM:=Lib.hid (fun k p d=>y0a (k:=k) (p:=p) (d:=d) h0 hs);have HK:=Lib.hid (y9n h0 hs);have hbd:=x1b l[0].k;have e0:=(hat 0 h0).1;rw [Nat.zero_mul,Nat.add_zero] at e0;obtain ⟨z,hzz⟩:∃ z,size l=z:=⟨_,rfl⟩
  have HZ:=Lib.hid hzz;rw [hzz] at hs hz;have gz:((z:Int)==0)=false:=by rw [beq_eq_false_iff_ne]; omega
  obtain ⟨kk,hkk⟩:∃ kk,l[0].k=kk:=⟨_,rfl⟩
  rw [hkk] at hbd e0 HM HK;obtain ⟨x,hx⟩:∃ x,ar kk=x:=⟨_,rfl⟩
  have HX:=Lib.hid hx;rw [hx] at hbd HM HK;have E0:=Lib.hid e0;clear hn hat hkk hx hzz e0
  go_enter Tryz.func88,Tryz.ntmps88
  go_wp2_with fail;refine (z8y _ l _ HN.out hl).mono ?_;rw [HZ.out];rintro e w' ⟨rfl,rfl⟩;go_wp2_with fail
  go_loopw [3,4,5] (fun o a i wr=>∃ k p:Nat,(k:Int)≤max x 0∧p≤l.length∧a=.int .i64 p∧i=.int .i64 k∧Hid (Made w wr o l k p)) (fun _ _ i _=>(x-intOf i).toNat)
  case atStart=>exact ⟨0,1,by omega,by omega,rfl,rfl,Lib.hid (Made.start w l)⟩
  case round=>
    obtain ⟨k,p,hk,hp,rfl,rfl,HD⟩:=hrel;have HB:Hid (Below w.heap.size w wr):=by obtain ⟨_,_,_,_,_,hb⟩:=HD.out; exact hb
    have c0:wr.cell? ⟨b,off,none⟩=some (.int .i64 kk):=by rw [HB.out.cell (Ap.z0a E0.out)]; exact E0.out
    by_cases hkl:(k:Int)<x
    · obtain ⟨c',d',ht⟩:∃ c' d',T (l.drop p)=some (c',d'):=by
        obtain ⟨_,d,hfar,_⟩:=HD.out;exact HM.out k p d hfar hkl
      have hb':=T_bd ht;rw [List.length_drop] at hb';obtain ⟨q,hq⟩:∃ q,p+c'=q:=⟨_,rfl⟩
      obtain rfl:c'=q-p:=by omega
      have HT:=Lib.hid ht
      have HQ:Hid (WalkPost p (some (q-p,d'))=fun w e w'=>e=.returned (.tuple #[.int .i64 (q:Int),.int .i64 (d':Int)])∧w=w'):=by
        funext w e w'
        unfold WalkPost;have hnx:nx p (some (q-p,d'))=(q:Int):=by simp only [nx]; omega
        rw [hnx]
        rfl
      obtain ⟨v',w',hrun,hmade⟩:=HD.out.next (cap:=cap-p) ht HA.out (by omega) (by omega) (by omega);rw [hq] at hmade;have R:=Lib.hid hrun;have HD':=Lib.hid hmade;have i1:p≤q:=by omega
      have i2:q≤cap:=by omega
      have i3:p<cap:=by omega
      have i4:q≤l.length:=by omega
      clear ht hb' hq hrun hmade;go_wp2_with fail;refine (z1q _ _).mono ?_;rw [HX.out];rintro e w'' ⟨rfl,rfl⟩;go_wp2_with fail;refine (z7v _ l p _ (HN.out.below HB.out) hl hp).mono ?_;rw [HT.out,HQ.out];rintro e w'' ⟨rfl,rfl⟩;go_wp2_with (at_builtin; refine Ap.wpList_append_run (by rfl) (.tmp 26) (.tmp 31) _ _ rfl _ _ rfl rfl v' w' R.out ?_)
      go_roundw
      case rel=>exact ⟨k+1,q,by omega,i4,rfl,by go_num,HD'⟩
      case measure=>simp [intOf]; omega
    · go_wp2_with fail;refine (z1q _ _).mono ?_;rw [HX.out];rintro e w'' ⟨rfl,rfl⟩;go_wp2_with fail;go_ret;refine ⟨_,rfl,?_,HB.out⟩;obtain ⟨cs,d,_,hown,hrw,hb⟩:=HD.out;rw [HK.out,show x.toNat=k by omega];refine ⟨cs,?_,hrw.below hb⟩;rw [z6g];exact Ap.Rd.owned hown
theorem z0r (v:Value) (l:List Nd) (w:World) (hv:Nds w v l) (hl:l.length≤1000000) :
    Calls Tryz.prog 88 #[v] w fun e w'=>∃ y,e=.returned y∧Rws w' y (kids l)∧Below w.heap.size w w':=by
  by_cases hs:size l=0
  · refine (v1f v l w hv hl hs).mono ?_;rintro e w' ⟨rfl,rfl⟩;refine ⟨_,rfl,⟨[],?_,?_⟩,Below.refl _ _⟩
    · unfold kids;rw [if_pos hs];exact ⟨rfl,none,0,rfl,Nat.le_refl _,fun _=>⟨rfl,rfl⟩,fun h=>absurd h (Nat.lt_irrefl 0)⟩
    · unfold kids;rw [if_pos hs]
      trivial
  · rcases hv.form with ⟨rfl,_,_,rfl⟩ | ⟨b,off,cap,rfl,hc,hat⟩
    · exact absurd rfl hs
    · exact x5v b off cap l w hv hat hl hc hs
theorem y3j (x:Nd) (v:Value) (l:List Nd) (w:World) (hv:Nds w v l) (hl:l.length≤1000000) :
    Calls Tryz.prog 133 #[.agg #[.int .i64 x.k,.string x.n,.int .i64 x.s],v] w fun e w'=>∃ y,e=.returned y∧w'.ownsRow w.heap.size 68 3 y (x::l).length (cls (x::l))∧Below w.heap.size w w':=by
  obtain ⟨v1,w1,v2,w2,hrun1,hrun2,hown2,hb2⟩:=one_runs x v l w hv hl;have R1:=Lib.hid hrun1;have R2:=Lib.hid hrun2;have O2:=Lib.hid hown2;have B2:=Lib.hid hb2;clear hrun1 hrun2 hown2 hb2 hv
  go_enter Tryz.func133,Tryz.ntmps133
  go_wp2_with (first
    | (at_builtin; refine Ap.wpList_append_run (by rfl) (.tmp 6) (.tmp 8) _ _ rfl _ _ rfl rfl v1 w1 R1.out ?_)
    | (at_builtin; refine Ap.wpList_append_run (by rfl) (.tmp 10) (.tmp 11) _ _ rfl _ _ rfl rfl v2 w2 R2.out ?_))
  go_ret;exact ⟨_,rfl,O2.out,B2.out⟩
theorem twoR_own (x:Nd) (v u:Value) (l m:List Nd) (w:World) (hv:Nds w v l) (hu:Nds w u m) (hl:l.length≤500000) (hm:m.length≤500000) :
    Calls Tryz.prog 132 #[.agg #[.int .i64 x.k,.string x.n,.int .i64 x.s],v,u] w fun e w'=>∃ y,e=.returned y∧w'.ownsRow w.heap.size 68 3 y (x::(l++m)).length (cls (x::(l++m)))∧Below w.heap.size w w':=by
  have HV:=Lib.hid hv;have HU:=Lib.hid hu;have B0:=Lib.hid (z0b w (nb x));clear hv hu
  go_enter Tryz.func132,Tryz.ntmps132
  go_wp2_with fail;refine (y3j x v l _ (HV.out.below B0.out) (by omega)).mono ?_;rintro e w1 ⟨y,rfl,hown,hb1⟩;obtain ⟨v2,w2,hrun2,hown2,hg2,hb2,_⟩:=z2b (Ap.z3e hown (show w.heap.size≤_ from B0.out.size)) (Nat.le_trans B0.out.size hb1.size) ((HU.out.below B0.out).below hb1) (by simp; omega);have R2:=Lib.hid hrun2;have O2:=Lib.hid hown2;have B2:=Lib.hid ((B0.out.trans (hb1.mono B0.out.size)).trans hb2);clear hrun2 hown2 hg2 hb1 hb2 hown;go_wp2_with (at_builtin; refine Ap.wpList_append_run (by rfl) (.tmp 9) (.tmp 10) _ _ rfl _ _ rfl rfl v2 w2 R2.out ?_);go_ret;exact ⟨_,rfl,O2.out,B2.out⟩
theorem twoR_any (x:Nd) (v u:Value) (l m:List Nd) (w:World) (hv:Nds w v l) (hu:Nds w u m) (hl:l.length≤500000) (hm:m.length≤500000) :
    Calls Tryz.prog 132 #[.agg #[.int .i64 x.k,.string x.n,.int .i64 x.s],v,u] w fun e w'=>∃ y,e=.returned y∧Nds w' y (x::(l++m))∧Below w.heap.size w w':=
  (twoR_own x v u l m w hv hu hl hm).mono fun _ _ ⟨y,he,ho,hb⟩=>⟨y,he,Ap.Rd.owned ho,hb⟩
def Own1 (base:Nat) (out:Option Nat) (w:World) (a:Value) (r:List Nd):Prop:=
  Ap.RdO (fun g=>base≤g∧some g≠out) w 3 a r.length (cls r)∧∀ b off cap,a=.slice (some ⟨b,off,none⟩) r.length cap→∀ j,j<r.length*3→w.frozen? ⟨b,off+j,none⟩=false
def OwnC (base:Nat) (out:Option Nat) (w:World):List Value→List (List Nd)→Prop
  | [],[]=>True
  | a::cs,r::rs=>Own1 base out w a r∧OwnC base out w cs rs
  | _,_=>False
def blk:Value→Option Nat
  | .slice (some a) _ _=>some a.block
  | _=>none
def KidsPost (ls:List (List Nd)) (w:World) (e:Ending) (w':World):Prop:=
  ∃ y cs,e=.returned y∧Ap.RdO (fun g=>w.heap.size≤g) w' 1 y ls.length cs∧OwnC w.heap.size (blk y) w' cs ls∧Below w.heap.size w w'
theorem OwnC.rwc {base:Nat} {out:Option Nat} {w:World}:∀ {cs:List Value} {ls:List (List Nd)},OwnC base out w cs ls→RwC w cs ls
  | [],[],_=>trivial
  | _::_,_::_,h=>⟨h.1.1.rd,OwnC.rwc h.2⟩
  | [],_::_,h=>h.elim
  | _::_,[],h=>h.elim
end Rw
end Go.Proofs.YtpingbiibbmcaaaGreatDoor
