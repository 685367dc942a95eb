/- Laws that the last text leans on. -/
import Derived.Test.YtpingbiibbmcaaaGreatDoorQ11
import Derived.Deep.RegionLaw

set_option maxRecDepth 20000
set_option maxHeartbeats 4000000
namespace Go.Proofs.YtpingbiibbmcaaaGreatDoor
namespace Pl
open Go Rw YtpingbiibbmcaaaGreatDoor.So
theorem front {c n d:Nat} {r:List Nd} (h:S (c+1) r=some (n,d)):∃ n1 d1 n2 d2,T r=some (n1,d1)∧S c (r.drop n1)=some (n2,d2)∧n=n1+n2:=by
  rw [Rx.y4z] at h
  cases h1:T r with
  | none=>rw [h1] at h; cases h
  | some x=>
    obtain ⟨n1,d1⟩:=x;rw [h1] at h;simp only at h
    cases h2:S c (r.drop n1) with
    | none=>rw [h2] at h; cases h
    | some y=>
      obtain ⟨n2,d2⟩:=y;rw [h2] at h;simp only [Option.some.injEq,Prod.mk.injEq] at h;exact ⟨n1,d1,n2,d2,rfl,h2,h.1.symm⟩
def Ch (l:List Nd):Nat→List Nat→List Nat→Prop
  | e,[],[]=>e=l.length
  | e,a::ab,c::st=>(∃ n d,S c (l.drop e)=some (n,d)∧e+n=a+zz l a)∧Ch l (a+zz l a) ab st
  | _,[],_::_=>False
  | _,_::_,[]=>False
theorem Ch.le {l:List Nd}:∀ {ab st:List Nat} {e:Nat},Ch l e ab st→∀ x∈ab,e≤x+zz l x
  | [],_,_,_,x,hx=>by cases hx
  | _::_,[],_,h,_,_=>h.elim
  | a::ab,c::st,e,h,x,hx=>by
    obtain ⟨⟨n,d,_,h2⟩,h3⟩:=h
    rcases List.mem_cons.1 hx with rfl | hx
    · omega
    · have:=h3.le x hx;omega
theorem Ch.zero {l:List Nd} {ab st:List Nat} {e a:Nat} (h:Ch l e (a::ab) (0::st)):a+zz l a=e∧Ch l e ab st:=by
  obtain ⟨⟨n,d,h1,h2⟩,h3⟩:=h;rw [z2z] at h1
  cases h1
  exact ⟨by omega,by rw [show e=a+zz l a by omega]; exact h3⟩
theorem Ch.succ {l:List Nd} {ab st:List Nat} {e a c:Nat} (h:Ch l e (a::ab) ((c+1)::st)):e<l.length∧e<a+zz l a∧Ch l (e+zz l e) (a::ab) (c::st):=by
  obtain ⟨⟨n,d,h1,h2⟩,h3⟩:=h;obtain ⟨n1,d1,n2,d2,g1,g2,rfl⟩:=front h1;obtain ⟨z1,_⟩:=y7u g1;obtain ⟨b1,b2,_⟩:=T_bd g1;rw [List.length_drop] at b2;refine ⟨by omega,by omega,⟨n2,d2,?_,by omega⟩,h3⟩;rw [z1,← List.drop_drop];exact g2
theorem Ch.push {l:List Nd} (ht:Tre l) {k:Nat} (hk:k<l.length) {ab st:List Nat} (h:Ch l (k+zz l k) ab st):Ch l (k+1) (k::ab) ((Rw.ar l[k].k).toNat::st):=by
  obtain ⟨h1,h2,h3⟩:=y9v ht hk;rw [List.drop_eq_getElem_cons hk,z2j] at h1
  split at h1
  · cases h1
  · cases hs:S (Rw.ar l[k].k).toNat (l.drop (k+1)) with
    | none=>rw [hs] at h1; cases h1
    | some x=>
      obtain ⟨c,d⟩:=x;rw [hs] at h1;simp only [Option.some.injEq,Prod.mk.injEq] at h1;exact ⟨⟨c,d,hs,by omega⟩,h⟩
theorem ar_tree {l:List Nd} (ht:Tre l) {k:Nat} (hk:k<l.length):0≤Rw.ar l[k].k:=by
  obtain ⟨h1,h2,h3⟩:=y9v ht hk;rw [List.drop_eq_getElem_cons hk,z2j] at h1
  split at h1
  · cases h1
  · omega
structure Op (l:List Nd) (k:Nat) (ab st:List Nat):Prop where
  eq:ab=ov l k
  len:st.length=ab.length
  ch:Ch l (k+zz l k) ab.reverse st.reverse
structure Pp (l:List Nd) (k g:Nat) (ab st:List Nat):Prop where
  len:st.length=ab.length
  ch:Ch l (k+1) (ab.take g).reverse (st.take g).reverse
  eq:ov l (k+1)=(ab.take g).filter fun j=>decide (k+1<j+zz l j)
theorem Op.start {l:List Nd} (ht:Tre l):Op l 0 [] []:=⟨rfl,rfl,by rw [zz_zero ht,Nat.zero_add]; rfl⟩
theorem Op.push {l:List Nd} (ht:Tre l) {k:Nat} (hk:k<l.length) {ab st:List Nat} (h:Op l k ab st) {r n:Nat} (hr:Rw.ar l[k].k=(r:Int)) (hn:n=ab.length):Pp l k (n+1) (ab++[k]) (st++[r]):=by
  subst hn;have h1:(ab++[k]).take (ab.length+1)=ab++[k]:=List.take_of_length_le (by simp);have h2:(st++[r]).take (ab.length+1)=st++[r]:=List.take_of_length_le (by simp [h.len]);refine ⟨by simp [h.len],?_,?_⟩
  · rw [h1,h2,List.reverse_append,List.reverse_append];have:=h.ch.push ht hk;rw [hr] at this;exact this
  · rw [h1,List.filter_append,h.eq];unfold ov;rw [List.range_succ,List.filter_append,List.filter_filter]
    congr 1
    refine List.filter_congr fun j _=>?_
    rw [Bool.eq_iff_iff];simp;omega
theorem z5y {ab:List Nat} {i:Nat} (h:i<ab.length):(ab.take (i+1)).reverse=ab[i]::(ab.take i).reverse:=by
  rw [List.take_succ_eq_append_getElem h,List.reverse_append]
  rfl
theorem Pp.zero {l:List Nd} {k i:Nat} {ab st:List Nat} (h:Pp l k (i+1) ab st) (hi:i<st.length) (h0:st[i]=0):Pp l k i ab st:=by
  have hc:=h.ch;rw [z5y hi,z5y (by rw [← h.len]; exact hi),h0] at hc;obtain ⟨h1,h2⟩:=hc.zero;refine ⟨h.len,h2,?_⟩;rw [h.eq,List.take_succ_eq_append_getElem (by rw [← h.len]; exact hi),List.filter_append]
  have:List.filter (fun j=>decide (k+1<j+zz l j)) [ab[i]'(by rw [← h.len]; exact hi)]=[]:=by
    simp;omega
  rw [this,List.append_nil]
theorem Pp.none {l:List Nd} {k:Nat} {ab st:List Nat} (h:Pp l k 0 ab st):k+1=l.length:=by
  have:=h.ch;simp only [List.take_zero,List.reverse_nil] at this;exact this
theorem Pp.some {l:List Nd} {k i c:Nat} {ab st:List Nat} (h:Pp l k (i+1) ab st) (hi:i<st.length) (h0:st[i]=c+1):k+1<l.length∧Op l (k+1) (ab.take (i+1)) (st.take i++[c]):=by
  have hl:=h.len;have hc:=h.ch;rw [z5y hi,z5y (by omega),h0] at hc;obtain ⟨h1,h2,h3⟩:=hc.succ;refine ⟨h1,?_,?_,?_⟩
  · rw [h.eq,List.filter_eq_self.2];intro x hx;rw [decide_eq_true_eq];rw [List.take_succ_eq_append_getElem (by omega),List.mem_append,List.mem_singleton] at hx
    rcases hx with hx | rfl
    · have:=h3.2.le x (by rwa [List.mem_reverse]);omega
    · exact h2
  · simp;omega
  · rw [List.reverse_append,z5y (by omega)];exact h3
end Pl
namespace Rw
open Go Go.RowKit
def deepest:List (List Nd)→Nat
  | []=>0
  | r::rs=>max (depth r) (deepest rs)
theorem RwC.at {w:World}:∀ {cs:List Value} {ls:List (List Nd)},RwC w cs ls→∀ i (h:i<ls.length),∃ a,cs[i]?=some a∧Nds w a ls[i]
  | [],[],_,i,h=>by simp at h
  | a::_,_::_,hr,0,_=>⟨a,rfl,hr.1⟩
  | _::cs,_::ls,hr,i+1,h=>by
    obtain ⟨a,h1,h2⟩:=RwC.at hr.2 i (by simpa using h);exact ⟨a,by simpa using h1,by simpa using h2⟩
  | [],_::_,h,_,_=>h.elim
  | _::_,[],h,_,_=>h.elim
def AtR (w:World) (b off:Nat) (ls:List (List Nd)):Prop:=∀ i,(h:i<ls.length)→∃ a,w.cell? ⟨b,off+i,none⟩=some a∧Nds w a ls[i]
theorem Rws.form {w:World} {v:Value} {ls:List (List Nd)} (h:Rws w v ls) :
    (ls=[]∧∃ a cap,v=.slice a 0 cap)∨∃ b off cap,v=.slice (some ⟨b,off,none⟩) ls.length cap∧AtR w b off ls:=by
  obtain ⟨cs,⟨_,a,cap,rfl,hle,_,hcell⟩,hr⟩:=h
  by_cases h0:0<ls.length
  · obtain ⟨b,off,rfl,hj⟩:=hcell h0;refine Or.inr ⟨b,off,cap,rfl,fun i hi=>?_⟩;obtain ⟨a,h1,h2⟩:=hr.at i hi;exact ⟨a,hj _ _ h1,h2⟩
  · have:ls=[]:=List.eq_nil_of_length_eq_zero (by omega);subst this;exact Or.inl ⟨rfl,a,cap,rfl⟩
structure Kr (w0:World) (v:Value) (l:List Nd) (b o:Nat) (ls:List (List Nd)) (w:World):Prop where
  kp:Kp w0 v l w
  at':AtR w b o ls
end Rw
namespace So
open Go Go.RowKit Rw
def onB (l:List Nd) (p:Bool):Bool:=if p then of l==2||of l==4 else of l==1||of l==3
def rightB (l:List Nd):Bool:=(of l==1)&&(decide (l.length≤60)&&decide (depth l≤16))
theorem y8q (l:List Nd) (v:Value) (w:World) (hv:Nds w v l) (hl:l.length≤1000) (hm:Nms l):Calls Tryz.prog 65 #[v] w fun e w'=>e=.returned (.bool (rightB l))∧Below w.heap.size w w':=by
  have HV:=Lib.hid hv;have HC:=Lib.hid (fun w h=>y9c l v w h hl hm);have hr:rightB l=((of l==1)&&(decide (l.length≤60)&&decide (depth l≤16))):=rfl;obtain ⟨z,hzz⟩:∃ z,of l=z:=⟨_,rfl⟩
  rw [hzz] at hr HC;rw [hr];obtain ⟨_,a,cap,rfl,-⟩:=hv;clear hm hzz hr
  by_cases h1:z=1
  · subst h1;rw [beq_self_eq_true,Bool.true_and]
    by_cases h2:l.length≤60
    · rw [decide_eq_true h2,Bool.true_and];obtain ⟨d,hd⟩:∃ d,depth l=d:=⟨_,rfl⟩
      have HD:=Lib.hid hd;rw [hd];clear hd
      go_enter Tryz.func65,Tryz.ntmps65
      go_wp2_with fail;refine (HC.out _ HV.out).mono ?_;rintro e w1 ⟨rfl,hb⟩;have HV1:=Lib.hid (HV.out.below hb);have HB:=Lib.hid hb;clear hb;go_wp2_with fail;refine (y2g _ l _ HV1.out (by omega)).mono ?_;rw [HD.out];rintro e w2 ⟨rfl,rfl⟩;go_wp2_with fail;go_ret;exact ⟨ret_bool (decide_eq_decide.2 (by omega)),HB.out⟩
    · have g2:decide (l.length≤60)=false:=decide_eq_false h2;rw [g2,Bool.false_and]
      go_enter Tryz.func65,Tryz.ntmps65
      go_wp2_with fail;refine (HC.out _ HV.out).mono ?_;rintro e w1 ⟨rfl,hb⟩;go_wp2_with fail;go_ret;exact ⟨rfl,hb⟩
  · have g1:((z:Int)==1)=false:=by rw [beq_eq_false_iff_ne]; omega
    have g2:(z==1)=false:=by rw [beq_eq_false_iff_ne]; omega
    rw [g2,Bool.false_and];clear g2
    go_enter Tryz.func65,Tryz.ntmps65
    go_wp2_with fail;refine (HC.out _ HV.out).mono ?_;rintro e w1 ⟨rfl,hb⟩;go_wp2_with fail;go_ret;exact ⟨rfl,hb⟩
end So
namespace So
open Go Rw
theorem eq_1_1 {l:List Nd} (h:hd l=1):Is 1 l=true:=by
  rw [z1y];unfold plainB;rw [h]
  rfl
theorem eq_1_2 {l:List Nd} (h:hd l=1):Is 2 l=false:=by
  rw [z1x];unfold pairedB;rw [h]
  rfl
theorem eq_1_3 {l:List Nd} (h:hd l=1):Is 3 l=(true||false):=by
  rw [z0x];unfold plainB plainOnB;rw [h]
  rfl
theorem eq_1_4 {l:List Nd} (h:hd l=1):Is 4 l=(false||false):=by
  rw [z1i];unfold pairedB pairedOnB;rw [h]
  rfl
theorem eq_2_1 {l:List Nd} (h:hd l=2):Is 1 l=true:=by
  rw [z1y];unfold plainB;rw [h]
  rfl
theorem eq_2_2 {l:List Nd} (h:hd l=2):Is 2 l=false:=by
  rw [z1x];unfold pairedB;rw [h]
  rfl
theorem eq_2_3 {l:List Nd} (h:hd l=2):Is 3 l=(true||false):=by
  rw [z0x];unfold plainB plainOnB;rw [h]
  rfl
theorem eq_2_4 {l:List Nd} (h:hd l=2):Is 4 l=(false||false):=by
  rw [z1i];unfold pairedB pairedOnB;rw [h]
  rfl
theorem eq_3_1 {l:List Nd} (h:hd l=3):Is 1 l=true:=by
  rw [z1y];unfold plainB;rw [h]
  rfl
theorem eq_3_2 {l:List Nd} (h:hd l=3):Is 2 l=false:=by
  rw [z1x];unfold pairedB;rw [h]
  rfl
theorem eq_3_3 {l:List Nd} (h:hd l=3):Is 3 l=(true||false):=by
  rw [z0x];unfold plainB plainOnB;rw [h]
  rfl
theorem eq_3_4 {l:List Nd} (h:hd l=3):Is 4 l=(false||false):=by
  rw [z1i];unfold pairedB pairedOnB;rw [h]
  rfl
theorem eq_4_1 {l:List Nd} (h:hd l=4):Is 1 l=true:=by
  rw [z1y];unfold plainB;rw [h]
  rfl
theorem eq_4_2 {l:List Nd} (h:hd l=4):Is 2 l=false:=by
  rw [z1x];unfold pairedB;rw [h]
  rfl
theorem eq_4_3 {l:List Nd} (h:hd l=4):Is 3 l=(true||false):=by
  rw [z0x];unfold plainB plainOnB;rw [h]
  rfl
theorem eq_4_4 {l:List Nd} (h:hd l=4):Is 4 l=(false||false):=by
  rw [z1i];unfold pairedB pairedOnB;rw [h]
  rfl
theorem eq_5_1 {l:List Nd} (h:hd l=5):Is 1 l=(Is 1 (k0 l)&&Is 1 (k1 l)):=by
  rw [z1y];unfold plainB;rw [h]
  rfl
theorem eq_5_2 {l:List Nd} (h:hd l=5):Is 2 l=(Is 2 (k0 l)&&Is 2 (k1 l)):=by
  rw [z1x];unfold pairedB;rw [h]
  rfl
theorem v2r {l:List Nd} (h:hd l=5):Is 3 l=((Is 1 (k0 l)&&Is 1 (k1 l))||(Is 3 (k0 l)&&Is 1 (k1 l))):=by
  rw [z0x];unfold plainB plainOnB;rw [h]
  rfl
theorem eq_5_4 {l:List Nd} (h:hd l=5):Is 4 l=((Is 2 (k0 l)&&Is 2 (k1 l))||(Is 4 (k0 l)&&Is 2 (k1 l))):=by
  rw [z1i];unfold pairedB pairedOnB;rw [h]
  rfl
theorem eq_6_1 {l:List Nd} (h:hd l=6):Is 1 l=(Is 1 (k0 l)&&Is 1 (k1 l)):=by
  rw [z1y];unfold plainB;rw [h]
  rfl
theorem eq_6_2 {l:List Nd} (h:hd l=6):Is 2 l=(Is 2 (k0 l)&&Is 2 (k1 l)):=by
  rw [z1x];unfold pairedB;rw [h]
  rfl
theorem eq_6_3 {l:List Nd} (h:hd l=6):Is 3 l=((Is 1 (k0 l)&&Is 1 (k1 l))||false):=by
  rw [z0x];unfold plainB plainOnB;rw [h]
  rfl
theorem eq_6_4 {l:List Nd} (h:hd l=6):Is 4 l=((Is 2 (k0 l)&&Is 2 (k1 l))||false):=by
  rw [z1i];unfold pairedB pairedOnB;rw [h]
  rfl
theorem eq_7_1 {l:List Nd} (h:hd l=7):Is 1 l=(Is 1 (k0 l)&&Is 1 (k1 l)):=by
  rw [z1y];unfold plainB;rw [h]
  rfl
theorem eq_7_2 {l:List Nd} (h:hd l=7):Is 2 l=(Is 2 (k0 l)&&Is 2 (k1 l)):=by
  rw [z1x];unfold pairedB;rw [h]
  rfl
theorem eq_7_3 {l:List Nd} (h:hd l=7):Is 3 l=((Is 1 (k0 l)&&Is 1 (k1 l))||(Is 3 (k0 l)&&Is 3 (k1 l))):=by
  rw [z0x];unfold plainB plainOnB;rw [h]
  rfl
theorem eq_7_4 {l:List Nd} (h:hd l=7):Is 4 l=((Is 2 (k0 l)&&Is 2 (k1 l))||(Is 4 (k0 l)&&Is 4 (k1 l))):=by
  rw [z1i];unfold pairedB pairedOnB;rw [h]
  rfl
theorem eq_8_1 {l:List Nd} (h:hd l=8):Is 1 l=(Is 1 (k0 l)&&Is 1 (k1 l)):=by
  rw [z1y];unfold plainB;rw [h]
  rfl
theorem eq_8_2 {l:List Nd} (h:hd l=8):Is 2 l=false:=by
  rw [z1x];unfold pairedB;rw [h]
  rfl
theorem eq_8_3 {l:List Nd} (h:hd l=8):Is 3 l=((Is 1 (k0 l)&&Is 1 (k1 l))||(Is 3 (k0 l)&&Is 1 (k1 l))):=by
  rw [z0x];unfold plainB plainOnB;rw [h]
  rfl
theorem eq_8_4 {l:List Nd} (h:hd l=8):Is 4 l=(false||false):=by
  rw [z1i];unfold pairedB pairedOnB;rw [h]
  rfl
theorem eq_9_1 {l:List Nd} (h:hd l=9):Is 1 l=Is 2 (k0 l):=by
  rw [z1y];unfold plainB;rw [h]
  rfl
theorem eq_9_2 {l:List Nd} (h:hd l=9):Is 2 l=false:=by
  rw [z1x];unfold pairedB;rw [h]
  rfl
theorem eq_9_3 {l:List Nd} (h:hd l=9):Is 3 l=(Is 2 (k0 l)||Is 4 (k0 l)):=by
  rw [z0x];unfold plainB plainOnB;rw [h]
  rfl
theorem eq_9_4 {l:List Nd} (h:hd l=9):Is 4 l=(false||false):=by
  rw [z1i];unfold pairedB pairedOnB;rw [h]
  rfl
theorem eq_10_1 {l:List Nd} (h:hd l=10):Is 1 l=false:=by
  rw [z1y];unfold plainB;rw [h]
  rfl
theorem v3f {l:List Nd} (h:hd l=10):Is 2 l=(Is 1 (k0 l)&&Is 1 (k1 l)):=by
  rw [z1x];unfold pairedB;rw [h]
  rfl
theorem v3e {l:List Nd} (h:hd l=10):Is 3 l=(false||false):=by
  rw [z0x];unfold plainB plainOnB;rw [h]
  rfl
theorem v3d {l:List Nd} (h:hd l=10):Is 4 l=((Is 1 (k0 l)&&Is 1 (k1 l))||false):=by
  rw [z1i];unfold pairedB pairedOnB;rw [h]
  rfl
theorem v3c {l:List Nd} (h:hd l=11):Is 1 l=false:=by
  rw [z1y];unfold plainB;rw [h]
  rfl
theorem eq_11_2 {l:List Nd} (h:hd l=11):Is 2 l=false:=by
  rw [z1x];unfold pairedB;rw [h]
  rfl
theorem eq_11_3 {l:List Nd} (h:hd l=11):Is 3 l=(false||true):=by
  rw [z0x];unfold plainB plainOnB;rw [h]
  rfl
theorem v3b {l:List Nd} (h:hd l=11):Is 4 l=(false||false):=by
  rw [z1i];unfold pairedB pairedOnB;rw [h]
  rfl
theorem eq_12_1 {l:List Nd} (h:hd l=12):Is 1 l=false:=by
  rw [z1y];unfold plainB;rw [h]
  rfl
theorem v3a {l:List Nd} (h:hd l=12):Is 2 l=false:=by
  rw [z1x];unfold pairedB;rw [h]
  rfl
theorem v2z {l:List Nd} (h:hd l=12):Is 3 l=(false||false):=by
  rw [z0x];unfold plainB plainOnB;rw [h]
  rfl
theorem v2y {l:List Nd} (h:hd l=12):Is 4 l=(false||(Is 3 (k0 l)&&Is 1 (k1 l))):=by
  rw [z1i];unfold pairedB pairedOnB;rw [h]
  rfl
theorem eq_13_1 {l:List Nd} (h:hd l=13):Is 1 l=false:=by
  rw [z1y];unfold plainB;rw [h]
  rfl
theorem v2x {l:List Nd} (h:hd l=13):Is 2 l=false:=by
  rw [z1x];unfold pairedB;rw [h]
  rfl
theorem v2w {l:List Nd} (h:hd l=13):Is 3 l=(false||false):=by
  rw [z0x];unfold plainB plainOnB;rw [h]
  rfl
theorem v2v {l:List Nd} (h:hd l=13):Is 4 l=(false||(Is 4 (k0 l)&&Is 1 (k1 l))):=by
  rw [z1i];unfold pairedB pairedOnB;rw [h]
  rfl
theorem eq_14_1 {l:List Nd} (h:hd l=14):Is 1 l=false:=by
  rw [z1y];unfold plainB;rw [h]
  rfl
theorem v2u {l:List Nd} (h:hd l=14):Is 2 l=false:=by
  rw [z1x];unfold pairedB;rw [h]
  rfl
theorem v2t {l:List Nd} (h:hd l=14):Is 3 l=(false||false):=by
  rw [z0x];unfold plainB plainOnB;rw [h]
  rfl
theorem v2s {l:List Nd} (h:hd l=14):Is 4 l=(false||Is 1 (k0 l)):=by
  rw [z1i];unfold pairedB pairedOnB;rw [h]
  rfl
def on (l:List Nd):Nat:=cnt l [11,12,13,14]
theorem Tre.flat {l:List Nd} (h:Tre l):∃ x,hd l=x.k∧l=x::(Rw.kids l).flatten:=by
  have hs:=h.size;have hp:=h.pos
  cases l with
  | nil=>exact absurd hp (Nat.lt_irrefl 0)
  | cons x r=>
    refine ⟨x,rfl,?_⟩;have:=z6e (n:=x) (r:=r) (by rw [hs]; omega);rw [hs,List.take_length] at this;exact this.symm
theorem of_one {l:List Nd} (h:of l=1):whole l=true∧Is 1 l=true:=by
  unfold of first at h
  repeat' split at h
  all_goals first | (exact ⟨‹_›,‹_›⟩) | omega
theorem x1z {l:List Nd} (h:of l=3):whole l=true∧Is 3 l=true∧Is 1 l=false∧Is 2 l=false:=by
  unfold of first at h
  repeat' split at h
  all_goals first | (exact ⟨‹_›,‹_›,by simpa using ‹¬ Is 1 l=true›,by simpa using ‹¬ Is 2 l=true›⟩) | omega
end So
namespace St
open Go Go.RowKit Rw
theorem x8z (v vx:Value) (l x:List Nd) (z:Int) (w:World) (hv:Nds w v l) (hx:Nds w vx x) (hl:l.length≤1000) (h0:szA l z=0) :
    Calls Tryz.prog 195 #[v,.int .i64 z,vx] w fun e w'=>∃ y,e=.returned y∧w'.ownsRow w.heap.size 68 3 y l.length (cls l)∧Below w.heap.size w w':=by
  have HS:=Lib.hid (y1j v l z w hv hl);rw [h0] at HS;have HC:=Lib.hid (fun w1 (hb:Below w.heap.size w w1)=>Rx.y0r v l w1 (hv.below hb) (by omega));obtain ⟨_,a,c,rfl,-⟩:=id hv;obtain ⟨_,ax,cx,rfl,-⟩:=id hx;clear hv hx h0
  go_enter Tryz.func195,Tryz.ntmps195
  go_wp2_with fail;refine HS.out.mono ?_;rintro e w1 ⟨rfl,hb1⟩;have D1:=Lib.hid hb1;clear hb1;go_wp2_with fail;refine (HC.out _ D1.out).mono ?_;rintro e w2 ⟨y,rfl,hown,hb2⟩;have D2:=Lib.hid (D1.out.trans (hb2.mono D1.out.size));have O2:=Lib.hid (Ap.z3e hown D1.out.size);obtain ⟨_,ay,cy,rfl,-⟩:=id (Ap.Rd.owned hown);clear hb2 hown;go_wp2_with fail;go_ret;exact ⟨_,rfl,O2.out,D2.out⟩
theorem x8y (b o c n m N q s r:Nat) (vx:Value) (L1 x L2:List Nd) (w:World) (v:Value)
    (hvv:v=.slice (some ⟨b,o,none⟩) n c)
    (hT:∀ w1,Below w.heap.size w w1→Nds w1 (.slice (some ⟨b,o,none⟩) q c) L1) (hX:∀ w1,Below w.heap.size w w1→Nds w1 vx x) (hR:r<c→∀ w1,Below w.heap.size w w1→Nds w1 (.slice (some ⟨b,o+r*3,none⟩) (n-r) (c-r)) L2)
    (h1:L1.length=q) (h2:x.length=m) (h3:L2.length=n-r) (hqn:q<n) (hs:0<s) (hr:r=q+s) (hrn:r≤n) (hnc:n≤c) (hN:N=q+m+(n-r)) (hn:n≤1000) (hm:m≤1000)
    (hS:Calls Tryz.prog 252 #[v,.int .i64 (q:Int)] w fun e w'=>e=.returned (.int .i64 (s:Int))∧Below w.heap.size w w') :
    Calls Tryz.prog 195 #[v,.int .i64 (q:Int),vx] w fun e w'=>∃ y,e=.returned y∧w'.ownsRow w.heap.size 68 3 y (L1++x++L2).length (cls (L1++x++L2))∧Below w.heap.size w w':=by
  obtain ⟨i0,hi0,hz0,hs0,hb0⟩:=info_parts infoN;subst hvv;have HS:=Lib.hid hS;have HT:=Lib.hid hT;have HX:=Lib.hid hX;have HR:=Lib.hid hR;have hmax:N≤maxLen:=by unfold maxLen; omega
  obtain ⟨_,ax,cx,rfl,-⟩:=id (hX w (Below.refl _ _));have F1:=Lib.hid h1;have F2:=Lib.hid h2;have F3:=Lib.hid h3;have HOF:=Lib.hid (fun w' (g base:Nat) (cur:List Value) (hb:base≤g) (hc:cur.length=N*3) hg=>x5m (w:=w') (g:=g) (base:=base) (N:=N) (cur:=cur) L1 x L2 (by omega) hc hmax hb hg);rw [h1,h2] at HOF;rw [h2];have eN:(n:Int)-(s:Int)+(m:Int)=(N:Int):=by omega
  have eR:(q:Int)+(s:Int)=(r:Int):=by omega
  have hqN:q≤N:=by omega
  have hqmN:q+m≤N:=by omega
  have gs:((s:Int)==0)=false:=beq_eq_false_iff_ne.2 (by omega);have hN1:N≤10000:=by omega
  obtain ⟨p,hp⟩:∃ p,q+m=p:=⟨_,rfl⟩
  have hwp:IntKind.i64.wrap ((q:Int)+(m:Int))=(p:Int):=by rw [IntKind.wrap_i64]; omega
  have hwr:IntKind.i64.wrap (r:Int)=(r:Int):=by rw [IntKind.wrap_i64]; omega
  rw [hp] at HOF hqmN;have HP:=Lib.hid hp;have HN:=Lib.hid hN;have HR1:=Lib.hid hr;clear hS hT hX hR h1 h2 h3 hN hr hp
  go_enter Tryz.func195,Tryz.ntmps195
  go_wp2_with fail;refine HS.out.mono ?_;rintro e w1 ⟨rfl,hb1⟩;have D1:=Lib.hid hb1;clear hb1;go_wp2_with (at_make; refine wpList_make_full _ rfl _ _ 22 rfl w1.heap.size 68 i0 _ 3 Tryz.underlying22 hi0 hz0 hs0 .i64 .i64 _ _ N rfl rfl rfl rfl (by rw [hb0]; omega) hmax (Nat.le_refl _) ?_; intro w2 hown2 hgrow2);obtain ⟨cur,hcur,hblk⟩:=x5t hown2;have hb2:=(Below.refl w1.heap.size w1).grown hgrow2 (Nat.le_refl _) (fun k hk=>by cases hk);have D2:=Lib.hid (D1.out.trans (hb2.mono D1.out.size));obtain ⟨g,hg⟩:∃ g,w1.heap.size=g:=⟨_,rfl⟩
  have hwg:w.heap.size≤g:=by rw [← hg]; exact D1.out.size
  rw [hg] at hblk ⊢;have HB:=Lib.hid hblk;have HC:=Lib.hid hcur;clear hblk hown2 hgrow2 hb2 hcur hg;obtain ⟨w3,r3,h3,d3⟩:=y4j g 0 L1 ⟨_,HT.out _ D2.out⟩ cur HB.out (by rw [F1.out,HC.out]; omega) w.heap.size w D2.out hwg 3;have C3:Hid ((splice cur 0 (cls L1)).length=N*3):=Lib.hid (by rw [length_splice _ _ _ (by rw [z2a,F1.out,HC.out]; omega)]; exact HC.out);have e3:=Lib.hid (r3 (some ⟨g,0,none⟩) N N _ (HT.out _ D2.out) (by rw [F1.out]; exact hqN) (fun _=>rfl));obtain ⟨w4,r4,h4,d4⟩:=y4j g (q*3) x ⟨_,HX.out _ d3⟩ _ h3 (by rw [F2.out,C3.out]; omega) w.heap.size w d3 hwg 3;have C4:Hid ((splice (splice cur 0 (cls L1)) (q*3) (cls x)).length=N*3):=Lib.hid (by rw [length_splice _ _ _ (by rw [z2a,F2.out,C3.out]; omega)]; exact C3.out);have HX3:=Lib.hid (HX.out _ d3);have R4:=Lib.hid (fun dp M cap (h:x.length≤M) hd=>r4 dp M cap _ HX3.out h hd);have D4:=Lib.hid d4.drew
  obtain ⟨w5,r5,h5,d5⟩:=y4j (w:=w4.drew) g (p*3) L2 (by
      by_cases hrc:r<c
      · exact ⟨_,HR.out hrc _ D4.out⟩
      · obtain rfl:L2=[]:=List.eq_nil_of_length_eq_zero (by rw [F3.out]; omega);exact ⟨_,z8e _ ⟨b,o,none⟩ 0⟩) _ h4 (by rw [F3.out,C4.out]; have:=HN.out; have:=HP.out; omega) w.heap.size w D4.out hwg 3
  have R5:=Lib.hid r5;have D5:=Lib.hid d5;have O5:=Lib.hid (HOF.out w5 g w.heap.size cur hwg HC.out h5);rw [F2.out] at R4;rw [F3.out] at R5;clear r3 r4 r5 h3 h4 h5 d3 d4 d5 HOF C3 C4 HX3;have HRD:=Lib.hid (fun hrc=>HR.out hrc w4.drew D4.out);have E3:=e3.out;go_wp2_with fail
  all_goals rw [E3]
  all_goals clear E3
  by_cases hq1:N=q
  · obtain rfl:=hq1;obtain rfl:p=N:=by have:=HP.out; omega
    go_wp2_with fail;rw [R4.out]
    · by_cases hrc:r<c
      · have HSV:=Lib.hid (HRD.out hrc);have hrc2:¬ c=r:=by omega
        go_wp2_with fail;have E5:=Lib.hid (R5.out (some ⟨g,0,none⟩) 0 0 (.slice (some ⟨b,o+r*3,none⟩) (n-r) (c-r)) HSV.out (by have:=HN.out; have:=HP.out; omega) (by have:=HN.out; have:=HP.out; intro h0; first | omega | rfl))
        go_region_law (refine Cy.z1l rfl (.tmp 39) (.tmp 44) _ _ rfl _ _ _ (by simp [Act.eval,Act.put]) (by simp [Act.eval,Act.put]) w5 E5.out ?_)
        go_wp2_with fail;go_ret;exact ⟨_,rfl,O5.out,D5.out⟩
      · obtain rfl:r=n:=by omega
        obtain rfl:r=c:=by omega
        obtain rfl:L2=[]:=List.eq_nil_of_length_eq_zero (by rw [F3.out]; omega);rw [Nat.sub_self] at R5;go_wp2_with fail;have E5:=Lib.hid (R5.out (some ⟨g,0,none⟩) 0 0 (.slice (some ⟨b,o,none⟩) 0 0) (z8e _ _ _) (by have:=HN.out; have:=HP.out; omega) (by have:=HN.out; have:=HP.out; intro h0; first | omega | rfl))
        go_region_law (refine Cy.z1l rfl (.tmp 39) (.tmp 44) _ _ rfl _ _ _ (by simp [Act.eval,Act.put]) (by simp [Act.eval,Act.put]) w5 E5.out ?_)
        go_wp2_with fail;go_ret;exact ⟨_,rfl,O5.out,D5.out⟩
    · have:=HN.out; have:=HP.out; omega
    · intro h0;have:=HN.out; have:=HP.out
      first | omega | rfl
  · by_cases hq2:N=p
    · obtain rfl:=hq2;go_wp2_with fail;rw [R4.out]
      · by_cases hrc:r<c
        · have HSV:=Lib.hid (HRD.out hrc);have hrc2:¬ c=r:=by omega
          go_wp2_with fail;have E5:=Lib.hid (R5.out (some ⟨g,0,none⟩) 0 0 (.slice (some ⟨b,o+r*3,none⟩) (n-r) (c-r)) HSV.out (by have:=HN.out; have:=HP.out; omega) (by have:=HN.out; have:=HP.out; intro h0; first | omega | rfl))
          go_region_law (refine Cy.z1l rfl (.tmp 39) (.tmp 44) _ _ rfl _ _ _ (by simp [Act.eval,Act.put]) (by simp [Act.eval,Act.put]) w5 E5.out ?_)
          go_wp2_with fail;go_ret;exact ⟨_,rfl,O5.out,D5.out⟩
        · obtain rfl:r=n:=by omega
          obtain rfl:r=c:=by omega
          obtain rfl:L2=[]:=List.eq_nil_of_length_eq_zero (by rw [F3.out]; omega);rw [Nat.sub_self] at R5;go_wp2_with fail;have E5:=Lib.hid (R5.out (some ⟨g,0,none⟩) 0 0 (.slice (some ⟨b,o,none⟩) 0 0) (z8e _ _ _) (by have:=HN.out; have:=HP.out; omega) (by have:=HN.out; have:=HP.out; intro h0; first | omega | rfl))
          go_region_law (refine Cy.z1l rfl (.tmp 39) (.tmp 44) _ _ rfl _ _ _ (by simp [Act.eval,Act.put]) (by simp [Act.eval,Act.put]) w5 E5.out ?_)
          go_wp2_with fail;go_ret;exact ⟨_,rfl,O5.out,D5.out⟩
      · have:=HN.out; have:=HP.out; omega
      · intro h0;have:=HN.out; have:=HP.out
        first | omega | rfl
    · go_wp2_with fail;rw [R4.out]
      · by_cases hrc:r<c
        · have HSV:=Lib.hid (HRD.out hrc);have hrc2:¬ c=r:=by omega
          go_wp2_with fail;have E5:=Lib.hid (R5.out (some ⟨g,p*3,none⟩) (N-p) (N-p) (.slice (some ⟨b,o+r*3,none⟩) (n-r) (c-r)) HSV.out (by have:=HN.out; have:=HP.out; omega) (by have:=HN.out; have:=HP.out; intro h0; first | omega | rfl))
          go_region_law (refine Cy.z1l rfl (.tmp 39) (.tmp 44) _ _ rfl _ _ _ (by simp [Act.eval,Act.put]) (by simp [Act.eval,Act.put]) w5 E5.out ?_)
          go_wp2_with fail;go_ret;exact ⟨_,rfl,O5.out,D5.out⟩
        · obtain rfl:r=n:=by omega
          obtain rfl:r=c:=by omega
          obtain rfl:L2=[]:=List.eq_nil_of_length_eq_zero (by rw [F3.out]; omega);rw [Nat.sub_self] at R5;go_wp2_with fail;have E5:=Lib.hid (R5.out (some ⟨g,p*3,none⟩) (N-p) (N-p) (.slice (some ⟨b,o,none⟩) 0 0) (z8e _ _ _) (by have:=HN.out; have:=HP.out; omega) (by have:=HN.out; have:=HP.out; intro h0; first | omega | rfl))
          go_region_law (refine Cy.z1l rfl (.tmp 39) (.tmp 44) _ _ rfl _ _ _ (by simp [Act.eval,Act.put]) (by simp [Act.eval,Act.put]) w5 E5.out ?_)
          go_wp2_with fail;go_ret;exact ⟨_,rfl,O5.out,D5.out⟩
      · have:=HN.out; have:=HP.out; omega
      · intro h0;have:=HN.out; have:=HP.out
        first | omega | rfl
end St
namespace Sx
open Go Go.RowKit Rw YtpingbiibbmcaaaGreatDoor.So
def FirstC (m:Nat):Prop:=∀ (L R:List Nd) (w0 w:World) (v:Value),L.length<m→Tre L→Nds w0 v (L++R)→Below w0.heap.size w0 w→
  Calls Tryz.prog 200 #[v] w fun e w'=>∃ y,e=.returned (.tuple #[.int .i64 (So.first L),y])∧Nds w0 y R∧Below w.heap.size w w'
structure Loc (w wx:World) (n:Nd) (x0 x1:Int):Prop where
  bel:Below w.heap.size w wx
  sz:w.heap.size+1<wx.heap.size
  c0:wx.cell? ⟨w.heap.size,0,none⟩=some (.int .i64 n.k)
  k0:wx.cell? ⟨w.heap.size+1,0,none⟩=some (.int .i64 x0)
  k1:wx.cell? ⟨w.heap.size+1,1,none⟩=some (.int .i64 x1)
  f0:wx.frozen? ⟨w.heap.size+1,0,none⟩=false
  f1:wx.frozen? ⟨w.heap.size+1,1,none⟩=false
theorem Loc.below {w wx wy:World} {n:Nd} {x0 x1:Int} (h:Loc w wx n x0 x1) (hb:Below wx.heap.size wx wy):Loc w wy n x0 x1:=by
  have hs:=h.sz
  exact ⟨h.bel.trans (hb.mono h.bel.size),Nat.lt_of_lt_of_le h.sz hb.size,by rw [hb.cell (p:=⟨w.heap.size,0,none⟩) (by show w.heap.size<_; omega)]; exact h.c0,
    by rw [hb.cell (p:=⟨w.heap.size+1,0,none⟩) hs]; exact h.k0,by rw [hb.cell (p:=⟨w.heap.size+1,1,none⟩) hs]; exact h.k1,
    by rw [hb.frozen (p:=⟨w.heap.size+1,0,none⟩) hs]; exact h.f0,by rw [hb.frozen (p:=⟨w.heap.size+1,1,none⟩) hs]; exact h.f1⟩
theorem Loc.start (w:World) (n:Nd):Loc w ((w.alloc (.cells #[.int .i64 n.k,.string n.n,.int .i64 n.s] 68)).alloc (.cells #[.int .i64 0,.int .i64 0] 251)).drew n 0 0:=by
  constructor
  · exact (((Below.refl _ _).alloc (Nat.le_refl _) _).alloc (by simp) _).drew
  all_goals simp
theorem x1l (w:World) (p:Addr) (v:Value):(w.setCell p v).heap.size=w.heap.size:=by simp [World.setCell]
theorem Loc.set0 {w wx:World} {n:Nd} {x0 x1:Int} (h:Loc w wx n x0 x1) (y:Int):Loc w (wx.setCell ⟨w.heap.size+1,0,none⟩ (.int .i64 y)) n y x1:=by
  have hs:=h.sz;obtain ⟨h1,h2,h3,h4,h5,h6,h7⟩:=h
  exact ⟨h1.setCell (by show w.heap.size≤w.heap.size+1; omega) _,(by rw [x1l]; exact h2),(by rw [World.cell?_setCell_other _ _ _ _ (by intro e; injection e with e1 e2; omega)]; exact h3),
    World.cell?_setCell_same _ _ _ h4,(by rw [World.cell?_setCell_other _ _ _ _ (by intro e; injection e with e1 e2; omega)]; exact h5),(by rw [World.frozen?_setCell]; exact h6),(by rw [World.frozen?_setCell]; exact h7)⟩
theorem Loc.set1 {w wx:World} {n:Nd} {x0 x1:Int} (h:Loc w wx n x0 x1) (y:Int):Loc w (wx.setCell ⟨w.heap.size+1,1,none⟩ (.int .i64 y)) n x0 y:=by
  have hs:=h.sz;obtain ⟨h1,h2,h3,h4,h5,h6,h7⟩:=h
  exact ⟨h1.setCell (by show w.heap.size≤w.heap.size+1; omega) _,(by rw [x1l]; exact h2),(by rw [World.cell?_setCell_other _ _ _ _ (by intro e; injection e with e1 e2; omega)]; exact h3),
    (by rw [World.cell?_setCell_other _ _ _ _ (by intro e; injection e with e1 e2; omega)]; exact h4),World.cell?_setCell_same _ _ _ h5,(by rw [World.frozen?_setCell]; exact h6),(by rw [World.frozen?_setCell]; exact h7)⟩
theorem y2l {w:World} {b o c:Nat} {n:Nd} {R:List Nd} (h:At w b o (n::R)) (hc:(n::R).length≤c) :
    ∃ a,(if c=1 then some (⟨b,o,none⟩:Addr) else some ⟨b,o+3,none⟩)=a∧Nds w (.slice a R.length (c-1)) R:=by
  refine ⟨_,rfl,?_⟩;have hl:R.length+1≤c:=hc
  split
  · rename_i h0
    have:R=[]:=List.eq_nil_of_length_eq_zero (by omega);subst this;exact ⟨rfl,_,_,rfl,by simp,fun h=>(by cases h),fun h=>absurd h (Nat.lt_irrefl 0)⟩
  · have:=z3d h 1 R.length (c-1) (by simp; omega) (by omega)
    simpa using this
theorem z6t {z z':Nat} {y:Value} (h:z=z'):Ending.returned (.tuple #[.int .i64 (z':Int),y])=Ending.returned (.tuple #[.int .i64 (z:Int),y]):=by rw [h]
theorem first0 (L R:List Nd) (w0 w:World) (v:Value) (h:Tre L) (h0:Rw.ar (hd L)=0) (hv:Nds w0 v (L++R)) (hw:Below w0.heap.size w0 w) :
    Calls Tryz.prog 200 #[v] w fun e w'=>∃ y,e=.returned (.tuple #[.int .i64 (So.first L),y])∧Nds w0 y R∧Below w.heap.size w w':=by
  obtain ⟨n,hn,rfl,hf⟩:=parts0 h h0;rw [hn] at h0;have H0:=Lib.hid h0;have HF:=Lib.hid hf;have HK:=Lib.hid (show 0≤Rw.ar n.k by rw [h0]; decide)
  rcases hv.form with ⟨hx,_⟩ | ⟨b0,o,c,rfl,hc,hat⟩
  · cases hx
  have hz:[n]++R=n::R:=by simp
  rw [hz] at hat hc ⊢;obtain ⟨e1,e2,e3⟩:=hat 0 (by simp);rw [Nat.zero_mul,Nat.add_zero] at e1 e2 e3;simp only [List.getElem_cons_zero] at e1 e2 e3;rw [← hw.cell (Ap.z0a e1)] at e1;rw [← hw.cell (Ap.z0a e2)] at e2;rw [← hw.cell (Ap.z0a e3)] at e3;have HW:=Lib.hid hw;obtain ⟨a1,hsl,hnd⟩:=y2l hat hc;have ND:=Lib.hid hnd;have HL:=Lib.hid (Loc.start w n);rw [List.length_cons];obtain ⟨N,hN⟩:∃ N,R.length=N:=⟨_,rfl⟩
  rw [hN] at ND ⊢;obtain ⟨F,hF⟩:∃ F,So.first [n]=F:=⟨_,rfl⟩
  rw [hF] at HF ⊢;have g1:(1:Int)≤(N:Int)+1:=by omega
  have lt:b0<w.heap.size:=Ap.z0a e1;clear hat hc hnd hz hN hF hn hf h0 h hv hw
  go_enter Tryz.func200,Tryz.ntmps200
  go_wp2_with fail
  go_region
  go_wp2_with fail;refine (Rx.z6o n.k _).mono ?_;rw [H0.out];rintro e w' ⟨rfl,rfl⟩;go_wp2_with fail;refine Go.wp_loop_rounds 1 ?_;rw [rounds_succ];go_wp2_with fail;refine (x0a n.k 0 0 _ HK.out (by omega) (by omega) (fun _=>rfl) (fun _=>rfl)).mono ?_;rintro e w' ⟨rfl,rfl⟩
  cases hq:fit n.k 0 0 with
  | false=>
    have HZ:Hid (F=0):=by
      show _=_
      rw [HF.out];unfold comb;rw [hq]
      rfl
    clear hq;go_wp2_with fail;go_ret2;exact ⟨_,z6t HZ.out,ND.out,HL.out.bel⟩
  | true=>
    have HZ:Hid (F=made n.k 0 0):=by
      show _=_
      rw [HF.out];unfold comb;rw [hq]
      rfl
    clear hq;go_wp2_with fail;refine (y3r n.k 0 0 _ HK.out (by omega)).mono ?_;rintro e w' ⟨rfl,rfl⟩;go_wp2_with fail;go_ret2;exact ⟨_,z6t HZ.out,ND.out,HL.out.bel⟩
theorem first1 (m:Nat) (IH:FirstC m) (L R:List Nd) (w0 w:World) (v:Value) (hm:L.length≤m) (h:Tre L) (h0:Rw.ar (hd L)=1) (hv:Nds w0 v (L++R)) (hw:Below w0.heap.size w0 w) :
    Calls Tryz.prog 200 #[v] w fun e w'=>∃ y,e=.returned (.tuple #[.int .i64 (So.first L),y])∧Nds w0 y R∧Below w.heap.size w w':=by
  obtain ⟨n,a,hn,rfl,hta,hf⟩:=parts1 h h0;rw [hn] at h0;have H0:=Lib.hid h0;have HF:=Lib.hid hf;have HK:=Lib.hid (show 0≤Rw.ar n.k by rw [h0]; decide);have HTA:=Lib.hid hta;have HA4:=Lib.hid (z6k a);have la:a.length<m:=by simp at hm; omega
  rcases hv.form with ⟨hx,_⟩ | ⟨b0,o,c,rfl,hc,hat⟩
  · cases hx
  have hz:(n::a)++R=n::(a++R):=by simp
  rw [hz] at hat hc ⊢;obtain ⟨e1,e2,e3⟩:=hat 0 (by simp);rw [Nat.zero_mul,Nat.add_zero] at e1 e2 e3;simp only [List.getElem_cons_zero] at e1 e2 e3;rw [← hw.cell (Ap.z0a e1)] at e1;rw [← hw.cell (Ap.z0a e2)] at e2;rw [← hw.cell (Ap.z0a e3)] at e3;have HW:=Lib.hid hw;obtain ⟨a1,hsl,hnd⟩:=y2l hat hc;have ND:=Lib.hid hnd;have HL:=Lib.hid (Loc.start w n);rw [List.length_cons];obtain ⟨N,hN⟩:∃ N,(a++R).length=N:=⟨_,rfl⟩
  rw [hN] at ND ⊢;obtain ⟨F,hF⟩:∃ F,So.first (n::a)=F:=⟨_,rfl⟩
  rw [hF] at HF ⊢;have g1:(1:Int)≤(N:Int)+1:=by omega
  have lt:b0<w.heap.size:=Ap.z0a e1;obtain ⟨A,hA⟩:∃ A,So.first a=A:=⟨_,rfl⟩
  rw [hA] at HF HA4;have HA:=Lib.hid hA;clear hA hta;clear hat hc hnd hz hN hF hn hf h0 h hv hw hm
  go_enter Tryz.func200,Tryz.ntmps200
  go_wp2_with fail
  go_region
  go_wp2_with fail;refine (Rx.z6o n.k _).mono ?_;rw [H0.out];rintro e w' ⟨rfl,rfl⟩;go_wp2_with fail;refine Go.wp_loop_rounds 2 ?_;rw [rounds_succ];go_wp2_with fail;refine (IH a R w0 _ _ la HTA.out ND.out (HW.out.trans (HL.out.bel.mono HW.out.size))).mono ?_;rw [HA.out];rintro e w1 ⟨y1,rfl,hy,hb⟩;have HY:=Lib.hid hy;have HM:=Lib.hid (HL.out.below hb);obtain ⟨_,a2,c2,rfl,-⟩:=hy;clear hb e1 e2 e3 lt;obtain ⟨k1,k2,k3,k4,k5,k6,k7⟩:=HM.out;go_wp2_with fail;rw [rounds_succ];go_wp2_with fail;refine (x0a n.k A 0 _ HK.out HA4.out (by omega) (fun h=>by rw [H0.out] at h; exact absurd h (by decide)) (fun _=>rfl)).mono ?_;rintro e w' ⟨rfl,rfl⟩
  cases hq:fit n.k A 0 with
  | false=>
    have HZ:Hid (F=0):=by
      show _=_
      rw [HF.out];unfold comb;rw [hq]
      rfl
    clear hq;go_wp2_with fail;go_ret2;exact ⟨_,z6t HZ.out,HY.out,(HM.out.set0 A).bel⟩
  | true=>
    have HZ:Hid (F=made n.k A 0):=by
      show _=_
      rw [HF.out];unfold comb;rw [hq]
      rfl
    clear hq;go_wp2_with fail;refine (y3r n.k A 0 _ HK.out HA4.out).mono ?_;rintro e w' ⟨rfl,rfl⟩;go_wp2_with fail;go_ret2;exact ⟨_,z6t HZ.out,HY.out,(HM.out.set0 A).bel⟩
theorem first2 (m:Nat) (IH:FirstC m) (L R:List Nd) (w0 w:World) (v:Value) (hm:L.length≤m) (h:Tre L) (h0:Rw.ar (hd L)=2) (hv:Nds w0 v (L++R)) (hw:Below w0.heap.size w0 w) :
    Calls Tryz.prog 200 #[v] w fun e w'=>∃ y,e=.returned (.tuple #[.int .i64 (So.first L),y])∧Nds w0 y R∧Below w.heap.size w w':=by
  obtain ⟨n,a,b,hn,rfl,hta,htb,hf⟩:=parts2 h h0;rw [hn] at h0;have H0:=Lib.hid h0;have HF:=Lib.hid hf;have HK:=Lib.hid (show 0≤Rw.ar n.k by rw [h0]; decide);have HTA:=Lib.hid hta;have HA4:=Lib.hid (z6k a);have la:a.length<m:=by simp at hm; omega
  have HTB:=Lib.hid htb;have HB4:=Lib.hid (z6k b);have lb:b.length<m:=by simp at hm; omega
  rcases hv.form with ⟨hx,_⟩ | ⟨b0,o,c,rfl,hc,hat⟩
  · cases hx
  have hz:(n::(a++b))++R=n::(a++(b++R)):=by simp
  rw [hz] at hat hc ⊢;obtain ⟨e1,e2,e3⟩:=hat 0 (by simp);rw [Nat.zero_mul,Nat.add_zero] at e1 e2 e3;simp only [List.getElem_cons_zero] at e1 e2 e3;rw [← hw.cell (Ap.z0a e1)] at e1;rw [← hw.cell (Ap.z0a e2)] at e2;rw [← hw.cell (Ap.z0a e3)] at e3;have HW:=Lib.hid hw;obtain ⟨a1,hsl,hnd⟩:=y2l hat hc;have ND:=Lib.hid hnd;have HL:=Lib.hid (Loc.start w n);rw [List.length_cons];obtain ⟨N,hN⟩:∃ N,(a++(b++R)).length=N:=⟨_,rfl⟩
  rw [hN] at ND ⊢;obtain ⟨F,hF⟩:∃ F,So.first (n::(a++b))=F:=⟨_,rfl⟩
  rw [hF] at HF ⊢;have g1:(1:Int)≤(N:Int)+1:=by omega
  have lt:b0<w.heap.size:=Ap.z0a e1;obtain ⟨A,hA⟩:∃ A,So.first a=A:=⟨_,rfl⟩
  rw [hA] at HF HA4;have HA:=Lib.hid hA;clear hA hta;obtain ⟨B,hB⟩:∃ B,So.first b=B:=⟨_,rfl⟩
  rw [hB] at HF HB4;have HB:=Lib.hid hB;clear hB htb;clear hat hc hnd hz hN hF hn hf h0 h hv hw hm
  go_enter Tryz.func200,Tryz.ntmps200
  go_wp2_with fail
  go_region
  go_wp2_with fail;refine (Rx.z6o n.k _).mono ?_;rw [H0.out];rintro e w' ⟨rfl,rfl⟩;go_wp2_with fail;refine Go.wp_loop_rounds 3 ?_;rw [rounds_succ];go_wp2_with fail;refine (IH a (b++R) w0 _ _ la HTA.out ND.out (HW.out.trans (HL.out.bel.mono HW.out.size))).mono ?_;rw [HA.out];rintro e w1 ⟨y1,rfl,hy,hb⟩;have HY:=Lib.hid hy;have HM:=Lib.hid (HL.out.below hb);obtain ⟨_,a2,c2,rfl,-⟩:=hy;obtain ⟨M,hM⟩:∃ M,(b++R).length=M:=⟨_,rfl⟩
  rw [hM] at HY ⊢;clear hM;clear hb e1 e2 e3 lt;obtain ⟨k1,k2,k3,k4,k5,k6,k7⟩:=HM.out;go_wp2_with fail;rw [rounds_succ];go_wp2_with fail;refine (IH b R w0 _ _ lb HTB.out HY.out (HW.out.trans ((HM.out.set0 A).bel.mono HW.out.size))).mono ?_;rw [HB.out];rintro e w2 ⟨y2,rfl,hy,hb⟩;have HY2:=Lib.hid hy;have HM2:=Lib.hid ((HM.out.set0 A).below hb);obtain ⟨_,a3,c3,rfl,-⟩:=hy;clear hb k1 k2 k3 k4 k5 k6 k7;obtain ⟨k1,k2,k3,k4,k5,k6,k7⟩:=HM2.out;go_wp2_with fail;rw [rounds_succ];go_wp2_with fail;refine (x0a n.k A B _ HK.out HA4.out HB4.out (fun h=>by rw [H0.out] at h; exact absurd h (by decide)) (fun h=>by rw [H0.out] at h; exact absurd h (by decide))).mono ?_;rintro e w' ⟨rfl,rfl⟩
  cases hq:fit n.k A B with
  | false=>
    have HZ:Hid (F=0):=by
      show _=_
      rw [HF.out];unfold comb;rw [hq]
      rfl
    clear hq;go_wp2_with fail;go_ret2;exact ⟨_,z6t HZ.out,HY2.out,(HM2.out.set1 B).bel⟩
  | true=>
    have HZ:Hid (F=made n.k A B):=by
      show _=_
      rw [HF.out];unfold comb;rw [hq]
      rfl
    clear hq;go_wp2_with fail;refine (y3r n.k A B _ HK.out HA4.out).mono ?_;rintro e w' ⟨rfl,rfl⟩;go_wp2_with fail;go_ret2;exact ⟨_,z6t HZ.out,HY2.out,(HM2.out.set1 B).bel⟩
theorem y0g:∀ m,FirstC m
  | 0=>fun _ _ _ _ _ h=>absurd h (Nat.not_lt_zero _)
  | m+1=>fun L R w0 w v hl h hv hw=>by
    have ha:=h.ar
    rcases x3p (hd L) with h0 | h0 | h0 | h0
    · rw [h0] at ha;exact absurd ha (by decide)
    · exact first0 L R w0 w v h h0 hv hw
    · exact first1 m (y0g m) L R w0 w v (by omega) h h0 hv hw
    · exact first2 m (y0g m) L R w0 w v (by omega) h h0 hv hw
theorem v2p (L R:List Nd) (w:World) (v:Value) (h:Tre L) (hv:Nds w v (L++R)) :
    Calls Tryz.prog 200 #[v] w fun e w'=>∃ y,e=.returned (.tuple #[.int .i64 (So.first L),y])∧Nds w y R∧Below w.heap.size w w':=
  y0g (L.length+1) L R w w v (by omega) h hv (Below.refl _ _)
end Sx
namespace Tr
open Go Go.RowKit
def thn (p q:Tr):Tr:=if p.e=1 then ⟨p.a++q.a,q.e⟩ else p
end Tr
end Go.Proofs.YtpingbiibbmcaaaGreatDoor
