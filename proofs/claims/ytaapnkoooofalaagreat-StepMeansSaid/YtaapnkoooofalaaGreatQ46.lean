/- Laws that the last text leans on. -/
import Derived.Test.YtaapnkoooofalaaGreatQ45
import Derived.Test.YtaapnkoooofalaaGreatQ36

set_option maxRecDepth 20000
set_option maxHeartbeats 4000000
namespace Go.Proofs.YtaapnkoooofalaaGreat
namespace Mn
open Go Go.RowKit Tr
open Rw (Nd Nds)
theorem y4f:∀ (m:Nat) (l:List Nd),l.length≤m→So.Tre l→l.length≤24→acs l≤6→(So.Is 3 l=true→PC l)∧(So.Is 4 l=true→QC l)
  | 0,l,h,ht,_,_=>absurd ht.pos (by omega)
  | m+1,l,h,ht,h24,h6=>by
    have hk:∀ a∈Rw.kids l,(So.Is 3 a=true→PC a)∧(So.Is 4 a=true→QC a):=fun a ha=>by
      have har:=ht.ar
      have h3:Rw.ar (So.hd l)=0∨Rw.ar (So.hd l)=1∨Rw.ar (So.hd l)=2:=by
        unfold Rw.ar at har ⊢
        repeat' split
        all_goals simp_all
      rcases h3 with h0 | h1 | h2
      · obtain ⟨x,rfl,_⟩:=cut0 ht h0;have:Rw.kids [x]=[]:=List.eq_nil_of_length_eq_zero (by rw [ht.kids.1,h0]; rfl);rw [this] at ha
        cases ha
      · obtain ⟨b,hkk,_,tb,hl,hc,_⟩:=cut1 ht h1;rw [hkk,List.mem_singleton] at ha;subst ha;have:=hc all;exact y4f m a (by omega) tb (by omega) (by unfold acs at *; omega)
      · obtain ⟨b,c,hkk,_,_,tb,tc,hl,hc,_⟩:=cut2 ht h2;have:=hc all;rw [hkk] at ha
        rcases List.mem_cons.1 ha with rfl | ha
        · exact y4f m a (by omega) tb (by omega) (by unfold acs at *; omega)
        · rw [List.mem_singleton] at ha;subst ha;exact y4f m a (by omega) tc (by omega) (by unfold acs at *; omega)
    match l,ht,h24,h6,hk with
    | [],ht,_,_,_=>exact absurd ht.pos (by simp)
    | ⟨k,nm',sg'⟩::rest,ht,h24,h6,hk=>
      exact ⟨fun hi v w hv=>x2y tcon k nm' sg' rest v w hv ht hi h24 h6 (fun a ha=>(hk a ha).1) fun a ha=>(hk a ha).2,
        fun hi v w hv=>y7s tcon k nm' sg' rest v w hv ht hi h24 h6 (fun a ha=>(hk a ha).1) fun a ha=>(hk a ha).2⟩
def smallB (l:List Nd):Bool:=decide (l.length≤24)&&decide (acs l≤6)
def why (l:List Nd) (p:Bool):Int:=if So.onB l p then (if smallB l then 0 else 70) else 1
theorem z5e {l:List Nd} (h:So.onB l false=true):Rw.whole l=true∧So.Is 3 l=true:=by
  have h':(So.of l==1||So.of l==3)=true:=h;simp only [Bool.or_eq_true,beq_iff_eq] at h'
  rcases h' with h' | h'
  · exact ⟨(So.of_one h').1,So.z0j (So.of_one h').2⟩
  · exact ⟨(So.x0m h').1,(So.x0m h').2.1⟩
theorem z5d {l:List Nd} (h:smallB l=true):l.length≤24∧acs l≤6:=by
  unfold smallB at h
  simpa using h
theorem plain_on {l:List Nd} (h:So.onB l false=true) (hs:smallB l=true):PC l:=
  (y4f l.length l (Nat.le_refl _) (Sx.whole_tre (z5e h).1) (z5d hs).1 (z5d hs).2).1 (z5e h).2
theorem ints_one (w:World) (x:Int) (ty:TypeId):Rw.Ints (w.alloc (.cells #[.int .i64 x] ty)) (.slice (some ⟨w.heap.size,0,none⟩) 1 1) [x]:=
  ⟨rfl,some ⟨w.heap.size,0,none⟩,1,rfl,Nat.le_refl _,fun h=>(by cases h),fun _=>⟨w.heap.size,0,rfl,fun j u hu=>by
    rw [Nat.zero_add,World.cell?_alloc_new]
    simpa using hu⟩⟩
theorem y4t (v:Value) (l:List Nd) (w:World) (hv:Nds w v l) (hl:l.length≤1000) :
    Calls Tryz.prog 14 #[v] w fun e w'=>e=.returned (.bool (smallB l))∧Below w.heap.size w w':=by
  have HC:=Lib.hid (fun y w1 (hb:Below w.heap.size w w1) hy=>Rx.x4d v y l [1] w1 (hv.below hb) hy (by omega) (by simp));have ha:=acs_cnt l;rw [← ha] at HC;have hsm:smallB l=(decide (l.length≤24)&&decide (acs l≤6)):=rfl;rw [hsm];generalize acs l=n at HC ⊢;obtain ⟨_,a,c,rfl,-⟩:=hv;obtain ⟨m,hm⟩:∃ m,l.length=m:=⟨_,rfl⟩
  rw [hm] at HC hl ⊢;clear ha hsm hm;have HI:=Lib.hid (fun ty=>ints_one w 1 ty)
  by_cases h1:m≤24
  · have g1:decide ((m:Int)≤24)=true:=by simpa using (show (m:Int)≤24 by omega)
    have e1:decide (m≤24)=true:=by simpa using h1
    rw [e1,Bool.true_and];clear e1
    go_enter Tryz.func14,Tryz.ntmps14
    go_wp2_with fail;refine (HC.out _ _ (bel1 _ _) (HI.out _)).mono ?_;rintro e w1 ⟨rfl,hb1⟩;have B1:=Lib.hid ((bel1 w _).trans (hb1.mono (bel1 w _).size));clear hb1
    by_cases h2:n≤6
    · have g2:decide ((n:Int)≤6)=true:=by simpa using (show (n:Int)≤6 by omega)
      go_wp2_with fail;go_ret;exact ⟨by simp [h2],B1.out⟩
    · have g2:decide ((n:Int)≤6)=false:=by simpa using (show ¬ (n:Int)≤6 by omega)
      go_wp2_with fail;go_ret;exact ⟨by simp [h2],B1.out⟩
  · have g1:decide ((m:Int)≤24)=false:=by simpa using (show ¬ (m:Int)≤24 by omega)
    have e1:decide (m≤24)=false:=by simpa using h1
    rw [e1,Bool.false_and];clear e1
    go_enter Tryz.func14,Tryz.ntmps14
    go_wp2_with fail;go_ret;exact ⟨rfl,Below.refl _ _⟩
theorem x9q (v:Value) (l:List Nd) (p:Bool) (w:World) (hv:Nds w v l) (hl:l.length≤1000) (hm:Rw.Nms l) :
    Calls Tryz.prog 41 #[v,.bool p] w fun e w'=>e=.returned (.int .i64 (why l p))∧Below w.heap.size w w':=by
  have HO:=Lib.hid (fun w1 (hb:Below w.heap.size w w1)=>Sx.y3c l p v w1 (hv.below hb) hl hm);have HS:=Lib.hid (fun w1 (hb:Below w.heap.size w w1)=>y4t v l w1 (hv.below hb) hl);unfold why;obtain ⟨_,a,c,rfl,-⟩:=hv;generalize So.onB l p=o at HO ⊢;generalize smallB l=s at HS ⊢;clear hm
  cases o with
  | false=>
    go_enter Tryz.func41,Tryz.ntmps41
    go_wp2_with fail;refine (HO.out _ (Below.refl _ _)).mono ?_;rintro e w1 ⟨rfl,hb1⟩;have B1:=Lib.hid hb1;clear hb1;go_wp2_with fail;go_ret;exact ⟨rfl,B1.out⟩
  | true=>
    cases s with
    | false=>
      go_enter Tryz.func41,Tryz.ntmps41
      go_wp2_with fail;refine (HO.out _ (Below.refl _ _)).mono ?_;rintro e w1 ⟨rfl,hb1⟩;have B1:=Lib.hid hb1;clear hb1;go_wp2_with fail;refine (HS.out _ B1.out).mono ?_;rintro e w2 ⟨rfl,hb2⟩;have B2:=Lib.hid (B1.out.trans (hb2.mono B1.out.size));clear hb2;go_wp2_with fail;go_ret;exact ⟨rfl,B2.out⟩
    | true=>
      go_enter Tryz.func41,Tryz.ntmps41
      go_wp2_with fail;refine (HO.out _ (Below.refl _ _)).mono ?_;rintro e w1 ⟨rfl,hb1⟩;have B1:=Lib.hid hb1;clear hb1;go_wp2_with fail;refine (HS.out _ B1.out).mono ?_;rintro e w2 ⟨rfl,hb2⟩;have B2:=Lib.hid (B1.out.trans (hb2.mono B1.out.size));clear hb2;go_wp2_with fail;go_ret;exact ⟨rfl,B2.out⟩

def MtR (l:List Nd):List Tr:=if why l false=0 then Mt l else []
def MpR (l:List Nd):List Pr:=if why l true=0 then Mp l else []
def back (X:List Pr):List Tr:=norm (X.map (·.q))
def MbR (l:List Nd):List Tr:=if why l true=0 then back (Mp l) else []
def TsPost (l:List Tr) (e0:Int) (w:World) (e:Ending) (w':World):Prop:=∃ a c,e=.returned (.tuple #[.slice a l.length c,.int .i64 e0])∧TsO any w' (.slice a l.length c) l∧Below w.heap.size w w'
theorem y9r {l:List Nd} {p:Bool} (h:why l p=0):So.onB l p=true∧smallB l=true:=by
  unfold why at h
  split at h
  · rename_i h1
    split at h
    · rename_i h2; exact ⟨h1,h2⟩
    · cases h
  · cases h
theorem y1c (v:Value) (l:List Nd) (w:World) (hv:Nds w v l) (hl:l.length≤1000) (hm:Rw.Nms l) :
    Calls Tryz.prog 16 #[v] w (TsPost (MtR l) (why l false) w):=by
  have HF:=Lib.hid (x9q v l false w hv hl hm);have HP:=Lib.hid (fun (h:why l false=0) w1 (hb:Below w.heap.size w w1)=>plain_on (y9r h).1 (y9r h).2 v w1 (hv.below hb));unfold MtR TsPost;obtain ⟨_,a,c,rfl,-⟩:=hv;obtain ⟨z,hz⟩:∃ z,why l false=z:=⟨_,rfl⟩
  rw [hz] at HF HP ⊢;clear hm hz
  by_cases h0:z=0
  · subst h0;rw [if_pos rfl];have HP':=Lib.hid (HP.out rfl);generalize Mt l=L at HP' ⊢;clear HP
    go_enter Tryz.func16,Tryz.ntmps16
    go_wp2_with fail;refine HF.out.mono ?_;rintro e w1 ⟨rfl,hb1⟩;have B1:=Lib.hid hb1;clear hb1;go_wp2_with fail;refine (HP'.out _ B1.out).mono ?_;rintro e w2 ⟨a2,n2,rfl,ht2,hb2⟩;have T2:=Lib.hid (ht2.imp (ok':=any) fun _ _ _=>trivial);have B2:=Lib.hid (B1.out.trans (hb2.mono B1.out.size));clear ht2 hb2;go_wp2_with fail;go_ret2;exact ⟨_,_,rfl,T2.out,B2.out⟩
  · rw [if_neg h0];have g0:(z != 0)=true:=by simp [h0]
    clear h0
    go_enter Tryz.func16,Tryz.ntmps16
    go_wp2_with fail;refine HF.out.mono ?_;rintro e w1 ⟨rfl,hb1⟩;have B1:=Lib.hid hb1;clear hb1;go_wp2_with fail;go_ret2;exact ⟨_,_,rfl,ts_nil _ _,B1.out⟩


def fewB (l:List Nd):Bool:=decide (l.length≤120)&&decide (Rw.depth l≤24)
theorem few_len {l:List Nd} (h:fewB l=true):l.length≤120:=by
  unfold fewB at h;rw [Bool.and_eq_true,decide_eq_true_eq] at h;exact h.1
def isB (l:List Nd):Bool:=why l false==0
def txs1 (s:ByteArray) (t:Tr):ByteArray:=s++(txt t++⟨#[59]⟩)
def txl (l:List Tr):ByteArray:=l.foldl txs1 ⟨#[]⟩
abbrev nA:Nd:=⟨1,bA,0⟩
abbrev nB:Nd:=⟨1,bB,0⟩
abbrev nC:Nd:=⟨1,bC,0⟩
abbrev nK (k:Int):Nd:=⟨k,⟨#[]⟩,0⟩
def lp:List Nd:=[nK 10,nA,nB]
def lt:List Nd:=[nK 10,nK 3,nK 2]
def l1:List Nd:=[nK 9,nK 5,nK 10,nA,nB,nK 10,nK 3,nK 2]
def l2:List Nd:=[nK 8,nK 6,nA,nK 3,nC]
theorem y1:why l1 false=0:=by decide +kernel
theorem y2:why l2 false=0:=by decide +kernel
theorem yp:why lp true=0:=by decide +kernel
theorem yq:why lp false=1:=by decide +kernel
theorem sp:smallB lp=true:=by decide +kernel
instance:DecidableEq Tr:=fun x y=>decidable_of_iff (x.a=y.a∧x.e=y.e) ⟨fun h=>by cases x; cases y; cases h.1; cases h.2; rfl,fun h=>by cases h; exact ⟨rfl,rfl⟩⟩
instance:DecidableEq Pr:=fun x y=>decidable_of_iff (x.p=y.p∧x.q=y.q) ⟨fun h=>by cases x; cases y; cases h.1; cases h.2; rfl,fun h=>by cases h; exact ⟨rfl,rfl⟩⟩
theorem t1:Mt l1=[⟨[bA,bB],1⟩]:=by decide +kernel
theorem t2:Mt l2=[⟨[bA],1⟩,⟨[bC],1⟩]:=by decide +kernel
theorem p3:Mp lp=[⟨⟨[],3⟩,⟨[],1⟩⟩,⟨⟨[bA],1⟩,⟨[bB],1⟩⟩]:=by decide +kernel
theorem r1:MtR l1=[⟨[bA,bB],1⟩]:=by unfold MtR; rw [y1,t1]; rfl
theorem r2:MtR l2=[⟨[bA],1⟩,⟨[bC],1⟩]:=by unfold MtR; rw [y2,t2]; rfl
theorem r3:MpR lp=[⟨⟨[],3⟩,⟨[],1⟩⟩,⟨⟨[bA],1⟩,⟨[bB],1⟩⟩]:=by unfold MpR; rw [yp,p3]; rfl
theorem r4:MbR lp=[⟨[],1⟩,⟨[bB],1⟩]:=by unfold MbR; rw [yp,p3]; decide +kernel
theorem r5:MtR lp=[]:=by unfold MtR; rw [yq]; rfl
theorem x1:txl [⟨[bA,bB],1⟩]=⟨#[97,32,98,32,111,107,59]⟩:=by decide +kernel
theorem x2:txl [⟨[bA],1⟩,⟨[bC],1⟩]=⟨#[97,32,111,107,59,99,32,111,107,59]⟩:=by decide +kernel
theorem x4:txl [⟨[],1⟩,⟨[bB],1⟩]=⟨#[111,107,59,98,32,111,107,59]⟩:=by decide +kernel
theorem x5:txt ⟨[],3⟩=⟨#[63]⟩:=by decide +kernel
theorem x6:txt ⟨[bB],1⟩=⟨#[98,32,111,107]⟩:=by decide +kernel
def l0:List Nd:=[nK 9,nK 5]
theorem mt_few {l:List Nd} (h:why l false=0):(Mt l).length≤12079595520∧∀ t∈Mt l,t.a.length≤6:=by
  obtain ⟨h1,h2⟩:=y9r h;have g:=gt (Sx.whole_tre (z5e h1).1) (z5e h1).2;obtain ⟨s1,s2⟩:=z5d h2;refine ⟨Nat.le_trans g.len (z1n s1 s2),fun x hx=>?_⟩;have:=(g.cnt all).len hx;unfold acs at s2;omega
theorem x7w (l:List Nd):Few (MtR l):=by
  unfold MtR
  split
  · rename_i h
    obtain ⟨h1,h2⟩:=mt_few h;exact ⟨by omega,fun t ht=>by have:=h2 t ht; omega⟩
  · exact ⟨Nat.zero_le _,fun t ht=>(by cases ht)⟩
end Mn
namespace Se
open Go Go.RowKit Rw YtaapnkoooofalaaGreat.So Mn Tr

end Se
namespace St
open Go Rw YtaapnkoooofalaaGreat.So Se Tr Mn Do Sp Me
def ahN (s:ByteArray) (x:Tr):Tr:=if s=⟨#[]⟩ then x else ⟨s::x.a,x.e⟩
noncomputable def gM (l:List Nd) (m:Mv):List Tr:=(MtR (nxL l m)).map (ahN (nxS l m))
theorem z4r:∀ (t:Tm) (d:Bool) (i:Nat),(mvs d t i).length≤2*sz t
  | .act _,_,_=>by simp [mvs,sz]
  | .alt a b,_,_=>by simp [mvs,sz]; omega
  | .yield,d,_=>by cases d <;> simp [mvs,sz]
  | .pair a b,d,_=>by cases d <;> simp [mvs,sz] <;> omega
  | .seq a b,d,i=>by have:=z4r a d (i+1); simp [mvs,sz]; omega
  | .hand a b,d,i=>by have:=z4r a d (i+1); simp [mvs,sz]; omega
  | .going a b,d,i=>by have:=z4r a d (i+1); simp [mvs,sz]; omega
  | .stack a b,d,i=>by have:=z4r a d (i+1); simp [mvs,sz]; omega
  | .block a,d,i=>by have:=z4r a false (i+1); simp [mvs,sz]; omega
  | .par a b,d,i=>by have h1:=z4r a (d||bangT b) (i+1); have h2:=z4r b (d||bangT a) (i+1+sz a); simp [mvs,sz]; omega
  | .skip,_,_=>by simp [mvs]
  | .throw,_,_=>by simp [mvs]
  | .over _,_,_=>by simp [mvs]
  | .fin _ _,_,_=>by simp [mvs]
theorem mt_short {l:List Nd} (h:why l false=0):(Mt l).length≤12079595520∧∀ t∈Mt l,t.a.length≤6:=by
  obtain ⟨h1,h2⟩:=y9r h;have g:=gt (Sx.whole_tre (z5e h1).1) (z5e h1).2;obtain ⟨s1,s2⟩:=z5d h2;refine ⟨Nat.le_trans g.len (z1n s1 s2),fun x hx=>?_⟩;have:=(g.cnt all).len hx;unfold acs at s2;omega
theorem x0n {t:Tm} (hg:Goes t) (hs:smallB (flat t)=true) (ho:onB (flat t) false=true) {mo:Mo} (h:mo∈mvs true t 0):why (flat (S mo.r)) false=0:=by
  obtain ⟨s1,s2⟩:=z5d hs;have hb:onB (flat (S mo.r)) false=true:=by rw [(x7k hg h).2 false]; exact ho
  have hz:smallB (flat (S mo.r))=true:=by
    unfold smallB;have z1:=S_sz mo.r;have z2:=mv_sz t true 0 mo h;have a1:=S_ac mo.r;have a2:=mv_ac t true 0 mo h;rw [Se.flat_len] at s1 ⊢;rw [acs_ac] at s2 ⊢;rw [Bool.and_eq_true,decide_eq_true_eq,decide_eq_true_eq];omega
  unfold why;rw [hb,hz]
  rfl
theorem ah_name {t:Tm} (hg:Goes t) (hn:Nf t) {mo:Mo} (h:mo∈mvs true t 0):ahN (nxS (flat t) (mvOf mo))=ah mo.l:=by
  obtain ⟨_,n2,_⟩:=nx_of hg hn h;obtain ⟨_,l1,_⟩:=en_less (mo_in hg hn h);obtain ⟨pre,s,post,u,e1,_,_,hm⟩:=y5j t true 0 mo h;rw [n2] at l1 ⊢;have hh:(mvOf mo).h=mo.h:=rfl;rw [hh] at l1;generalize mo.h=x at hm l1;generalize mo.l=oo at hm l1 ⊢
  funext y
  cases hm with
  | act s=>exact if_neg (l1 rfl)
  | _=>exact if_pos rfl
theorem x8g {l:List Nd} (hset:setB l=true) (hs:smallB l=true) (ho:onB l false=true) (hk:kn l 0≠11) :
    norm ((enR l).flatMap (gM l))=MtR l∧((enR l).length≤48)∧(∀ m∈enR l,why (nxL l m) false=0∧(gM l m).length≤12079595520∧∀ x∈gM l m,x.a.length≤7):=by
  obtain ⟨t,rfl,hg,hn⟩:=z1c.1 hset;have f1:=z9i hg.1 hg.2.1 false;simp only [Bool.false_eq_true,if_false] at f1;have h3:is t 3=true:=by rw [← f1]; exact ho
  have hw:why (flat t) false=0:=by unfold why; rw [ho,hs]; rfl
  have hover:isOver t=false:=by
    cases t with
    | over s=>exact absurd rfl hk
    | _=>rfl
  obtain ⟨s1,s2⟩:=z5d hs;have hac:ac t≤19:=by rw [← acs_ac]; omega
  have hM:MtR (flat t)=Mt (flat t):=if_pos hw
  have hone:∀ mo∈mvs true t 0,gM (flat t) (mvOf mo)=(Mt (flat (S mo.r))).map (ah mo.l):=fun mo h=>by
    unfold gM;rw [(nx_of hg hn h).1,ah_name hg hn h,show MtR (flat (S mo.r))=Mt (flat (S mo.r)) from if_pos (x0n hg hs ho h)]
  refine ⟨?_,?_,fun m hm=>?_⟩
  · rw [hM];refine z4q (up_mt h3) fun x=>?_
    rw [mv_means hn hg.1 hac h3 hover 0 x,List.mem_flatMap]
    constructor
    · rintro ⟨mo,h,y,hy,rfl⟩;refine ⟨mvOf mo,mo_in hg hn h,?_⟩;rw [hone mo h];exact List.mem_map.2 ⟨y,hy,rfl⟩
    · rintro ⟨m,hm,hx⟩;obtain ⟨mo,h,rfl⟩:=x3y hg hn hm;rw [hone mo h] at hx;obtain ⟨y,hy,rfl⟩:=List.mem_map.1 hx;exact ⟨mo,h,y,hy,rfl⟩
  · rw [y3v hg hn,List.length_map];have:=z4r t true 0;rw [Se.flat_len] at s1;omega
  · obtain ⟨mo,h,rfl⟩:=x3y hg hn hm;have hz:=x0n hg hs ho h;have m1:=mt_short hz;rw [(nx_of hg hn h).1,hone mo h];refine ⟨hz,by rw [List.length_map]; exact m1.1,fun x hx=>?_⟩;obtain ⟨y,hy,rfl⟩:=List.mem_map.1 hx;rw [y0l];have:=m1.2 y hy;have:lb mo.l≤1:=by cases mo.l <;> simp [lb]
    omega
end St
namespace St
open Go Go.RowKit Tr Mn
structure Bx (w:World) (b:Nat) (v:Value) (e:Int):Prop where
  c0:w.cell? ⟨b,0,none⟩=some v
  c1:w.cell? ⟨b,1,none⟩=some (.int .i64 e)
  soft:w.frozen? ⟨b,0,none⟩=false
theorem Bx.below {w w':World} {b M:Nat} {v:Value} {e:Int} (h:Bx w b v e) (hb:Below M w w') (hM:b<M):Bx w' b v e:=
  ⟨by rw [hb.cell (p:=⟨b,0,none⟩) hM]; exact h.c0,by rw [hb.cell (p:=⟨b,1,none⟩) hM]; exact h.c1,by rw [hb.frozen (p:=⟨b,0,none⟩) hM]; exact h.soft⟩
theorem Bx.set {w:World} {b:Nat} {v:Value} {e:Int} (h:Bx w b v e) (u:Value):Bx (w.setCell ⟨b,0,none⟩ u) b u e:=
  ⟨Se.z1g h.c0,by rw [Se.z1y (by omega)]; exact h.c1,by rw [Se.z1x]; exact h.soft⟩
theorem Bx.new (w:World) (v:Value) (e:Int) (ty:TypeId):Bx (w.alloc (.cells #[v,.int .i64 e] ty)) w.heap.size v e:=
  ⟨by rw [World.cell?_alloc_new]; rfl,by rw [World.cell?_alloc_new]; rfl,by simp [go_sem]⟩
theorem size_set (w:World) (a:Addr) (v:Value):(w.setCell a v).heap.size=w.heap.size:=by simp [World.setCell]
theorem x6y {w:World} {base g o:Nat} {e:TypeId} {size n:Nat} {v u:Value} {xs:List Value} (h:w.ownsRow base e size v n xs) (hg:g<base):(w.setCell ⟨g,o,none⟩ u).ownsRow base e size v n xs:=ownsRow_setCell_below h (a:=⟨g,o,none⟩) hg u
theorem emp_ne {s:ByteArray} (hs:s≠⟨#[]⟩):s.toList.isEmpty=false:=by
  rw [ByteArray.toList_eq s]
  cases h:s.data.toList with
  | nil=>exact absurd (ByteArray.ext (Array.toList_inj.1 h)) hs
  | cons _ _=>rfl
theorem app_name (w:World) (s:ByteArray):∃ v' w',(Builtin.append_ #[65,65] 65 #[.slice none 0 0,.slice (some ⟨w.heap.size,0,none⟩) 1 1]).run Tryz.prog (w.alloc (.cells #[.string s] 9))=.ok v' w'∧w'.ownsRow w.heap.size 9 1 v' 1 ([s].map .string)∧Below w.heap.size w w':=by
  obtain ⟨i0,hi,hz,hs1,hb8⟩:=info_parts infoS
  obtain ⟨v',w',h1,h2,_,h4,_⟩:=Ap.z0w (P:=Tryz.prog) (w:=w) (base:=w.heap.size) (v:=.slice none 0 0) (n:=0) (xs:=[]) (ty:=65) Tryz.underlying65 hi hz hs1 hb8 (by rfl) (by omega) ⟨rfl,.inl ⟨rfl,rfl⟩⟩ (Nat.le_refl _) #[.string s] rfl
    (fun u hu=>by
      simp at hu;subst hu
      rfl) (by unfold maxLen; omega) (by omega)
  exact ⟨v',w',h1,by simpa using h2,h4⟩
theorem x2a {W:World} {g bx:Nat} {v1 a:Value} {l1:List ByteArray} {t:Tr} {e:Int} (hown:W.ownsRow g 9 1 v1 l1.length (l1.map .string)) (hg:g≤W.heap.size) (hbx:bx<g) (X:Bx W bx v1 e) (ha:Strs W a t.a) (hl:l1.length+t.a.length≤2000000000000) :
    ∃ v2 w6,(Builtin.append_ #[65,65] 65 #[v1,a]).run Tryz.prog W=.ok v2 w6∧(w6.setCell ⟨bx,0,none⟩ v2).ownsRow g 9 1 v2 (l1++t.a).length ((l1++t.a).map .string)∧Below g W w6∧Bx w6 bx v1 e∧Bx (w6.setCell ⟨bx,0,none⟩ v2) bx v2 e:=by
  obtain ⟨v2,w6,h1,h2,_,h4,_⟩:=z2w hown hg ha hl;have x6:=X.below h4 hbx;exact ⟨v2,w6,h1,x6y h2 hbx,h4,x6,x6.set v2⟩
theorem y6y {w0 wr W:World} {v v2:Value} {o:List Tr} {t':Tr} {cs:List Value} {g:Nat} (hown:wr.ownsRow w0.heap.size 68 2 v o.length cs) (hcs:Cl (ET (Apart (fun b=>w0.heap.size≤b) v) wr) 2 o cs) (h0:Below w0.heap.size w0 wr) (hb:Below wr.heap.size wr W) (hg:wr.heap.size≤g)
    (h2:W.ownsRow g 9 1 v2 t'.a.length (t'.a.map .string)) (hlen:o.length≤1000000000000) :
    ∃ v' w',(Builtin.append_ #[37,37] 37 #[v,.slice (some ⟨W.heap.size,0,none⟩) 1 1]).run Tryz.prog (W.alloc (.cells #[v2,.int .i64 t'.e] 68))=.ok v' w'∧
      w'.ownsRow w0.heap.size 68 2 v' (o++[t']).length (cs++[v2,.int .i64 t'.e])∧Cl (ET (Apart (fun b=>w0.heap.size≤b) v') w') 2 (o++[t']) (cs++[v2,.int .i64 t'.e])∧Below w0.heap.size w0 w':=by
  have hr:Strs W v2 t'.a:=Ap.Rd.owned h2;have hs:=h0.size;have hs2:=hb.size;obtain ⟨v',w',h1,ho,hgr,hbl,hfr⟩:=z1r (wk:=W) (t:=t') (Ap.own_below hown hb) (Nat.le_trans hs hs2) hr (by omega);have hold:=z2o hown;have hrow:StrsO (Apart (fun b=>w0.heap.size≤b) v) W v2 t'.a:=(Ap.RdO.fresh h2).imp fun b _ hb1=>⟨by omega,fun e=>by have:=(hold b e).2; omega⟩
  refine ⟨v',w',h1,ho,?_,(h0.trans (hb.mono hs)).trans hbl⟩;exact Cl.append ET.len (Cl.one ⟨v2,rfl,z0v hrow hgr hfr⟩ rfl) ((y6u hcs hb).imp (ET.map fun _ _ h=>z0v h hgr hfr))
theorem x4s (x:Value) (ts:List Tr) (w:World) (hx:Trs w x ts) (hn:ts.length≤1000000000000) (hf:∀ t∈ts,t.a.length≤1000000000000) :
    Calls Tryz.prog 17 #[.string ⟨#[]⟩,x] w fun e w'=>∃ v,e=.returned v∧TsO (fun b=>w.heap.size≤b) w' v (ts.map (ahN ⟨#[]⟩))∧Below w.heap.size w w':=by
  have HN:=Lib.hid (fun y=>(show ahN ⟨#[]⟩ y=y from if_pos rfl));obtain ⟨f,hfn⟩:∃ f,ahN ⟨#[]⟩=f:=⟨_,rfl⟩
  rw [hfn] at HN ⊢;obtain ⟨a1,c1,rfl,_,h1⟩:=hx.val;have H1:=Lib.hid h1;have HF:=Lib.hid hf;clear h1 hx hf hfn
  go_enter Tryz.func17,Tryz.ntmps17
  go_wp2_with fail
  go_loopw [5,11] (fun v i wr=>∃ (k:Nat) (cs:List Value),k≤ts.length∧i=.int .i64 k∧Hid (Below w.heap.size w wr)∧Hid (wr.ownsRow w.heap.size 68 2 v ((ts.map f).take k).length cs)∧Hid (Cl (ET (Apart (fun b=>w.heap.size≤b) v) wr) 2 ((ts.map f).take k) cs)) (fun _ i _=>ts.length-(intOf i).toNat)
  case atStart=>exact ⟨0,[],Nat.zero_le _,rfl,Lib.hid (Below.refl _ _),Lib.hid ⟨rfl,.inl ⟨rfl,rfl⟩⟩,Lib.hid rfl⟩
  case round=>
    obtain ⟨k,cs,hk,rfl,HB,HO,HC⟩:=hrel
    by_cases hlt:k<ts.length
    · obtain ⟨b1,o1,a,rfl,e1,e2,hs⟩:=H1.out k hlt;have c1':wr.cell? ⟨b1,o1+k*2,none⟩=some a:=by rw [Nat.mul_comm k 2,HB.out.cell (Ap.z0a e1)]; exact e1
      have c2':wr.cell? ⟨b1,o1+k*2+1,none⟩=some (.int .i64 ts[k].e):=by rw [Nat.mul_comm k 2,HB.out.cell (Ap.z0a e2)]; exact e2
      have HT:=Lib.hid (show (ts.map f).take (k+1)=(ts.map f).take k++[f ts[k]] by rw [List.take_succ_eq_append_getElem (by simpa using hlt)]; simp);have hta:=HF.out ts[k] (List.getElem_mem hlt);have HFK:=Lib.hid (HN.out ts[k]);have HL:=Lib.hid (show ((ts.map f).take k).length≤1000000000000 by rw [List.length_take,List.length_map]; omega);have HS:=Lib.hid hs;generalize ts[k]=t at *;generalize (ts.map f).take k=o at *;generalize f t=t' at *;obtain ⟨_,av,cv,rfl,_⟩:=id hs;clear e1 e2 hs;have sz1:(wr.alloc (.cells #[.slice av t.a.length cv,.int .i64 t.e] 67)).heap.size=wr.heap.size+1:=by simp
      have D1:=Rw.z0f wr (.cells #[.slice av t.a.length cv,.int .i64 t.e] 67);have T1:=Bx.new wr (.slice av t.a.length cv) t.e 67;obtain ⟨W1,hW1⟩:∃ W1,wr.alloc (.cells #[.slice av t.a.length cv,.int .i64 t.e] 67)=W1:=⟨_,rfl⟩
      rw [hW1] at sz1 D1 T1;have D2:=Rw.z0f W1 (.cells #[.slice none 0 0,.int .i64 t.e] 68);have X2:=Bx.new W1 (.slice none 0 0) t.e 68;have sz2:(W1.alloc (.cells #[.slice none 0 0,.int .i64 t.e] 68)).heap.size=wr.heap.size+1+1:=by simp [sz1]
      obtain ⟨W2,hW2⟩:∃ W2,W1.alloc (.cells #[.slice none 0 0,.int .i64 t.e] 68)=W2:=⟨_,rfl⟩
      rw [hW2] at sz2 D2 X2;rw [sz1] at D2 X2;have DW2:=D1.trans (D2.mono (by omega));have T2:=T1.below D2 (by omega);obtain ⟨W5,hW5⟩:∃ W5,W2=W5:=⟨_,rfl⟩
      have DW5:=DW2;have x5:=X2;have t5:=T2;have s5:wr.heap.size+1+1≤W2.heap.size:=by omega
      have o5:W2.ownsRow (wr.heap.size+1+1) 9 1 (.slice none 0 0) ([]:List ByteArray).length (([]:List ByteArray).map .string):=⟨rfl,.inl ⟨rfl,rfl⟩⟩
      rw [hW5] at DW5 x5 t5 s5 o5;obtain ⟨v2,w6,r2,o7,d6,x6,x7⟩:=x2a (t:=t) (e:=t.e) (l1:=[]) o5 s5 (by omega) x5 (HS.out.below (HB.out.trans (DW5.mono HB.out.size))) (by simp; omega);obtain ⟨_,av2,cv2,rfl,-⟩:=id (Ap.Rd.owned o7);have t6:=t5.below d6 (by omega);obtain ⟨W7,hW7⟩:∃ W7,w6.setCell ⟨wr.heap.size+1,0,none⟩ (.slice av2 ([]++t.a).length cv2)=W7:=⟨_,rfl⟩
      rw [hW7] at o7 x7;have DW7:Below wr.heap.size wr W7:=by rw [← hW7]; exact Rx.z0y (DW5.trans (d6.mono (by omega))) _ _ _ (by omega)
      have ht':t'=⟨[]++t.a,t.e⟩:=HFK.out;subst ht';obtain ⟨v8,w8,r3,o8,k8,d8⟩:=y6y (t':=⟨[]++t.a,t.e⟩) HO.out HC.out HB.out DW7 (by omega) o7 HL.out;generalize hm2:([]++t.a).length=m2 at *;clear hm2;have O8:=Lib.hid o8;have K8:=Lib.hid k8;have D8:=Lib.hid d8;have R2:=Lib.hid r2;have R3:=Lib.hid r3;have y1:=T1.c1;have y2:=X2.c0;have y3:=X2.c1;have z3:=X2.soft;have y5:=x5.c0;have y6:=t5.c0;have y7:=x6.c0;have z7:=x6.soft;have y8:=x7.c0;have y9:=x7.c1;clear  r2 r3 o8 k8 d8 T1 X2 x5 t5 x6 x7 o7 d6 t6 DW5 DW7 D1 D2 DW2 T2 s5 o5 HFK HL hta
      go_wp2_with (at_builtin; first
        | (refine Ap.wpList_append_run (by rfl) (.tmp 27) (.tmp 29) _ _ rfl _ _ rfl rfl _ w6 R2.out ?_)
        | (refine Ap.wpList_append_run (by rfl) (.tmp 32) (.tmp 34) _ _ rfl _ _ rfl rfl v8 w8 R3.out ?_)
        | fail)
      go_roundw
      case rel=>exact ⟨k+1,_,by omega,by go_num,D8,by rw [HT.out]; exact O8,by rw [HT.out]; exact K8⟩
      case measure=>simp [intOf]; omega
    · go_wp2_with fail;go_ret;refine ⟨_,rfl,?_,HB.out⟩;have h1:=HO.out;have h2:=HC.out;rw [List.take_of_length_le (by rw [List.length_map]; omega)] at h1 h2;exact ⟨cs,Ap.RdO.fresh h1,h2.imp (ET.map fun _ _ h=>Ap.RdO.imp h fun _ _ h=>h.1)⟩
theorem x4r (s:ByteArray) (hs0:s≠⟨#[]⟩) (x:Value) (ts:List Tr) (w:World) (hx:Trs w x ts) (hn:ts.length≤1000000000000) (hf:∀ t∈ts,t.a.length≤1000000000000) :
    Calls Tryz.prog 17 #[.string s,x] w fun e w'=>∃ v,e=.returned v∧TsO (fun b=>w.heap.size≤b) w' v (ts.map (ahN s))∧Below w.heap.size w w':=by
  have hne:s.toList.isEmpty=false:=emp_ne hs0;have HN:=Lib.hid (fun y=>(show ahN s y=⟨s::y.a,y.e⟩ from if_neg hs0));obtain ⟨f,hfn⟩:∃ f,ahN s=f:=⟨_,rfl⟩
  rw [hfn] at HN ⊢;obtain ⟨a1,c1,rfl,_,h1⟩:=hx.val;have H1:=Lib.hid h1;have HF:=Lib.hid hf;clear h1 hx hf hfn hs0
  go_enter Tryz.func17,Tryz.ntmps17
  go_wp2_with fail
  go_loopw [5,11] (fun v i wr=>∃ (k:Nat) (cs:List Value),k≤ts.length∧i=.int .i64 k∧Hid (Below w.heap.size w wr)∧Hid (wr.ownsRow w.heap.size 68 2 v ((ts.map f).take k).length cs)∧Hid (Cl (ET (Apart (fun b=>w.heap.size≤b) v) wr) 2 ((ts.map f).take k) cs)) (fun _ i _=>ts.length-(intOf i).toNat)
  case atStart=>exact ⟨0,[],Nat.zero_le _,rfl,Lib.hid (Below.refl _ _),Lib.hid ⟨rfl,.inl ⟨rfl,rfl⟩⟩,Lib.hid rfl⟩
  case round=>
    obtain ⟨k,cs,hk,rfl,HB,HO,HC⟩:=hrel
    by_cases hlt:k<ts.length
    · obtain ⟨b1,o1,a,rfl,e1,e2,hs⟩:=H1.out k hlt;have c1':wr.cell? ⟨b1,o1+k*2,none⟩=some a:=by rw [Nat.mul_comm k 2,HB.out.cell (Ap.z0a e1)]; exact e1
      have c2':wr.cell? ⟨b1,o1+k*2+1,none⟩=some (.int .i64 ts[k].e):=by rw [Nat.mul_comm k 2,HB.out.cell (Ap.z0a e2)]; exact e2
      have HT:=Lib.hid (show (ts.map f).take (k+1)=(ts.map f).take k++[f ts[k]] by rw [List.take_succ_eq_append_getElem (by simpa using hlt)]; simp);have hta:=HF.out ts[k] (List.getElem_mem hlt);have HFK:=Lib.hid (HN.out ts[k]);have HL:=Lib.hid (show ((ts.map f).take k).length≤1000000000000 by rw [List.length_take,List.length_map]; omega);have HS:=Lib.hid hs;generalize ts[k]=t at *;generalize (ts.map f).take k=o at *;generalize f t=t' at *;obtain ⟨_,av,cv,rfl,_⟩:=id hs;clear e1 e2 hs;have sz1:(wr.alloc (.cells #[.slice av t.a.length cv,.int .i64 t.e] 67)).heap.size=wr.heap.size+1:=by simp
      have D1:=Rw.z0f wr (.cells #[.slice av t.a.length cv,.int .i64 t.e] 67);have T1:=Bx.new wr (.slice av t.a.length cv) t.e 67;obtain ⟨W1,hW1⟩:∃ W1,wr.alloc (.cells #[.slice av t.a.length cv,.int .i64 t.e] 67)=W1:=⟨_,rfl⟩
      rw [hW1] at sz1 D1 T1;have D2:=Rw.z0f W1 (.cells #[.slice none 0 0,.int .i64 t.e] 68);have X2:=Bx.new W1 (.slice none 0 0) t.e 68;have sz2:(W1.alloc (.cells #[.slice none 0 0,.int .i64 t.e] 68)).heap.size=wr.heap.size+1+1:=by simp [sz1]
      obtain ⟨W2,hW2⟩:∃ W2,W1.alloc (.cells #[.slice none 0 0,.int .i64 t.e] 68)=W2:=⟨_,rfl⟩
      rw [hW2] at sz2 D2 X2;rw [sz1] at D2 X2;have DW2:=D1.trans (D2.mono (by omega));have T2:=T1.below D2 (by omega);obtain ⟨v1,w4,r1,o4,d4⟩:=app_name W2 s;rw [sz2] at r1 o4 d4;have x4:=X2.below d4 (by omega);have t4:=T2.below d4 (by omega);obtain ⟨_,av1,cv1,rfl,-⟩:=id (Ap.Rd.owned o4);obtain ⟨W5,hW5⟩:∃ W5,w4.setCell ⟨wr.heap.size+1,0,none⟩ (.slice av1 1 cv1)=W5:=⟨_,rfl⟩
      have x5:=x4.set (.slice av1 1 cv1);have o5:=x6y (g:=wr.heap.size+1) (o:=0) (u:=.slice av1 1 cv1) o4 (by omega);have d5:Below wr.heap.size W2 W5:=by rw [← hW5]; exact Rx.z0y (d4.mono (by omega)) _ _ _ (by omega)
      have t5:Bx W5 wr.heap.size (.slice av t.a.length cv) t.e:=⟨by rw [← hW5,Se.z1f _ _ _ _ _ (by show wr.heap.size≠_; omega)]; exact t4.c0,by rw [← hW5,Se.z1f _ _ _ _ _ (by show wr.heap.size≠_; omega)]; exact t4.c1,by rw [← hW5,Se.z1x]; exact t4.soft⟩
      have s5:wr.heap.size+1+1≤W5.heap.size:=by rw [← hW5,size_set]; have:=d4.size; omega
      rw [hW5] at x5 o5;have DW5:=DW2.trans d5;obtain ⟨v2,w6,r2,o7,d6,x6,x7⟩:=x2a (t:=t) (e:=t.e) (l1:=[s]) o5 s5 (by omega) x5 (HS.out.below (HB.out.trans (DW5.mono HB.out.size))) (by simp; omega);obtain ⟨_,av2,cv2,rfl,-⟩:=id (Ap.Rd.owned o7);have t6:=t5.below d6 (by omega);obtain ⟨W7,hW7⟩:∃ W7,w6.setCell ⟨wr.heap.size+1,0,none⟩ (.slice av2 ([s]++t.a).length cv2)=W7:=⟨_,rfl⟩
      rw [hW7] at o7 x7;have DW7:Below wr.heap.size wr W7:=by rw [← hW7]; exact Rx.z0y (DW5.trans (d6.mono (by omega))) _ _ _ (by omega)
      have ht':t'=⟨[s]++t.a,t.e⟩:=HFK.out;subst ht';obtain ⟨v8,w8,r3,o8,k8,d8⟩:=y6y (t':=⟨[s]++t.a,t.e⟩) HO.out HC.out HB.out DW7 (by omega) o7 HL.out;generalize hm2:([s]++t.a).length=m2 at *;clear hm2;have O8:=Lib.hid o8;have K8:=Lib.hid k8;have D8:=Lib.hid d8;have R2:=Lib.hid r2;have R3:=Lib.hid r3;have R1:=Lib.hid r1;have y4:=x4.c0;have z4:=x4.soft;have y1:=T1.c1;have y2:=X2.c0;have y3:=X2.c1;have z3:=X2.soft;have y5:=x5.c0;have y6:=t5.c0;have y7:=x6.c0;have z7:=x6.soft;have y8:=x7.c0;have y9:=x7.c1;clear r1 x4 t4 d4 o4 d5 r2 r3 o8 k8 d8 T1 X2 x5 t5 x6 x7 o7 d6 t6 DW5 DW7 D1 D2 DW2 T2 s5 o5 HFK HL hta
      go_wp2_with (at_builtin; first
        | (refine Ap.wpList_append_run (by rfl) (.tmp 27) (.tmp 29) _ _ rfl _ _ rfl rfl _ w6 R2.out ?_)
        | (refine Ap.wpList_append_run (by rfl) (.tmp 32) (.tmp 34) _ _ rfl _ _ rfl rfl v8 w8 R3.out ?_)
        | (refine Ap.wpList_append_run (by rfl) (.tmp 21) (.tmp 23) _ _ rfl _ _ rfl rfl _ w4 R1.out ?_)
        | fail)
      go_roundw
      case rel=>exact ⟨k+1,_,by omega,by go_num,D8,by rw [HT.out]; exact O8,by rw [HT.out]; exact K8⟩
      case measure=>simp [intOf]; omega
    · go_wp2_with fail;go_ret;refine ⟨_,rfl,?_,HB.out⟩;have h1:=HO.out;have h2:=HC.out;rw [List.take_of_length_le (by rw [List.length_map]; omega)] at h1 h2;exact ⟨cs,Ap.RdO.fresh h1,h2.imp (ET.map fun _ _ h=>Ap.RdO.imp h fun _ _ h=>h.1)⟩
theorem v1l (s:ByteArray) (x:Value) (ts:List Tr) (w:World) (hx:Trs w x ts) (hn:ts.length≤1000000000000) (hf:∀ t∈ts,t.a.length≤1000000000000) :
    Calls Tryz.prog 17 #[.string s,x] w fun e w'=>∃ v,e=.returned v∧TsO (fun b=>w.heap.size≤b) w' v (ts.map (ahN s))∧Below w.heap.size w w':=by
  by_cases h:s=⟨#[]⟩
  · subst h;exact x4s x ts w hx hn hf
  · exact x4r s h x ts w hx hn hf
end St
end Go.Proofs.YtaapnkoooofalaaGreat
