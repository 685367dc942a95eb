/- Laws that the last text leans on. -/
import Derived.Test.YtpingbiibbmcaaaGreatDoorQ34

set_option maxRecDepth 20000
set_option maxHeartbeats 2000000
namespace Go.Proofs.YtpingbiibbmcaaaGreatDoor
namespace Ru
open Go Go.RowKit Rw Tr
def StrB (w:World) (v:Value):Prop:=∀ g,v.ownBlock=some g→∃ cur T fr,w.heap[g]?=some (.cells cur T fr)∧∀ u∈cur.toList,∃ s,u=.string s
theorem StrB.nil (w:World):StrB w (.slice none 0 0):=fun g h=>by cases h
theorem StrB.below {w w':World} {v:Value} (h:StrB w v) (hb:Below w.heap.size w w'):StrB w' v:=fun g hg=>by
  obtain ⟨cur,T,fr,h1,h2⟩:=h g hg;exact ⟨cur,T,fr,(hb.block _ (Array.getElem?_eq_some_iff.1 h1).1).trans h1,h2⟩
theorem StrB.by {w w':World} {v:Value} {r:Nat} (h:StrB w v) (hb:w.grownBy w' (some r)) (hr:v.ownBlock≠some r):StrB w' v:=fun g hg=>by
  obtain ⟨cur,T,fr,h1,h2⟩:=h g hg;exact ⟨cur,T,fr,(hb.block _ (Array.getElem?_eq_some_iff.1 h1).1 (fun e=>hr (by rw [hg,Option.some.inj e]))).trans h1,h2⟩
theorem StrB.nds {w w':World} {v x:Value} {l:List Nd} (h:StrB w v) (hx:Nds w x l) (hg:w.grownBy w' v.ownBlock):Nds w' x l:=by
  obtain ⟨hl,a,cap,hv,hc,hn,hcell⟩:=hx;refine ⟨hl,a,cap,hv,hc,hn,fun h0=>?_⟩;obtain ⟨b,off,ha,hk⟩:=hcell h0
  have hb:some b≠v.ownBlock:=by
    intro e;obtain ⟨cur,T,fr,h1,h2⟩:=h b e.symm
    cases l with
    | nil=>cases h0
    | cons n l=>
      have h3:=hk 0 (.int .i64 n.k) rfl;simp only [World.cell?,h1] at h3;have h4:cur[off+0]?=some (.int .i64 n.k):=h3;obtain ⟨s,hs⟩:=h2 _ (Array.mem_toList_iff.2 (Array.mem_of_getElem? h4))
      cases hs
  refine ⟨b,off,ha,fun i u hu=>?_⟩;have h1:=hk i u hu;rw [World.cell?_of_block (hg.block _ (Ap.z0a h1) hb)];exact h1
theorem y5a (n:Nat):∀ u∈(Builtin.zeroCells (.string ⟨#[]⟩:Value).cells n).toList,∃ s,u=.string s:=by
  intro u hu;simp [Builtin.zeroCells,Value.cells] at hu;obtain ⟨a,_,rfl⟩:=hu;exact ⟨⟨#[]⟩,by rw [Nat.mod_one]; rfl⟩
theorem v4b {w:World} {base:Nat} {v x:Value} {l m:List ByteArray} (hown:w.ownsRow base 9 1 v l.length (l.map .string)) (hbase:base≤w.heap.size) (hx:Tr.Strs w x m) (hlen:l.length+m.length≤2000000000000) (hs:StrB w v) :
    ∃ v' w',(Builtin.append_ #[26,26] 26 #[v,x]).run Tryz.prog w=.ok v' w'∧w'.ownsRow base 9 1 v' (l++m).length ((l++m).map .string)∧w.grownBy w' v.ownBlock∧Below base w w'∧StrB w' v':=by
  obtain ⟨v',w',h1,h2,h3,h4,h5⟩:=z2q hown hbase hx hlen;refine ⟨v',w',h1,h2,h3,h4,?_⟩;obtain ⟨i0,hi,hz,hs1,hb8⟩:=info_parts infoS
  have news:∀ u∈m.map Value.string,∃ s,u=Value.string s:=fun u hu=>by
    obtain ⟨b,_,rfl⟩:=List.mem_map.1 hu;exact ⟨b,rfl⟩
  have olds:∀ u∈l.map Value.string,∃ s,u=Value.string s:=fun u hu=>by
    obtain ⟨b,_,rfl⟩:=List.mem_map.1 hu;exact ⟨b,rfl⟩
  have one:∀ u∈m.map Value.string,u.oneCell'=true:=fun u hu=>by
    obtain ⟨b,rfl⟩:=news u hu
    rfl
  by_cases h0:m.length=0
  · obtain rfl:m=[]:=List.eq_nil_of_length_eq_zero h0
    obtain ⟨a,k,c,rfl,hkc⟩:∃ a k c,v=.slice a k c∧k≤c:=by
      obtain ⟨_,⟨rfl,_⟩ | ⟨g,cap,cur,rfl,_,_,hc,_⟩⟩:=hown
      · exact ⟨none,0,0,rfl,Nat.le_refl _⟩
      · exact ⟨_,_,_,rfl,hc⟩
    have:=run_append_nothing w 26 26 26 9 i0 Tryz.underlying26 hi a k c hkc x (by rw [hs1]; exact hx.src Tryz.underlying26 one);rw [this] at h1;injection h1 with e1 e2;rw [← e1,← e2];exact hs
  · obtain ⟨hl,a1,c1,rfl,hc,hn,hcell⟩:=hx;obtain ⟨b1,o1,rfl,hj⟩:=hcell (by omega);have hj':∀ j u,(m.map Value.string)[j]?=some u→w.cell? (Addr.add ⟨b1,o1,none⟩ j)=some u:=fun j u hu=>by rw [Addr.add_lit]; exact hj j u hu
    have hl':(m.map Value.string).length=m.length*i0.size:=by rw [hs1]; exact hl
    obtain ⟨hlo,⟨rfl,hz0⟩ | ⟨g,cap,cur,rfl,hbg,hg,hnc,hcm,hcs,htake⟩⟩:=id hown
    · have hr:=run_append_nil (P:=Tryz.prog) w 26 26 9 i0 _ Tryz.underlying26 hi hz ⟨b1,o1,none⟩ m.length c1 _ hl' hj' (by omega) (by omega) (by rw [hb8]; omega);rw [hr] at h1;injection h1 with e1 e2;rw [← e1,← e2];intro g hgg;obtain rfl:w.heap.size=g:=Option.some.inj hgg;refine ⟨_,_,_,heap_alloc_new w.drew _,fun u hu=>?_⟩;simp only [Array.toList_append,List.mem_append] at hu
      rcases hu with hu | hu
      · exact news u hu
      · exact y5a _ u hu
    · by_cases hroom:l.length+m.length≤cap
      · have hfit:l.length*i0.size+(m.map Value.string).length≤cur.size:=by rw [hs1,hcs,List.length_map]; omega
        have hr:=run_append_room (P:=Tryz.prog) w 26 26 9 i0 Tryz.underlying26 hi g l.length cap cur hg ⟨b1,o1,none⟩ m.length c1 _ hl' hj' one hroom hfit;rw [hr] at h1;injection h1 with e1 e2;rw [← e1,← e2];intro g' hgg;obtain rfl:g=g':=Option.some.inj hgg;obtain ⟨cur',T',fr',k1,k2⟩:=hs g rfl;rw [hg] at k1;injection k1 with k1;injection k1 with k3 k4 k5;subst k3;refine ⟨_,_,_,setRow_heap w g cur _ _ _ hg,fun u hu=>?_⟩;simp only [List.mem_append] at hu
        rcases hu with (hu | hu) | hu
        · exact k2 u (List.mem_of_mem_take hu)
        · exact news u hu
        · exact k2 u (List.mem_of_mem_drop hu)
      · have holds:=hown.cells (g:=g) rfl;have hr:=run_append_grow (P:=Tryz.prog) w 26 26 9 i0 _ Tryz.underlying26 hi hz ⟨g,0,none⟩ l.length cap _ (by rw [hs1]; exact hlo) holds ⟨b1,o1,none⟩ m.length c1 _ hl' hj' (by omega) (by omega) (growslice_fits (by omega) (by rw [hb8]; omega));rw [hr] at h1;injection h1 with e1 e2;rw [← e1,← e2];intro g' hgg;obtain rfl:w.heap.size=g':=Option.some.inj hgg;refine ⟨_,_,_,heap_alloc_new w.drew _,fun u hu=>?_⟩;simp only [Array.toList_append,List.mem_append] at hu
        rcases hu with (hu | hu) | hu
        · exact olds u hu
        · exact news u hu
        · exact y5a _ u hu
end Ru
namespace Ru
open Go Go.RowKit Rw YtpingbiibbmcaaaGreatDoor.So Se Tr Do Sp Me St
def cutR (d:List ByteArray) (a:List ByteArray):Option (List ByteArray):=match d with
  | []=>some a
  | s::_=>match a with | []=>none | x::r=>if s=x then some r else none
noncomputable def didR (l:List Nd) (m:Mv):List ByteArray:=if m.h=1 then [nxS l m] else []
theorem y4h (l:List Nd) (m:Mv):didR l m=[]∨∃ s,didR l m=[s]:=by
  unfold didR
  split
  · exact .inr ⟨_,rfl⟩
  · exact .inl rfl
theorem y4i (l:List Nd) (m:Mv) (t:Tr):restR t m.h (nxS l m)=(cutR (didR l m) t.a).map fun a=>⟨a,t.e⟩:=by
  obtain ⟨a,e⟩:=t;unfold restR didR
  by_cases h:m.h=1
  · rw [if_neg (fun k=>k h),if_pos h]
    cases a with
    | nil=>rfl
    | cons x r=>
      unfold cutR;simp only
      by_cases h2:x=nxS l m
      · rw [if_pos h2,if_pos h2.symm]; rfl
      · rw [if_neg h2,if_neg (fun k=>h2 k.symm)]; rfl
  · rw [if_pos h,if_neg h]
    rfl
def RtP (o:Option (List ByteArray)) (w:World) (e:Ending) (w':World):Prop:=∃ r,e=.returned (.tuple #[r,.bool o.isSome])∧Tr.Strs w' r (o.getD [])∧Below w.heap.size w w'
theorem x8w (ya da:Option Addr) (ad:Addr) (yn yc dc n ac:Nat) (A:List ByteArray) (w:World) (ha:Tr.Strs w (.slice (some ad) n ac) A) (_hn:n≤ac) :
    Calls Tryz.prog 104 #[.agg #[.slice ya yn yc,.slice da 0 dc],.slice (some ad) n ac] w (RtP (some A) w):=by
  have HB:=Lib.hid (Rw.z0b w (.cells #[.slice ya yn yc,.slice da 0 dc] 75));have HA:=Lib.hid ha;have hz:decide ((n:Int)<0)=false:=decide_eq_false (by omega);clear ha
  go_enter Tryz.func104,Tryz.ntmps104
  go_wp2_with fail
  go_quiet (first | (go_at_call 174; refine Calls.quiet_of (x3b _ _ _ _ _)) | fail)
  go_wp2_with fail;go_ret2;exact ⟨_,rfl,Ap.Rd.below HA.out (HB.out.trans (Tr.Below.drewN _ _ _)),HB.out.trans (Tr.Below.drewN _ _ _)⟩
theorem rest_nil (ya da:Option Addr) (yn yc dc:Nat) (w:World) :
    Calls Tryz.prog 104 #[.agg #[.slice ya yn yc,.slice da 0 dc],.slice none 0 0] w (RtP (some []) w):=by
  have HB:=Lib.hid (Rw.z0b w (.cells #[.slice ya yn yc,.slice da 0 dc] 75))
  go_enter Tryz.func104,Tryz.ntmps104
  go_wp2_with fail
  go_quiet (first | (go_at_call 174; refine Calls.quiet_of (x3b _ _ _ _ _)) | fail)
  go_wp2_with fail;go_ret2;exact ⟨_,rfl,z7y _,HB.out.trans (Tr.Below.drewN _ _ _)⟩
theorem x4u (ya aa:Option Addr) (yn yc db d0 dc ac:Nat) (w:World) :
    Calls Tryz.prog 104 #[.agg #[.slice ya yn yc,.slice (some ⟨db,d0,none⟩) 1 dc],.slice aa 0 ac] w (RtP none w):=by
  have HB:=Lib.hid (Rw.z0b w (.cells #[.slice ya yn yc,.slice (some ⟨db,d0,none⟩) 1 dc] 75))
  go_enter Tryz.func104,Tryz.ntmps104
  go_wp2_with fail
  go_quiet (fail)
  go_wp2_with fail;go_ret2;exact ⟨_,rfl,z7y _,HB.out.trans (Tr.Below.drewN _ _ _)⟩
theorem rest_one (ya:Option Addr) (yn yc db d0 dc b o n ac:Nat) (s x:ByteArray) (A:List ByteArray) (w:World) (e1:w.cell? ⟨db,d0,none⟩=some (.string s)) (ha:Tr.Strs w (.slice (some ⟨b,o,none⟩) (n+1) ac) (x::A)) (hn:n+1≤ac) (e2:w.cell? ⟨b,o,none⟩=some (.string x)) (hA:A.length=n) :
    Calls Tryz.prog 104 #[.agg #[.slice ya yn yc,.slice (some ⟨db,d0,none⟩) 1 dc],.slice (some ⟨b,o,none⟩) (n+1) ac] w (RtP (if s=x then some A else none) w):=by
  have HB:=Lib.hid (Rw.z0b w (.cells #[.slice ya yn yc,.slice (some ⟨db,d0,none⟩) 1 dc] 75));subst hA;have HTL:=Lib.hid (fun o' h=>Strs.tail ha o' h);clear ha;have hz:decide ((A.length:Int)+1<1)=false:=decide_eq_false (by omega);have f1:∀ u m,((w.alloc u).drewN m).cell? ⟨db,d0,none⟩=some (.string s):=fun u m=>by rw [((Rw.z0b w u).trans (Tr.Below.drewN _ _ _)).cell (Ap.z0a e1)]; exact e1
  have f2:∀ u m,((w.alloc u).drewN m).cell? ⟨b,o,none⟩=some (.string x):=fun u m=>by rw [((Rw.z0b w u).trans (Tr.Below.drewN _ _ _)).cell (Ap.z0a e2)]; exact e2
  generalize A.length=n at *;have HE:=Lib.hid (fun m c=>eqS_one db d0 dc b o c s x ((w.alloc (.cells #[.slice ya yn yc,.slice (some ⟨db,d0,none⟩) 1 dc] 75)).drewN m) (f1 _ _) (f2 _ _))
  by_cases hs:s=x
  · subst hs;rw [if_pos rfl];rw [decide_eq_true rfl] at HE
    by_cases hc:ac=1
    · subst hc;obtain rfl:n=0:=by omega
      go_enter Tryz.func104,Tryz.ntmps104
      go_wp2_with fail
      go_quiet (first | (go_at_call 174; refine Calls.quiet_of (HE.out _ _)) | fail)
      go_wp2_with fail;go_ret2;exact ⟨_,rfl,Ap.Rd.below (HTL.out _ (.inr trivial)) (HB.out.trans (Tr.Below.drewN _ _ _)),HB.out.trans (Tr.Below.drewN _ _ _)⟩
    · go_enter Tryz.func104,Tryz.ntmps104
      go_wp2_with fail
      go_quiet (first | (go_at_call 174; refine Calls.quiet_of (HE.out _ _)) | fail)
      go_wp2_with fail;go_ret2;exact ⟨_,rfl,Ap.Rd.below (HTL.out _ (.inl rfl)) (HB.out.trans (Tr.Below.drewN _ _ _)),HB.out.trans (Tr.Below.drewN _ _ _)⟩
  · rw [if_neg hs];rw [decide_eq_false hs] at HE
    go_enter Tryz.func104,Tryz.ntmps104
    go_wp2_with fail
    go_quiet (first | (go_at_call 174; refine Calls.quiet_of (HE.out _ _)) | fail)
    go_wp2_with fail;go_ret2;exact ⟨_,rfl,z7y _,HB.out.trans (Tr.Below.drewN _ _ _)⟩
theorem x1q (ya:Option Addr) (yn yc:Nat) (d a:Value) (D A:List ByteArray) (w:World) (hd:Tr.Strs w d D) (ha:Tr.Strs w a A) (hD:D=[]∨∃ s,D=[s]) :
    Calls Tryz.prog 104 #[.agg #[.slice ya yn yc,d],a] w (RtP (cutR D A) w):=by
  rcases hD with rfl | ⟨s,rfl⟩
  · obtain ⟨_,da,dc,rfl,_⟩:=hd;obtain ⟨_,aa,ac,rfl,hn,hz,_⟩:=id ha
    cases aa with
    | none=>
      obtain ⟨h1,rfl⟩:=hz rfl;obtain rfl:A=[]:=List.eq_nil_of_length_eq_zero h1;exact rest_nil ya da yn yc dc w
    | some ad=>exact x8w ya da ad yn yc dc _ ac A w ha hn
  · obtain ⟨_,da,dc,rfl,_,_,hcell⟩:=hd;obtain ⟨db,d0,rfl,hj⟩:=hcell (by simp);have e1:=hj 0 (.string s) rfl;rw [Nat.add_zero] at e1
    cases A with
    | nil=>
      obtain ⟨_,aa,ac,rfl,_⟩:=ha;exact x4u ya aa yn yc db d0 dc ac w
    | cons x A=>
      obtain ⟨_,aa,ac,rfl,hn,_,hcell⟩:=id ha;obtain ⟨b,o,rfl,hk⟩:=hcell (by simp);have e2:=hk 0 (.string x) rfl;rw [Nat.add_zero] at e2;exact rest_one ya yn yc db d0 dc b o A.length ac s x A w e1 ha (by simpa using hn) e2 rfl
end Ru
namespace Ru
open Go Go.RowKit Rw YtpingbiibbmcaaaGreatDoor.So Sx Se Tr Mn Do Sp Me St
def PlP (r:Rn) (w:World) (e:Ending) (w':World):Prop:=∃ y a,e=.returned (.agg #[y,a,.int .i64 r.n])∧Nds w' y r.l∧Tr.Strs w' a r.a∧Below w.heap.size w w'
def AlP (l:List Nd) (w:World) (e:Ending) (w':World):Prop:=∃ y,e=.returned (.tuple #[y,.int .i64 (errR l)])∧Trs w' y (allR l)∧Below w.heap.size w w'
def FiP (o:Option (List Nat)) (w:World) (e:Ending) (w':World):Prop:=∃ y,e=.returned (.tuple #[y,.bool o.isSome])∧Rw.Ints w' y ((o.getD []).map Int.ofNat)∧Below w.heap.size w w'
def Alive:Prop:=∀ w:World,Sg.Tab w→Calls Tryz.prog 11 #[] w fun e w'=>e=.returned (.bool true)∧Below w.heap.size w w'
theorem x0i (v:Value) (l:List Nd) (w:World) (h:Nds w v l) :
    Calls Tryz.prog 10 #[v] w fun e w'=>e=.returned (.bool (Do.fewB l))∧w=w':=by
  have hr:Do.fewB l=(decide (l.length≤100)&&decide (depth l≤24)):=rfl;rw [hr]
  by_cases h1:l.length≤100
  · have HD:=Lib.hid (y2g v l w h (by omega));obtain ⟨d,hd⟩:∃ d,depth l=d:=⟨_,rfl⟩
    rw [hd] at HD ⊢;rw [decide_eq_true h1,Bool.true_and];obtain ⟨_,a,cap,rfl,-⟩:=h;clear hr hd
    go_enter Tryz.func10,Tryz.ntmps10
    go_wp2_with fail;refine HD.out.mono ?_;rintro e w' ⟨rfl,rfl⟩;go_wp2_with fail;go_ret;exact ⟨Rw.ret_bool (decide_eq_decide.2 (by omega)),rfl⟩
  · rw [decide_eq_false h1,Bool.false_and];obtain ⟨_,a,cap,rfl,-⟩:=h;have h2:¬ (l.length:Int)≤100:=by omega
    clear hr
    go_enter Tryz.func10,Tryz.ntmps10
    go_wp2_with fail;go_ret;exact ⟨rfl,rfl⟩
def litB (l:List Nd):Bool:=Do.fewB l&&decide (cnt l [1,6,4,10]≤8)
theorem lit_few {l:List Nd} (h:litB l=true):Do.fewB l=true:=by
  unfold litB at h;rw [Bool.and_eq_true] at h;exact h.1
theorem v1q (w:World) (x y z u:Int) (ty:TypeId):Rw.Ints (w.alloc (.cells #[.int .i64 x,.int .i64 y,.int .i64 z,.int .i64 u] ty)) (.slice (some ⟨w.heap.size,0,none⟩) 4 4) [x,y,z,u]:=
  ⟨rfl,some ⟨w.heap.size,0,none⟩,4,rfl,Nat.le_refl _,fun h=>(by cases h),fun _=>⟨w.heap.size,0,rfl,fun j u hu=>by
    rw [Nat.zero_add,World.cell?_alloc_new]
    simpa using hu⟩⟩
theorem x5u (v:Value) (l:List Nd) (w:World) (hv:Nds w v l) :
    Calls Tryz.prog 19 #[v] w fun e w'=>e=.returned (.bool (litB l))∧Below w.heap.size w w':=by
  have HF:=Lib.hid (x0i v l w hv);have hr:litB l=(Do.fewB l&&decide (cnt l [1,6,4,10]≤8)):=rfl;rw [hr]
  cases hf:Do.fewB l with
  | false=>
    rw [hf] at HF;rw [Bool.false_and];obtain ⟨_,a,c,rfl,-⟩:=hv;clear hf hr
    go_enter Tryz.func19,Tryz.ntmps19
    go_wp2_with fail;refine HF.out.mono ?_;rintro e w1 ⟨rfl,rfl⟩;go_wp2_with fail;go_ret;exact ⟨rfl,Below.refl _ _⟩
  | true=>
    rw [hf] at HF;rw [Bool.true_and];have hl:=Do.few_len hf;have HC:=Lib.hid (fun y w1 (hb:Below w.heap.size w w1) hy=>Rx.z7h v y l [1,6,4,10] w1 (hv.below hb) hy (by omega) (by simp));generalize cnt l [1,6,4,10]=n at HC ⊢;obtain ⟨_,a,c,rfl,-⟩:=hv;have HI:=Lib.hid (fun ty=>v1q w 1 6 4 10 ty);have B0:=Lib.hid (fun o=>(Below.refl w.heap.size w).alloc (Nat.le_refl _) o);obtain ⟨m,hm⟩:∃ m,l.length=m:=⟨_,rfl⟩
    rw [hm] at HC HF hl ⊢;clear hf hr hm
    go_enter Tryz.func19,Tryz.ntmps19
    go_wp2_with fail;refine HF.out.mono ?_;rintro e w1 ⟨rfl,rfl⟩;go_wp2_with fail;refine (HC.out _ _ (B0.out _) (HI.out _)).mono ?_;rintro e w1 ⟨rfl,hb1⟩;have B1:=Lib.hid ((B0.out _).trans (hb1.mono (B0.out _).size));clear hb1
    by_cases h2:n≤8
    · have g2:decide ((n:Int)≤8)=true:=by simpa using (show (n:Int)≤8 by omega)
      go_wp2_with fail;go_ret;exact ⟨by simp [h2],B1.out⟩
    · have g2:decide ((n:Int)≤8)=false:=by simpa using (show ¬ (n:Int)≤8 by omega)
      go_wp2_with fail;go_ret;exact ⟨by simp [h2],B1.out⟩
end Ru
namespace Ru
open Go Rw YtpingbiibbmcaaaGreatDoor.So Se Tr Mn Do Sp Me St
def keyN (x:Nd):List UInt8:=UInt8.ofNat x.k.toNat::UInt8.ofNat x.s.toNat::x.n.data.toList
def keyL (l:List Nd):List UInt8:=l.flatMap keyN
theorem low_all {l:List UInt8} (h:low l=true):∀ c∈l,97≤c.toNat:=by
  unfold low at h;rw [List.all_eq_true] at h;intro c hc;have:=h c hc;simp only [Bool.and_eq_true,decide_eq_true_eq] at this;exact this.1
theorem y3b {x:Nd} (h:rgt x=true):(0≤x.k∧x.k≤14)∧(0≤x.s∧x.s≤3)∧∀ c∈x.n.data.toList,97≤c.toNat:=by
  have emp:∀ {n:ByteArray},n.size=0→∀ c∈n.data.toList,97≤c.toNat:=fun {n} h c hc=>by
    have:n.data.toList=[]:=List.eq_nil_of_length_eq_zero (by simpa using h);rw [this] at hc
    cases hc
  have hk:0≤x.k∧x.k≤14:=by
    refine Decidable.byContradiction fun hc=>?_
    have:ar x.k<0:=by
      unfold ar
      repeat (first | (rw [if_neg (by omega)]) | (split))
      all_goals omega
    unfold rgt at h;rw [if_pos this] at h
    cases h
  refine ⟨hk,?_⟩;unfold rgt at h
  split at h
  · cases h
  · split at h
    · simp only [Bool.and_eq_true,beq_iff_eq,decide_eq_true_eq] at h;exact ⟨by omega,low_all h.1.1.1⟩
    · split at h
      · simp only [Bool.and_eq_true,decide_eq_true_eq] at h;exact ⟨by omega,emp h.1⟩
      · simp only [Bool.and_eq_true,beq_iff_eq,decide_eq_true_eq] at h;exact ⟨by omega,emp h.1⟩
theorem head_low {l m:List UInt8} {r q:List UInt8} (hl:∀ c∈l,97≤c.toNat) (hm:∀ c∈m,97≤c.toNat) (hr:∀ c,r.head?=some c→c.toNat≤14) (hq:∀ c,q.head?=some c→c.toNat≤14) (h:l++r=m++q):l=m∧r=q:=by
  induction l generalizing m with
  | nil=>
    cases m with
    | nil=>exact ⟨rfl,h⟩
    | cons c m=>
      have h':r=c::(m++q):=h;have:=hr c (by rw [h']; rfl);have:=hm c (List.mem_cons_self ..);omega
  | cons c l ih=>
    cases m with
    | nil=>
      have h':c::(l++r)=q:=h;have:=hq c (by rw [← h']; rfl);have:=hl c (List.mem_cons_self ..);omega
    | cons d m=>
      injection h with h1 h2;obtain ⟨e1,e2⟩:=ih (fun c hc=>hl c (List.mem_cons_of_mem _ hc)) (fun c hc=>hm c (List.mem_cons_of_mem _ hc)) h2;exact ⟨by rw [h1,e1],e2⟩
theorem x2k {l:List Nd} (h:l.all rgt=true):∀ c,(keyL l).head?=some c→c.toNat≤14:=by
  cases l with
  | nil=>intro c h; cases h
  | cons x l=>
    intro c hc;rw [List.all_cons,Bool.and_eq_true] at h;have hk:=(y3b h.1).1
    have:c=UInt8.ofNat x.k.toNat:=by
      have:(keyL (x::l)).head?=some (UInt8.ofNat x.k.toNat):=rfl;rw [this] at hc;exact (Option.some.inj hc).symm
    rw [this,UInt8.toNat_ofNat'];omega
theorem of_inj {a b:Int} (ha:0≤a∧a≤14) (hb:0≤b∧b≤14) (h:UInt8.ofNat a.toNat=UInt8.ofNat b.toNat):a=b:=by
  have:=congrArg UInt8.toNat h;rw [UInt8.toNat_ofNat',UInt8.toNat_ofNat'] at this;omega
theorem key_inj:∀ {l m:List Nd},l.all rgt=true→m.all rgt=true→keyL l=keyL m→l=m
  | [],[],_,_,_=>rfl
  | [],y::m,_,_,h=>by cases h
  | x::l,[],_,_,h=>by cases h
  | x::l,y::m,hl,hm,h=>by
    rw [List.all_cons,Bool.and_eq_true] at hl hm;have h':UInt8.ofNat x.k.toNat::UInt8.ofNat x.s.toNat::(x.n.data.toList++keyL l)=UInt8.ofNat y.k.toNat::UInt8.ofNat y.s.toNat::(y.n.data.toList++keyL m):=h;injection h' with h1 h2;injection h2 with h2 h3;obtain ⟨x1,x2,x3⟩:=y3b hl.1;obtain ⟨y1,y2,y3⟩:=y3b hm.1;obtain ⟨e1,e2⟩:=head_low x3 y3 (x2k hl.2) (x2k hm.2) h3;have ek:=of_inj x1 y1 h1;have es:=of_inj (by omega) (by omega) h2;have en:x.n=y.n:=ByteArray.ext (Array.toList_inj.1 e1);rw [key_inj hl.2 hm.2 e2]
    congr 1
    cases x
    cases y
    simp only at ek es en;rw [ek,es,en]
theorem x0j {l:List Nd} (h:errR l=0):l.all rgt=true:=by
  obtain ⟨t,rfl,hg,_⟩:=z0k.1 (z1r.1 h).2.1;exact hg.1
def keyS (l:List Nd):ByteArray:=⟨(keyL l).toArray⟩
theorem x2l {l m:List Nd} (hl:errR l=0) (hm:errR m=0) (h:keyS l=keyS m):l=m:=by
  refine key_inj (x0j hl) (x0j hm) ?_;have:=congrArg (fun b=>b.data.toList) h
  simpa [keyS] using this
abbrev tP:Tm:=.par (.act ⟨#[97]⟩) .yield
abbrev tQ:Tm:=.par (.over 1) .yield
abbrev tO:Tm:=.over 3
theorem gP:Goes tP:=⟨by decide +kernel,by decide,by decide⟩
theorem gQ:Goes tQ:=⟨by decide +kernel,by decide,by decide⟩
theorem gO:Goes tO:=⟨by decide +kernel,by decide,by decide⟩
theorem nP:Nf tP:=⟨trivial,trivial,rfl,rfl⟩
theorem nQ:Nf tQ:=⟨trivial,trivial,rfl,rfl⟩
theorem enP:enR (flat tP)=[⟨1,1⟩,⟨2,4⟩,⟨2,5⟩]:=by rw [z4r gP nP]; rfl
theorem enQ:enR (flat tQ)=[⟨2,4⟩,⟨2,5⟩]:=by rw [z4r gQ nQ]; rfl
theorem enO:enR (flat tO)=[]:=by rw [z4r gO trivial]; rfl
theorem fP:nxL (flat tP) ⟨1,1⟩=flat tQ∧nxS (flat tP) ⟨1,1⟩=⟨#[97]⟩:=by
  obtain ⟨h1,h2,h3⟩:=z6v gP nP (mo:=⟨1,1,some ⟨#[97]⟩,.par (.over 1) .yield⟩) (by simp [mvs,upm]);exact ⟨h1.trans (congrArg flat rfl),h2⟩
theorem fQ4:nxL (flat tQ) ⟨2,4⟩=flat (.over 1)∧nxS (flat tQ) ⟨2,4⟩=⟨#[]⟩:=by
  obtain ⟨h1,h2,h3⟩:=z6v gQ nQ (mo:=⟨2,4,none,.par (.over 1) (.over 1)⟩) (by simp [mvs,upm,sz]);exact ⟨h1.trans (congrArg flat rfl),h2⟩
theorem fQ5:nxL (flat tQ) ⟨2,5⟩=flat tO∧nxS (flat tQ) ⟨2,5⟩=⟨#[]⟩:=by
  obtain ⟨h1,h2,h3⟩:=z6v gQ nQ (mo:=⟨2,5,none,.par (.over 1) (.over 3)⟩) (by simp [mvs,upm,sz,bangT]);exact ⟨h1.trans (congrArg flat rfl),h2⟩
theorem pkP:pkM (flat tP) 0=⟨1,1⟩:=by unfold pkM; rw [enP]; decide
theorem pkQ:pkM (flat tQ) 1=⟨2,5⟩:=by unfold pkM; rw [enQ]; decide
theorem playP:play (flat tP) [0,1,7]=⟨flat tO,[⟨#[97]⟩],2⟩:=by
  unfold play;rw [List.foldl_cons,List.foldl_cons,List.foldl_cons,List.foldl_nil];rw [z3s (r:=⟨flat tP,[],0⟩) (by rw [enP]; simp) 0];simp only [pkP,fP.1,fP.2];rw [if_pos trivial,z3s (by show enR (flat tQ)≠[]; rw [enQ]; simp) 1];simp only [pkQ,fQ5.1];rw [if_neg (by decide),z4w (by show enR (flat tO)=[]; exact enO) 7]
  rfl
theorem playP0:play (flat tP) [0]=⟨flat tQ,[⟨#[97]⟩],1⟩:=by
  unfold play;rw [List.foldl_cons,List.foldl_nil,z3s (r:=⟨flat tP,[],0⟩) (by rw [enP]; simp) 0];simp only [pkP,fP.1,fP.2]
  rfl
theorem errP:errR (flat tP)=0:=z1r.2 ⟨by rw [z2u gP.1 gP.2.1 false]; rfl,z0k.2 ⟨_,rfl,gP,nP⟩,by decide +kernel⟩
theorem errQ:errR (flat tQ)=0:=z1r.2 ⟨by rw [z2u gQ.1 gQ.2.1 false]; rfl,z0k.2 ⟨_,rfl,gQ,nQ⟩,by decide +kernel⟩
theorem errO:∀ s:Int,s=1∨s=3→errR (flat (.over s))=0:=by
  rintro s (rfl | rfl)
  · exact z1r.2 ⟨by rw [z2u (by decide +kernel) (by decide) false]; rfl,z0k.2 ⟨_,rfl,⟨by decide +kernel,by decide,by decide⟩,trivial⟩,by decide +kernel⟩
  · exact z1r.2 ⟨by rw [z2u (by decide +kernel) (by decide) false]; rfl,z0k.2 ⟨_,rfl,⟨by decide +kernel,by decide,by decide⟩,trivial⟩,by decide +kernel⟩
theorem errS:errR [nOf 2]=1:=by
  have:setB (flat .skip)=false:=by
    cases h:setB (flat .skip) with
    | false=>rfl
    | true=>
      obtain ⟨t,e,_,hn⟩:=z0k.1 h;have:t=.skip:=z2d _ _ e;subst this;exact hn.elim
  unfold errR;rw [show ([nOf 2]:List Nd)=flat .skip from rfl,this,Bool.and_false]
  rfl
theorem mtO (s:Int) (h:s=1∨s=3):MtR (flat (.over s))=[⟨[],s⟩]:=by rw [z7q (errO s h),z0u]
theorem mtQ:MtR (flat tQ)=[⟨[],1⟩,⟨[],3⟩]:=by
  have h11:Sg.both 1 1=1:=rfl;have h13:Sg.both 1 3=3:=rfl;rw [z7q errQ,z9u,Sp.z5a,z0u];simp [Mn.two,one,pr,mx,norm,ins,cmp,row,h11,h13,tick]
theorem mtP:MtR (flat tP)=[⟨[⟨#[97]⟩],1⟩,⟨[⟨#[97]⟩],3⟩]:=by
  have h11:Sg.both 1 1=1:=rfl;have h13:Sg.both 1 3=3:=rfl;rw [z7q errP,z9u,Sp.z5a,Sp.v0v];simp [Mn.two,one,pr,mx,norm,ins,cmp,row,h11,h13,tick,z6d]
theorem okP:firstR (flat tP) ⟨[⟨#[97]⟩],3⟩=some 0:=by
  have h:okM (flat tP) ⟨[⟨#[97]⟩],3⟩ ⟨1,1⟩=true:=by
    unfold okM;rw [fP.1,fP.2,show restR (⟨[⟨#[97]⟩],3⟩:Tr) 1 ⟨#[97]⟩=some ⟨[],3⟩ from by simp [restR],mtQ];exact z1p.2 (by simp)
  unfold firstR;rw [enP,List.findIdx?_cons,h]
  rfl
theorem okQ:firstR (flat tQ) ⟨[],3⟩=some 1:=by
  have h1:okM (flat tQ) ⟨[],3⟩ ⟨2,4⟩=false:=by
    unfold okM;rw [fQ4.1,show restR (⟨[],3⟩:Tr) 4 (nxS (flat tQ) ⟨2,4⟩)=some ⟨[],3⟩ from by simp [restR],mtO 1 (.inl rfl)];simp [hasT,cmp,row]
  have h2:okM (flat tQ) ⟨[],3⟩ ⟨2,5⟩=true:=by
    unfold okM;rw [fQ5.1,show restR (⟨[],3⟩:Tr) 5 (nxS (flat tQ) ⟨2,5⟩)=some ⟨[],3⟩ from by simp [restR],mtO 3 (.inr rfl)];exact z1p.2 (by simp)
  unfold firstR;rw [enQ,List.findIdx?_cons,h1,List.findIdx?_cons,h2]
  rfl
theorem findP:findR (flat tP) ⟨[⟨#[97]⟩],3⟩=some [0,1]:=by
  unfold findR;rw [if_pos (by rw [errP,mtP,show hasT [(⟨[⟨#[97]⟩],1⟩:Tr),⟨[⟨#[97]⟩],3⟩] ⟨[⟨#[97]⟩],3⟩=true from z1p.2 (by simp)]; rfl)]
  show findN 4 (flat tP) ⟨[⟨#[97]⟩],3⟩=some [0,1]
  unfold findN;rw [if_neg (by decide),okP,enP];simp only [List.getElem?_cons_zero];rw [fP.1,fP.2,show (restR (⟨[⟨#[97]⟩],3⟩:Tr) 1 ⟨#[97]⟩).getD ⟨[⟨#[97]⟩],3⟩=⟨[],3⟩ from by simp [restR]];unfold findN;rw [if_neg (by decide),okQ,enQ];simp only [List.getElem?_cons_zero,List.getElem?_cons_succ];rw [fQ5.1,show (restR (⟨[],3⟩:Tr) 5 (nxS (flat tQ) ⟨2,5⟩)).getD ⟨[],3⟩=⟨[],3⟩ from by simp [restR]];unfold findN;rw [if_pos (by decide)]
  rfl
theorem txtA:Tr.txt ⟨[⟨#[97]⟩],3⟩=⟨#[97,32,63]⟩:=rfl
end Ru
namespace Ru
open Go Go.RowKit Go.Maps Rw YtpingbiibbmcaaaGreatDoor.So Se Tr Mn Do Sp Me St
def Ck (w w':World):Prop:=∀ p u,w.cell? p=some u→w'.cell? p=some u
theorem Ck.refl (w:World):Ck w w:=fun _ _ h=>h
theorem Ck.of_below {w w':World} (h:Below w.heap.size w w'):Ck w w':=fun p u hc=>by rw [h.cell (Ap.z0a hc)]; exact hc
theorem Ck.of_fine {P:Program} {k:TypeId} {w w':World} {b:Nat} {R:Value→Value→Prop} (h:Mg.Fine P k w b R) (hg:w.grownBy w' (some b)):Ck w w':=fun p u hc=>by
  rw [World.cell?_of_block (hg.block _ (Ap.z0a hc) (fun e=>h.apart hc (Option.some.inj e)))];exact hc
theorem rd_ck {w w':World} {size n:Nat} {v:Value} {cs:List Value} (h:Ap.Rd w size v n cs) (hk:Ck w w'):Ap.Rd w' size v n cs:=by
  obtain ⟨hl,a,cap,hv,hc,hn,hcell⟩:=h;refine ⟨hl,a,cap,hv,hc,hn,fun h0=>?_⟩;obtain ⟨b,off,ha,hj⟩:=hcell h0;exact ⟨b,off,ha,fun j u hu=>hk _ _ (hj j u hu)⟩
theorem y6d {w w':World} {v:Value} {l:List Nd} (h:Nds w v l) (hk:Ck w w'):Nds w' v l:=rd_ck h hk
theorem y8b {w w':World} {v:Value} {l:List ByteArray} (h:Tr.Strs w v l) (hk:Ck w w'):Tr.Strs w' v l:=rd_ck h hk
theorem v0r {w w':World} {v:Value} {l:List Mv} (h:Mvs w v l) (hk:Ck w w'):Mvs w' v l:=rd_ck h hk
structure Tu (b:Nat) (w w':World):Prop where
  by':w.grownBy w' (some b)
  ck:Ck w w'
theorem Tu.refl (b:Nat) (w:World):Tu b w w:=⟨⟨rfl,rfl,rfl,Nat.le_refl _,fun _ _ _=>rfl⟩,Ck.refl w⟩
theorem Tu.of {b:Nat} {w w':World} (h:Below w.heap.size w w'):Tu b w w':=⟨⟨h.os,h.tape,h.output,h.size,fun i hi _=>h.block i hi⟩,Ck.of_below h⟩
theorem Two'.enough {l:List Nd} {E:List Mv} (h:Two' (enR l) E):Enough (enR l) E:=by
  rcases h with rfl | ⟨k,hk,hp,rfl⟩
  · exact .inl rfl
  · exact Enough.pair hk hp
end Ru
namespace Ru
open Go Go.RowKit Rw YtpingbiibbmcaaaGreatDoor.So Se Tr Do Sp Me St
theorem so_off {ok:Nat→Prop} {w w':World} {g:Nat} {v:Value} {l:List ByteArray} {xs:Array Value} {T:TypeId} {fr:Nat × Nat} (h:StrsO ok w v l) (hg:w.heap[g]?=some (.cells xs T fr)) (hx:∀ u∈xs.toList,∀ s,u≠.string s) (hm:w.grownBy w' (some g)):StrsO ok w' v l:=by
  obtain ⟨_,a',c',hv',_,_,hcell'⟩:=z7x (Ap.RdO.rd h) hg hx hm;obtain ⟨hl,a,cap,hv,hc,hn,hcell⟩:=h;rw [hv] at hv';injection hv' with e1 e2 e3;refine ⟨hl,a,cap,hv,hc,hn,fun h0=>?_⟩;obtain ⟨b,off,ha,ho,hlt,_⟩:=hcell h0;obtain ⟨b',off',ha',hj'⟩:=hcell' h0;rw [← e1,ha] at ha';injection ha' with ha';injection ha' with h1 h2 h3;exact ⟨b,off,ha,ho,Nat.lt_of_lt_of_le hlt hm.size,fun j u hu=>by rw [h1,h2]; exact hj' j u hu⟩
def ByP (l:List Nd) (m:Mv) (w:World) (e:Ending) (w':World):Prop:=∃ y d,e=.returned (.agg #[y,d])∧Nds w' y (nxL l m)∧StrsO (fun b=>w.heap.size≤b) w' d (didR l m)∧Below w.heap.size w w'
theorem x3k (v:Value) (l:List Nd) (m:Mv) (w:World) (hv:Nds w v l) (hl:l.length≤1000) (hm:Nms l):Calls Tryz.prog 41 #[v,mvV m] w (ByP l m w):=by
  have HB:=Lib.hid (fun x y=>((Below.refl w.heap.size w).alloc (Nat.le_refl _) x).alloc (by simp) y);have HN:=Lib.hid (fun w1 (hb:Below w.heap.size w w1)=>v0m v l m w1 (hv.below hb) hl hm);have HD:=Lib.hid (show didR l m=if m.h=1 then [nxS l m] else [] from rfl);obtain ⟨mp,mh⟩:=m;obtain ⟨_,a,c,rfl,-⟩:=hv;unfold ByP;generalize nxL l ⟨mp,mh⟩=L at *
  go_enter Tryz.func41,Tryz.ntmps41
  go_wp2_with fail;refine (HN.out _ (HB.out _ _)).mono ?_;rintro e w1 ⟨y,rfl,hy,hb⟩;have q0:=kc (p:=⟨w.heap.size,1,none⟩) (u:=.int .i64 mh) hb (by simp [go_sem]);have q1:=kc (p:=⟨w.heap.size+1,0,none⟩) (u:=.slice none 0 0) hb (by simp [go_sem]);have q2:=kc (p:=⟨w.heap.size+1,1,none⟩) (u:=.slice none 0 0) hb (by simp [go_sem]);have q3:=kf (p:=⟨w.heap.size+1,0,none⟩) hb (by simp [go_sem]) (by simp);have q4:=kf (p:=⟨w.heap.size+1,1,none⟩) hb (by simp [go_sem]) (by simp);have G:Hid (w1.heap[w.heap.size+1]?=some (.cells #[.slice none 0 0,.slice none 0 0] 75 (0,0))):=Lib.hid ((hb.block _ (by simp)).trans (new2 _ _ _));have D1:=Lib.hid ((HB.out _ _).trans (hb.mono (HB.out _ _).size));have HY:=Lib.hid hy;obtain ⟨_,ya,yc,rfl,_⟩:=id hy;clear hb hy
  by_cases h1:mh=1
  · subst h1;obtain ⟨W,hW⟩:∃ W,w1.alloc (.cells #[.string (nxS l ⟨mp,1⟩)] 9)=W:=⟨_,rfl⟩
    have B2:=Lib.hid (show Below w1.heap.size w1 W by rw [← hW]; exact Rw.z0b _ _);have p1:=kc B2.out q1;have p2:=kc B2.out q2;have p3:=kf (p:=⟨w.heap.size+1,0,none⟩) B2.out q3 (Ap.z0a q1);have p4:=kf (p:=⟨w.heap.size+1,1,none⟩) B2.out q4 (Ap.z0a q2);have G2:=Lib.hid ((B2.out.block _ (Ap.z0a q1)).trans G.out)
    have HS:=Lib.hid (show StrsO (fun b=>w.heap.size≤b) W (.slice (some ⟨w1.heap.size,0,none⟩) 1 1) [nxS l ⟨mp,1⟩] from ⟨rfl,_,1,rfl,Nat.le_refl _,fun h=>(by cases h),fun _=>⟨w1.heap.size,0,rfl,D1.out.size,by rw [← hW]; simp,fun j u hu=>by
      rw [← hW,Nat.zero_add,World.cell?_alloc_new]
      simpa using hu⟩⟩)
    go_wp2_with fail;have k0:((W.setCell ⟨w.heap.size+1,0,none⟩ (.slice ya L.length yc)).setCell ⟨w.heap.size+1,1,none⟩ (.slice (some ⟨w1.heap.size,0,none⟩) 1 1)).cell? ⟨w.heap.size+1,0,none⟩=some (.slice ya L.length yc):=by rw [Se.z0v (by omega)]; exact Se.z0p p1
    have k1:((W.setCell ⟨w.heap.size+1,0,none⟩ (.slice ya L.length yc)).setCell ⟨w.heap.size+1,1,none⟩ (.slice (some ⟨w1.heap.size,0,none⟩) 1 1)).cell? ⟨w.heap.size+1,1,none⟩=some (.slice (some ⟨w1.heap.size,0,none⟩) 1 1):=Se.z0p (by rw [Se.z0v (by omega)]; exact p2);refine bodyPost_ret (v:=.agg #[.slice ya L.length yc,.slice (some ⟨w1.heap.size,0,none⟩) 1 1]) (by simp [results,Tryz.results41,go_sem,k0,k1]) rfl ⟨_,_,rfl,?_,?_,?_⟩
    · exact z9r (HY.out.below B2.out) G2.out (by simp) (y2j _ _ _ _)
    · rw [HD.out];exact so_off HS.out G2.out (by simp) (y2j _ _ _ _)
    · exact Rx.z0f (Rx.z0f (D1.out.trans (B2.out.mono D1.out.size)) _ _ _ (by omega)) _ _ _ (by omega)
  · have h2:(mh==1)=false:=by simpa using h1
    go_wp2_with fail;have k0:((w1.setCell ⟨w.heap.size+1,0,none⟩ (.slice ya L.length yc)).setCell ⟨w.heap.size+1,1,none⟩ (.slice none 0 0)).cell? ⟨w.heap.size+1,0,none⟩=some (.slice ya L.length yc):=by rw [Se.z0v (by omega)]; exact Se.z0p q1
    have k1:((w1.setCell ⟨w.heap.size+1,0,none⟩ (.slice ya L.length yc)).setCell ⟨w.heap.size+1,1,none⟩ (.slice none 0 0)).cell? ⟨w.heap.size+1,1,none⟩=some (.slice none 0 0):=Se.z0p (by rw [Se.z0v (by omega)]; exact q2);refine bodyPost_ret (v:=.agg #[.slice ya L.length yc,.slice none 0 0]) (by simp [results,Tryz.results41,go_sem,k0,k1]) rfl ⟨_,_,rfl,?_,?_,?_⟩
    · exact z9r HY.out G.out (by simp) (y2j _ _ _ _)
    · rw [HD.out,if_neg h1];exact ⟨rfl,none,0,rfl,Nat.le_refl _,fun _=>⟨rfl,rfl⟩,fun h=>absurd h (Nat.lt_irrefl _)⟩
    · exact Rx.z0f (Rx.z0f D1.out _ _ _ (by omega)) _ _ _ (by omega)
end Ru
end Go.Proofs.YtpingbiibbmcaaaGreatDoor
