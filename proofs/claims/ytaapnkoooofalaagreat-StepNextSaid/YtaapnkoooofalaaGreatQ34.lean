/- slices.Index and slices.Contains over moves: the walks. What the laws of move ask of the program; few; MoveEnabled: the walks. The document's Next, Refuse, of any row and move. The program's ways: the map that it makes; always. Arguments of move's laws: a move. What the laws of step ask of the program; few; StepNext: the walks. The program's movesAt: the walk. Arguments of step's laws: a pair of integers within 64 bits. -/
import Derived.Test.YtaapnkoooofalaaGreatQ32
import Derived.Deep.QuietTactic
import Derived.BigQuiet
import Derived.Test.YtaapnkoooofalaaGreatQ31
import Derived.Lib.LaidTab
import Derived.Test.YtaapnkoooofalaaGreatQ33
import Derived.Test.YtaapnkoooofalaaGreatQ04
import Derived.OpenShut
import Derived.Test.YtaapnkoooofalaaGreatQ30
import Derived.Laws.EntriesVeiled

namespace Go.Proofs.YtaapnkoooofalaaGreat.Me
open Go Go.RowKit Rw So Se Do
set_option maxRecDepth 20000
def idxM (x:Mv):List Mv→Nat→Int
  | [],_=>-1
  | y::l,k=>if x=y then k else idxM x l (k+1)
theorem idxM_mem (x:Mv) (l:List Mv) (k:Nat):decide (0≤idxM x l k)=decide (x∈l):=by
  induction l generalizing k with
  | nil=>simp [idxM]
  | cons y l ih=>
    unfold idxM
    by_cases h:x=y
    · rw [if_pos h,decide_eq_true (show x∈y::l by rw [h]; exact List.mem_cons_self)];simp
    · rw [if_neg h,ih (k+1)];simp [h]
theorem idxM_end {x:Mv} {l:List Mv} {k:Nat} (h:¬ k < l.length):idxM x (l.drop k) k=-1:=by rw [List.drop_eq_nil_of_le (by omega)]; rfl
theorem idxM_at {x:Mv} {l:List Mv} {k:Nat} (h:k < l.length):idxM x (l.drop k) k=if x=l[k] then (k:Int) else idxM x (l.drop (k+1)) (k+1):=by
  rw [List.drop_eq_getElem_cons h,idxM]
set_option maxHeartbeats 400000 in
theorem idxM_empty (a:Option Addr) (cap:Nat) (xp xh:Int) (w:World) :
    Calls Tryz.prog 80 #[.slice a 0 cap,.agg #[.int .i64 xp,.int .i64 xh]] w fun e w'=>e=.returned (.int .i64 (-1))∧Below w.heap.size w w':=by
  go_enter Tryz.func80,Tryz.ntmps80
  go_wp2_with fail;refine Go.wp_loop_rounds 1 ?_;rw [rounds_succ];go_wp2_with fail;go_ret;exact ⟨rfl,below1 _ _⟩
set_option maxHeartbeats 2000000 in
theorem idxM_cells (b off cap:Nat) (l:List Mv) (x:Mv) (w:World) (hat:AtM w b off l) (hl:l.length≤1000000) :
    Calls Tryz.prog 80 #[.slice (some ⟨b,off,none⟩) l.length cap,mvV x] w fun e w'=>e=.returned (.int .i64 (idxM x l 0))∧Below w.heap.size w w':=by
  obtain ⟨xp,xh⟩:=x;have HA:=Lib.hid (hat.below (below1 w (.cells #[.int .i64 xp,.int .i64 xh] 24)));have HB0:=Lib.hid (Bm.new w ⟨xp,xh⟩);have DB:=Lib.hid (below1 w (.cells #[.int .i64 xp,.int .i64 xh] 24));obtain ⟨wB,hwB⟩:∃ wB,w.alloc (.cells #[.int .i64 xp,.int .i64 xh] 24)=wB:=⟨_,rfl⟩
  obtain ⟨bM,hbM⟩:∃ bM,w.heap.size=bM:=⟨_,rfl⟩
  have HS:Hid (w.heap.size≤wB.heap.size):=Lib.hid (by rw [← hwB]; simp);change Hid (Bm (w.alloc (.cells #[.int .i64 xp,.int .i64 xh] 24)) w.heap.size ⟨xp,xh⟩) at HB0;rw [hwB] at HA HB0 DB;rw [hbM] at HB0;clear hat
  go_enter Tryz.func80,Tryz.ntmps80
  go_wp2_with fail;clear hwB
  go_loopw [8] (fun i wr=>∃ k:Nat,k≤l.length∧i=.int .i64 k∧Hid (Below wB.heap.size wB wr)∧Hid (idxM ⟨xp,xh⟩ l 0=idxM ⟨xp,xh⟩ (l.drop k) k)) (fun i _=>l.length - (intOf i).toNat)
  case atStart=>exact ⟨0,Nat.zero_le _,rfl,Lib.hid (Below.refl _ _),Lib.hid rfl⟩
  case round=>
    obtain ⟨k,hk,rfl,HB,HK⟩:=hrel
    by_cases hlt:k < l.length
    · obtain ⟨e1,e2⟩:=(HA.out.below HB.out) k hlt;obtain ⟨m1,m2,-⟩:=(HB0.out.below HB.out HB0.out.lt).cells;have HX:=Lib.hid (HK.out.trans (idxM_at hlt));obtain ⟨y,hy⟩:∃ y,l[k]=y:=⟨_,rfl⟩
      rw [hy] at e1 e2 HX;clear hy;obtain ⟨yp,yh⟩:=y;simp only at e1 e2 m1 m2;have hq:∀ w,(binOp .eql 24 (.agg #[.int .i64 xp,.int .i64 xh]) (.agg #[.int .i64 yp,.int .i64 yh])).run Tryz.prog w=.ok (.bool (decide ((⟨xp,xh⟩:Mv)=⟨yp,yh⟩))) w:=fun w=>eq_mv ⟨xp,xh⟩ ⟨yp,yh⟩ w
      by_cases hxy:(⟨xp,xh⟩:Mv)=⟨yp,yh⟩
      · rw [if_pos hxy] at HX;rw [decide_eq_true hxy] at hq;clear hxy;go_wp2_with fail
        go_quiet (fail)
        go_wp2_with fail;go_ret;exact ⟨ret_int HX.out.symm,DB.out.trans ((HB.out.trans (Below.drewN _ _ _)).mono HS.out)⟩
      · rw [if_neg hxy] at HX;rw [decide_eq_false hxy] at hq;clear hxy;go_wp2_with fail
        go_quiet (fail)
        go_wp2_with fail
        go_roundw
        case rel=>exact ⟨k+1,by omega,by go_num,Lib.hid (HB.out.trans (Below.drewN _ _ _)),HX⟩
        case measure=>simp [intOf]; omega
    · have HZ:Hid (idxM ⟨xp,xh⟩ l 0=-1):=Lib.hid (by rw [HK.out,idxM_end hlt]);go_wp2_with fail;go_ret;exact ⟨ret_int HZ.out.symm,DB.out.trans (HB.out.mono HS.out)⟩
theorem idxM_any (v:Value) (l:List Mv) (x:Mv) (w:World) (h:Mvs w v l) (hl:l.length≤1000000) :
    Calls Tryz.prog 80 #[v,mvV x] w fun e w'=>e=.returned (.int .i64 (idxM x l 0))∧Below w.heap.size w w':=by
  rcases h.form with ⟨rfl,a,cap,rfl⟩ | ⟨b,off,cap,rfl,_,hat⟩
  · exact idxM_empty a cap x.p x.h w
  · exact idxM_cells b off cap l x w hat hl
set_option maxHeartbeats 400000 in
theorem hasM_any (v:Value) (l:List Mv) (x:Mv) (w:World) (h:Mvs w v l) (hl:l.length≤1000000) :
    Calls Tryz.prog 49 #[v,mvV x] w fun e w'=>e=.returned (.bool (decide (x∈l)))∧Below w.heap.size w w':=by
  obtain ⟨xp,xh⟩:=x;have H:=Lib.hid (h.below (below1 w (.cells #[.int .i64 xp,.int .i64 xh] 24)));have D1:=Lib.hid (below1 w (.cells #[.int .i64 xp,.int .i64 xh] 24));have HQ:=Lib.hid (idxM_mem ⟨xp,xh⟩ l 0);obtain ⟨q,hq⟩:∃ q,idxM ⟨xp,xh⟩ l 0=q:=⟨_,rfl⟩
  rw [hq] at HQ;have HC:=Lib.hid hq;obtain ⟨_,a,cap,rfl,-⟩:=id h;clear h hq
  go_enter Tryz.func49,Tryz.ntmps49
  go_wp2_with fail;refine (idxM_any _ l ⟨xp,xh⟩ _ H.out hl).mono ?_;rw [HC.out];rintro e w' ⟨rfl,hb⟩;have HB:=Lib.hid (D1.out.trans (hb.mono D1.out.size));clear hb;go_wp2_with fail;go_ret;exact ⟨ret_bool HQ.out,HB.out⟩
end Go.Proofs.YtaapnkoooofalaaGreat.Me

namespace Go.Proofs.YtaapnkoooofalaaGreat.Me
open Go Go.RowKit Rw So Se Do
set_option maxRecDepth 20000
def In64 (n:Int):Prop:=-9223372036854775808≤n∧n≤9223372036854775807
def txC:Array Value:=#[.string ⟨#[]⟩,.string ⟨#[100,111]⟩,.string ⟨#[108,101,102,116]⟩,.string ⟨#[114,105,103,104,116]⟩,.string ⟨#[103,111]⟩,.string ⟨#[115,116,111,112]⟩]
def Tx (w:World):Prop:=w.var? Tryz.prog "redress/move.texts"=some txC∧Lib.TabIs Tryz.prog w "internal/strconv.uint64pow10" .u64 Lib.pow10Tab
end Go.Proofs.YtaapnkoooofalaaGreat.Me

namespace Go.Proofs.YtaapnkoooofalaaGreat.St
open Go Go.RowKit Rw So Se Do Sp Me
set_option maxRecDepth 20000
theorem nds_nil (w:World):Nds w (.slice none 0 0) []:=⟨rfl,none,0,rfl,Nat.le_refl _,fun _=>⟨rfl,rfl⟩,fun h=>absurd h (Nat.lt_irrefl 0)⟩
set_option maxHeartbeats 1000000 in
theorem next_no (v:Value) (l:List Nd) (m:Mv) (w:World) (hv:Nds w v l) (HI:∀ w1,Below w.heap.size w w1→Calls Tryz.prog 27 #[v,mvV m] w1 fun e w'=>e=.returned (.bool false)∧Below w1.heap.size w1 w') :
    Calls Tryz.prog 8 #[v,mvV m] w fun e w'=>∃ y,e=.returned (.tuple #[y,.string ⟨#[]⟩,.int .i64 120])∧Nds w' y []∧Below w.heap.size w w':=by
  obtain ⟨mp,mh⟩:=m;have D0:=Lib.hid (below1 w (.cells #[.int .i64 mp,.int .i64 mh] 24));have HIS:=Lib.hid (HI _ D0.out);have M0:=Lib.hid (bm_keep (Bm.new w ⟨mp,mh⟩));obtain ⟨_,a,c,rfl,-⟩:=hv;clear HI
  go_enter Tryz.func8,Tryz.ntmps8
  go_wp2_with fail;refine HIS.out.mono ?_;rintro e w4 ⟨rfl,hb1⟩;have D4:=Lib.hid (D0.out.trans (hb1.mono D0.out.size));clear hb1;go_wp2_with fail
  go_ret3
  exact ⟨_,rfl,nds_nil _,D4.out⟩
set_option maxHeartbeats 1000000 in
theorem refuse_no (v:Value) (l:List Nd) (m:Mv) (y:Bool) (w:World) (hv:Nds w v l) (hm:y=false∨m.h≠1) (HI:∀ w1,Below w.heap.size w w1→Calls Tryz.prog 27 #[v,mvV m] w1 fun e w'=>e=.returned (.bool y)∧Below w1.heap.size w1 w') :
    Calls Tryz.prog 10 #[v,mvV m] w fun e w'=>∃ y,e=.returned (.tuple #[y,.int .i64 120])∧Nds w' y []∧Below w.heap.size w w':=by
  obtain ⟨mp,mh⟩:=m;have D0:=Lib.hid (below1 w (.cells #[.int .i64 mp,.int .i64 mh] 24));have HIS:=Lib.hid (HI _ D0.out);have M0:=Lib.hid (Bm.new w ⟨mp,mh⟩);obtain ⟨bM,hbM⟩:∃ bM,w.heap.size=bM:=⟨_,rfl⟩
  obtain ⟨_,a,c,rfl,-⟩:=hv;clear HI
  have hm2:y=true→(mh != 1)=true:=fun e=>by
    rcases hm with h | h
    · rw [h] at e; cases e
    · rw [bne_iff_ne]; exact h
  clear hm
  cases y with
  | false=>
    clear hm2
    go_enter Tryz.func10,Tryz.ntmps10
    go_wp2_with fail;refine HIS.out.mono ?_;rintro e w4 ⟨rfl,hb1⟩;have D4:=Lib.hid (D0.out.trans (hb1.mono D0.out.size));clear hb1;go_wp2_with fail;go_ret2;exact ⟨_,rfl,nds_nil _,D4.out⟩
  | true=>
    have g1:=hm2 rfl;clear hm2
    go_enter Tryz.func10,Tryz.ntmps10
    go_wp2_with fail;refine HIS.out.mono ?_;rintro e w4 ⟨rfl,hb1⟩;have D4:=Lib.hid (D0.out.trans (hb1.mono D0.out.size));obtain ⟨c0,c1⟩:=bm_keep (M0.out.below hb1 M0.out.lt) _ (Below.refl _ _);rw [hbM] at c0 c1;simp only at c0 c1;clear hb1;go_wp2_with fail;go_ret2;exact ⟨_,rfl,nds_nil _,D4.out⟩
theorem nextR_any (v:Value) (l:List Nd) (m:Mv) (w:World) (hv:Nds w v l) (hl:l.length≤1000) (hm:Nms l) :
    Calls Tryz.prog 8 #[v,mvV m] w fun e w'=>∃ y,e=.returned (.tuple #[y,.string (nxS l m),.int .i64 (nxE l m)])∧Nds w' y (nxL l m)∧Below w.heap.size w w':=by
  have HI:=fun w1 (hb:Below w.heap.size w w1)=>isR_any v l m w1 (hv.below hb) hl hm
  by_cases hin:m∈enR l
  · rw [decide_eq_true hin] at HI;obtain ⟨t,rfl,hg,hn⟩:=en_set hin;obtain ⟨mo,hmo,rfl⟩:=en_mo hg hn hin;obtain ⟨n1,n2,n3⟩:=nx_of hg hn hmo;rw [n1,n2,n3];obtain ⟨pre,s,post,u,e1,e2,e3,hmade⟩:=mv_put t true 0 mo hmo;rw [Nat.zero_add] at e2;obtain ⟨p1,p2⟩:=put_row pre (flat s) post (flat u) (tre_flat s);obtain ⟨b,off,c,rfl,hc,hat⟩:=go_form hv;have hlen:(flat t).length=sz t:=Se.flat_len t;have hs:=sz_pos s
    have hpn:mo.p < sz t:=by
      have:=congrArg List.length e1;simp only [List.length_append,Se.flat_len] at this;omega
    have hr:=mo_goes hg hmo;have hrl:(flat mo.r).length≤1000:=by rw [Se.flat_len]; have:=hr.2.1; omega
    have hul:(flat u).length≤1000:=by
      rw [e3,List.length_append,List.length_append] at hrl;omega
    have hdrop:(flat t).drop mo.p=flat s++post:=by rw [e1,e2]; exact p2
    have hput:putR (flat t) (mo.p:Int) (flat u)=flat mo.r:=by
      unfold putR;rw [if_neg (by rw [hlen]; omega),Int.toNat_natCast,e3,e1,e2];exact p1
    have hL:((flat t).drop mo.p).length=sz t - mo.p:=by rw [List.length_drop,hlen]
    have hname:(flat t)[mo.p]'(by omega)=(flat s)[0]'(by rw [Se.flat_len]; exact hs):=by
      have h1:(flat t)[mo.p]?=(flat s)[0]?:=by
        rw [e1,e2,List.getElem?_append_right (Nat.le_refl _),Nat.sub_self,List.getElem?_append_left (by rw [Se.flat_len]; exact hs)]
      rw [List.getElem?_eq_getElem (by omega),List.getElem?_eq_getElem (by rw [Se.flat_len]; exact hs)] at h1;exact Option.some.inj h1
    refine next_go b off c (sz t) mo.p mo.h _ (flat t) (flat u) (flat mo.r) (flat (S mo.r)) w hat hlen hc hpn ?_ ?_ HI ?_ ?_ ?_
    · rw [hname];generalize mo.h=hh at hmade ⊢;generalize mo.l=oo at hmade ⊢
      cases hmade with
      | act s=>exact .inl rfl
      | _=>exact .inr (by decide)
    · intro h1;generalize mo.h=hh at hmade h1;generalize mo.l=oo at hmade ⊢
      cases hmade with
      | act s=>exact absurd rfl h1
      | _=>rfl
    · intro w1 hb;have:=madeR_any hmade post b (off+mo.p*3) (c - mo.p) ((flat t).drop mo.p) w1 hdrop (at_drop (at_below hat hb rfl) mo.p) (by rw [hL]; omega) (by rw [hL]; omega);rw [hL] at this;exact this
    · intro y w1 hb hy;have:=putR_any (.slice (some ⟨b,off,none⟩) (sz t) c) y (flat t) (flat u) (mo.p:Int) w1 (hv.below hb) hy hl hul;rw [hput] at this;exact this
    · intro y w1 hy;have:=settleR_any y (flat mo.r) w1 hy hrl (nms_goes hr.1);rw [st_go hr] at this;exact this
  · rw [decide_eq_false hin] at HI;rw [show nxS l m=⟨#[]⟩ from if_neg fun k=>hin k.1,show nxE l m=120 from if_neg hin,show nxL l m=[] from if_neg hin];exact next_no v l m w hv HI
theorem refuseR_any (v:Value) (l:List Nd) (m:Mv) (w:World) (hv:Nds w v l) (hl:l.length≤1000) (hm:Nms l) :
    Calls Tryz.prog 10 #[v,mvV m] w fun e w'=>∃ y,e=.returned (.tuple #[y,.int .i64 (rfE l m)])∧Nds w' y (rfL l m)∧Below w.heap.size w w':=by
  have HI:=fun w1 (hb:Below w.heap.size w w1)=>isR_any v l m w1 (hv.below hb) hl hm
  by_cases hin:m∈enR l∧m.h=1
  · obtain ⟨hin,h1⟩:=hin;rw [decide_eq_true hin] at HI;obtain ⟨t,rfl,hg,hn⟩:=en_set hin;obtain ⟨mo,hmo,rfl⟩:=en_mo hg hn hin;have h1':mo.h=1:=h1;obtain ⟨n1,n2⟩:=rf_of hg hn hmo h1';rw [n1,n2];obtain ⟨s,hs,_,hp,_⟩:=refused hn hmo h1';obtain ⟨pre,post,e1,e2⟩:=plug_row t 0 mo.p hp;rw [Nat.zero_add] at e1;have et:flat t=pre++(flat (sub t 0 mo.p)++post):=by rw [← e2,plug_sub t 0 mo.p hp]
    obtain ⟨p1,p2⟩:=put_row pre (flat (sub t 0 mo.p)) post [nOf 3] (tre_flat _);obtain ⟨b,off,c,rfl,hc,hat⟩:=go_form hv;have hlen:(flat t).length=sz t:=Se.flat_len t
    have hpn:mo.p < sz t:=by
      have h:=congrArg List.length et;have:=sz_pos (sub t 0 mo.p);simp only [List.length_append,Se.flat_len] at h;omega
    have hr:=rf_goes hg hp hs;have hrl:(flat (plug t 0 mo.p .throw)).length≤1000:=by rw [Se.flat_len]; have:=hr.2.1; omega
    have hput:putR (flat t) (mo.p:Int) [nOf 3]=flat (plug t 0 mo.p .throw):=by
      unfold putR;rw [if_neg (by rw [hlen]; omega),Int.toNat_natCast,e2];rw [← et,← e1] at p1;exact p1
    have HI':∀ w1,Below w.heap.size w w1→Calls Tryz.prog 27 #[.slice (some ⟨b,off,none⟩) (sz t) c,mvV ⟨(mo.p:Int),1⟩] w1 fun e w'=>e=.returned (.bool true)∧Below w1.heap.size w1 w':=by
      have e:mvOf mo=⟨(mo.p:Int),1⟩:=by unfold mvOf; rw [h1']
      rw [← e];exact HI
    have e:mvOf mo=⟨(mo.p:Int),1⟩:=by unfold mvOf; rw [h1']
    rw [e];refine refuse_go b off c (sz t) mo.p [nOf 3] (flat (plug t 0 mo.p .throw)) _ w hpn HI' (fun w1=>leafR_any 3 0 w1) ?_ ?_
    · intro y w1 hb hy;have:=putR_any (.slice (some ⟨b,off,none⟩) (sz t) c) y (flat t) [nOf 3] (mo.p:Int) w1 (hv.below hb) hy hl (by decide);rw [hput] at this;exact this
    · intro y w1 hy;have:=settleR_any y (flat (plug t 0 mo.p .throw)) w1 hy hrl (nms_goes hr.1);rw [st_go hr] at this;exact this
  · rw [show rfE l m=120 from if_neg hin,show rfL l m=[] from if_neg hin];refine refuse_no v l m (decide (m∈enR l)) w hv ?_ HI
    by_cases h:m∈enR l
    · exact .inr fun h1=>hin ⟨h,h1⟩
    · exact .inl (decide_eq_false h)
end Go.Proofs.YtaapnkoooofalaaGreat.St

namespace Go.Proofs.YtaapnkoooofalaaGreat.Me
open Go Go.RowKit Go.Maps Go.WideMaps Rw So Se Do
set_option maxRecDepth 20000
abbrev Wy:=Int × Nat
def wcls:List Wy→List Value
  | []=>[]
  | p::l=>.int .i64 p.1::.func (.func p.2) #[] #[]::wcls l
theorem wcls_len:∀ l:List Wy,(wcls l).length=l.length*2
  | []=>rfl
  | p::l=>by simp [wcls,wcls_len l]; omega
theorem wcls_at:∀ (l:List Wy) (k:Nat) (h:k < l.length),(wcls l)[k*2]?=some (.int .i64 l[k].1)∧(wcls l)[k*2+1]?=some (.func (.func l[k].2) #[] #[])
  | [],k,h=>by simp at h
  | x::l,0,_=>⟨rfl,rfl⟩
  | x::l,k+1,h=>by
    have:=wcls_at l k (by simpa using h)
    simpa [wcls,show (k+1)*2=k*2+1+1 by omega] using this
def Wys (w:World) (v:Value) (l:List Wy):Prop:=Ap.Rd w 2 v l.length (wcls l)
theorem Wys.below {w w':World} {v:Value} {l:List Wy} (h:Wys w v l) (hb:Below w.heap.size w w'):Wys w' v l:=Ap.Rd.below h hb
theorem wys_new (w:World) (l:List Wy) (ty:TypeId):Wys (w.alloc (.cells (wcls l).toArray ty)) (.slice (some ⟨w.heap.size,0,none⟩) l.length l.length) l:=by
  refine ⟨wcls_len l,some ⟨w.heap.size,0,none⟩,l.length,rfl,Nat.le_refl _,fun h=>(by cases h),fun _=>⟨w.heap.size,0,rfl,fun j u hu=>?_⟩⟩;rw [Nat.zero_add,World.cell?_alloc_new]
  simpa using hu
theorem Wys.grown {w w':World} {b:Nat} {v:Value} {l:List Wy} (h:Wys w v l) (hg:w.grownBy w' (some b)) (hb:∀ p c,v=.slice (some p) l.length c→p.block≠b):Wys w' v l:=by
  obtain ⟨hn,a,cap,rfl,hle,h0,hcell⟩:=h;refine ⟨hn,a,cap,rfl,hle,h0,fun hp=>?_⟩;obtain ⟨c,off,rfl,hj⟩:=hcell hp;refine ⟨c,off,rfl,fun j u hu=>?_⟩;have hc:=hj j u hu;exact hg.cell hc (fun e=>hb _ _ rfl (Option.some.inj e))
def wyF (v1 v6 v4:Value) (k:Int):Value:=if k=1 then v1 else if k=6 then v6 else if k=4∨k=10 then v4 else .slice none 0 0
theorem wd_all (v1 v6 v4:Value):WD (wyF v1 v6 v4) (((((DataW.map []).put (.int .i64 1) (.held v1)).put (.int .i64 6) (.held v6)).put (.int .i64 4) (.held v4)).put (.int .i64 10) (.held v4)):=by
  intro k;have m0:IsMap (DataW.map []:DataW Value):=isMap_empty;have m1:=m0.put (.int .i64 1) (.held v1);have m2:=m1.put (.int .i64 6) (.held v6);have m3:=m2.put (.int .i64 4) (.held v4);have ne:∀ {a b:Int},a≠b→(Lit.int .i64 a)≠.int .i64 b:=fun h e=>h (by injection e)
  unfold wyF
  by_cases h10:k=10
  · subst h10;rw [atKey_put_same m3 (by simp [WideAt.IsKeyLit])]
    rfl
  · rw [atKey_put_other (ne h10)]
    by_cases h4:k=4
    · subst h4;rw [atKey_put_same m2 (by simp [WideAt.IsKeyLit])]
      rfl
    · rw [atKey_put_other (ne h4)]
      by_cases h6:k=6
      · subst h6;rw [atKey_put_same m1 (by simp [WideAt.IsKeyLit])]
        rfl
      · rw [atKey_put_other (ne h6)]
        by_cases h1:k=1
        · subst h1;rw [atKey_put_same m0 (by simp [WideAt.IsKeyLit])]
          rfl
        · rw [atKey_put_other (ne h1),if_neg h1,if_neg h6,if_neg (by omega)]
          rfl
set_option maxHeartbeats 400000 in
theorem always_any (v:Value) (z:Int) (w:World) (n c:Nat) (a:Option Addr) (hv:v=.slice a n c):Calls Tryz.prog 100 #[v,.int .i64 z] w fun e w'=>e=.returned (.bool true)∧Below w.heap.size w w':=by
  subst hv
  go_enter Tryz.func100,Tryz.ntmps100
  go_wp2_with fail;go_ret;exact ⟨rfl,Below.refl _ _⟩
def Gmw (w wr:World) (n:Nat) (D:DataW Value) (rows:List (Value × List Wy)):Prop:=
  wr.ownsMap Tryz.prog 3 hE (w.heap.size+1) n D∧Below w.heap.size w wr∧w.heap.size+2≤wr.heap.size∧∀ r∈rows,Wys wr r.1 r.2∧∃ b c,r.1=.slice (some ⟨b,0,none⟩) r.2.length c∧b≠w.heap.size+1
theorem Gmw.start (w:World) (L:List Wy) (ty:TypeId):Gmw w ((w.alloc (.cells (wcls L).toArray ty)).alloc (.map #[] 0)) 0 (.map []) [(.slice (some ⟨w.heap.size,0,none⟩) L.length L.length,L)]:=by
  have h1:=below1 w (.cells (wcls L).toArray ty);have hs:(w.alloc (.cells (wcls L).toArray ty)).heap.size=w.heap.size+1:=by simp
  refine ⟨?_,h1.alloc h1.size _,by simp,fun r hr=>?_⟩
  · rw [← hs];exact World.ownsMap_made _ _ _ _
  · obtain rfl:=List.mem_singleton.1 hr;exact ⟨(wys_new w L ty).below (below1 _ _),_,_,rfl,by omega⟩
theorem Gmw.add {w wr:World} {n:Nat} {D:DataW Value} {rows:List (Value × List Wy)} (h:Gmw w wr n D rows) (L:List Wy) (ty:TypeId) :
    Gmw w (wr.alloc (.cells (wcls L).toArray ty)) n D ((.slice (some ⟨wr.heap.size,0,none⟩) L.length L.length,L)::rows):=by
  obtain ⟨h1,h2,h3,h4⟩:=h;refine ⟨h1.alloc _,h2.alloc h2.size _,by simp; omega,fun r hr=>?_⟩
  rcases List.mem_cons.1 hr with rfl | hr
  · exact ⟨wys_new wr L ty,_,_,rfl,by omega⟩
  · obtain ⟨k1,k2⟩:=h4 r hr;exact ⟨k1.below (below1 _ _),k2⟩
theorem Gmw.set {w wr w1:World} {n m:Nat} {D D':DataW Value} {rows:List (Value × List Wy)} (h:Gmw w wr n D rows) (ho:w1.ownsMap Tryz.prog 3 hE (w.heap.size+1) m D') (hg:wr.grownBy w1 (some (w.heap.size+1))):Gmw w w1 m D' rows:=by
  obtain ⟨h1,h2,h3,h4⟩:=h;refine ⟨ho,h2.grown hg h2.size (fun k hk=>by injection hk with hk; omega),Nat.le_trans h3 hg.size,fun r hr=>?_⟩;obtain ⟨k1,b,c,k2,k3⟩:=h4 r hr;refine ⟨k1.grown hg (fun p c' e=>?_),b,c,k2,k3⟩;rw [k2] at e;injection e with e1 _ _;injection e1 with e1;rw [← e1];exact k3
theorem Gmw.ins {w wr:World} {n:Nat} {D:DataW Value} {rows:List (Value × List Wy)} (h:Gmw w wr n D rows) (hn:n < maxLen) (k:Int) (hk:(Lit.int .i64 k).wf=true) (v:Value) :
    ∃ w1,(Instr.mapUpdate 87 (.map (some (w.heap.size+1))) (.int .i64 k) v).run Tryz.prog wr=.ok () w1∧Gmw w w1 (n+1) (D.put (.int .i64 k) (.held v)) rows:=by
  obtain ⟨w1,h1,h2,h3⟩:=h.1.update lawI Tryz.underlying87 hn (keyI k hk) (ps:=[]) (show hE v=some (.held v,[]) from rfl);exact ⟨w1,h1,h.set h2 h3⟩
set_option maxHeartbeats 2000000 in
theorem ways_any (w:World) :
    Calls Tryz.prog 68 #[] w fun e w'=>∃ b v1 v6 v4,e=.returned (.map (some b))∧(∃ D,w'.ownsMap Tryz.prog 3 hE b 4 D∧WD (wyF v1 v6 v4) D)∧
      Wys w' v1 [(1,100)]∧Wys w' v6 [(2,100),(3,100)]∧Wys w' v4 [(4,100),(5,101)]∧Below w.heap.size w w':=by
  have hmm:=@run_makeMap Tryz.prog;have G0:=(Gmw.start w [(4,100),(5,101)] 91).add [(1,100)] 91;rw [show ((w.alloc (.cells (wcls [(4,100),(5,101)]).toArray 91)).alloc (.map #[] 0)).heap.size=w.heap.size+1+1 by simp] at G0;obtain ⟨w1,r1,G1⟩:=G0.ins (by decide) 1 (by decide) (.slice (some ⟨w.heap.size+1+1,0,none⟩) 1 1);obtain ⟨w2,r2,G2⟩:=(G1.add [(2,100),(3,100)] 91).ins (by decide) 6 (by decide) (.slice (some ⟨w1.heap.size,0,none⟩) 2 2);obtain ⟨w3,r3,G3⟩:=G2.ins (by decide) 4 (by decide) (.slice (some ⟨w.heap.size,0,none⟩) 2 2);obtain ⟨w4,r4,G4⟩:=G3.ins (by decide) 10 (by decide) (.slice (some ⟨w.heap.size,0,none⟩) 2 2)
  change (Instr.mapUpdate 87 (.map (some (w.heap.size+1))) (.int .i64 1) (.slice (some ⟨w.heap.size+1+1,0,none⟩) 1 1)).run Tryz.prog
    (((w.alloc (.cells #[.int .i64 4,.func (.func 100) #[] #[],.int .i64 5,.func (.func 101) #[] #[]] 91)).alloc (.map #[] 0)).alloc (.cells #[.int .i64 1,.func (.func 100) #[] #[]] 91))=_ at r1
  change (Instr.mapUpdate 87 (.map (some (w.heap.size+1))) (.int .i64 6) (.slice (some ⟨w1.heap.size,0,none⟩) 2 2)).run Tryz.prog
    (w1.alloc (.cells #[.int .i64 2,.func (.func 100) #[] #[],.int .i64 3,.func (.func 100) #[] #[]] 91))=_ at r2
  have HG:=Lib.hid G4;clear G0 G1 G2 G3 G4
  go_enter Tryz.func68,Tryz.ntmps68
  go_wp2_with fail;go_ret;obtain ⟨h1,h2,-,h4⟩:=HG.out;refine ⟨_,.slice (some ⟨w.heap.size+1+1,0,none⟩) 1 1,.slice (some ⟨w1.heap.size,0,none⟩) 2 2,.slice (some ⟨w.heap.size,0,none⟩) 2 2,rfl,⟨_,h1,wd_all _ _ _⟩,?_,?_,?_,h2⟩
  · exact (h4 _ (List.mem_cons_of_mem _ (List.mem_cons_self ..))).1
  · exact (h4 _ (List.mem_cons_self ..)).1
  · exact (h4 _ (List.mem_cons_of_mem _ (List.mem_cons_of_mem _ (List.mem_cons_self ..)))).1
end Go.Proofs.YtaapnkoooofalaaGreat.Me

namespace Go.Proofs.YtaapnkoooofalaaGreat.Me
set_option maxRecDepth 100000
open Go Go.RowKit Go.ChangeShapes Go.WideShapes Rw
section
variable {H:Type} {enc:TypeId × Value→H} {W:World} {base:Nat} {v:Value} {d:DataW H} {p:List MemPlace}
theorem in64_of {n:Int} (h:(Lit.int .i64 n).wf=true):In64 n:=by
  have hmin:IntKind.i64.min=-9223372036854775808:=rfl;have hmax:IntKind.i64.max=9223372036854775807:=rfl;simp only [Lit.wf,Bool.and_eq_true,decide_eq_true_eq] at h;unfold In64;omega
theorem cMove:Tryz.prog.cellsOf 24=2:=by kernel_rfl
theorem mv_arg (hok:Value.okWide Tryz.prog W .any base 24 v) (h:DataW.Trod enc Tryz.prog W 0 (fun _=>true) true 24 v d p):∃ z:Mv,v=mvV z∧In64 z.p:=by
  obtain ⟨cs,rfl,hsz⟩:=okWide_struct Tryz.underlying24 hok;obtain ⟨fuel,hf⟩:=h;obtain ⟨y0,y1,n,_,hl,hy0,hy1⟩:=trod_struct2 Tryz.underlying24 hf;rw [cMove] at hl;obtain ⟨l⟩:=cs
  match l,hl with
  | [a,c],_=>
    rw [show Tryz.prog.cellsOf 3=1 by kernel_rfl] at hy0 hy1;obtain ⟨k0,e0,_,hw0⟩:=DataW.trod_int Tryz.underlying3 hy0;obtain ⟨k1,e1,_,_⟩:=DataW.trod_int Tryz.underlying3 hy1;have e0':a=.int .i64 k0:=List.head_eq_of_cons_eq (show [a]=[.int .i64 k0] from e0);have e1':c=.int .i64 k1:=List.head_eq_of_cons_eq (show [c]=[.int .i64 k1] from e1);subst e0';subst e1';exact ⟨⟨k0,k1⟩,rfl,in64_of hw0⟩
end
end Go.Proofs.YtaapnkoooofalaaGreat.Me

namespace Go.Proofs.YtaapnkoooofalaaGreat.St
open Go Go.RowKit Rw So Se Do Sp Me
set_option maxRecDepth 20000
structure Con:Prop where
  put:∀ (v vx:Value) (l x:List Nd) (z:Int) (w:World),Nds w v l→Nds w vx x→l.length≤1000→x.length≤1000→Calls Tryz.prog 23 #[v,.int .i64 z,vx] w fun e w'=>∃ y,e=.returned y∧w'.ownsRow w.heap.size 36 3 y (putR l z x).length (cls (putR l z x))∧Below w.heap.size w w'
  nx:∀ (v:Value) (l:List Nd) (m:Mv) (w:World),Nds w v l→l.length≤1000→Nms l→Calls Tryz.prog 7 #[v,mvV m] w fun e w'=>∃ y,e=.returned (.tuple #[y,.string (nxS l m),.int .i64 (nxE l m)])∧Nds w' y (nxL l m)∧Below w.heap.size w w'
  rf:∀ (v:Value) (l:List Nd) (m:Mv) (w:World),Nds w v l→l.length≤1000→Nms l→Calls Tryz.prog 9 #[v,mvV m] w fun e w'=>∃ y,e=.returned (.tuple #[y,.int .i64 (rfE l m)])∧Nds w' y (rfL l m)∧Below w.heap.size w w'
def Alive:Prop:=∀ w:World,Calls Tryz.prog 6 #[] w fun e w'=>e=.returned (.bool true)∧Below w.heap.size w w'
set_option maxHeartbeats 1000000 in
theorem few_any (v:Value) (l:List Nd) (w:World) (h:Nds w v l) :
    Calls Tryz.prog 5 #[v] w fun e w'=>e=.returned (.bool (Do.fewB l))∧w=w':=by
  have hr:Do.fewB l=(decide (l.length≤100) && decide (depth l≤24)):=rfl;rw [hr]
  by_cases h1:l.length≤100
  · have HD:=Lib.hid (depthR_any v l w h (by omega));obtain ⟨d,hd⟩:∃ d,depth l=d:=⟨_,rfl⟩
    rw [hd] at HD ⊢;rw [decide_eq_true h1,Bool.true_and];obtain ⟨_,a,cap,rfl,-⟩:=h;clear hr hd
    go_enter Tryz.func5,Tryz.ntmps5
    go_wp2_with fail;refine HD.out.mono ?_;rintro e w' ⟨rfl,rfl⟩;go_wp2_with fail;go_ret;exact ⟨ret_bool (decide_eq_decide.2 (by omega)),rfl⟩
  · rw [decide_eq_false h1,Bool.false_and];obtain ⟨_,a,cap,rfl,-⟩:=h;have h2:¬ (l.length:Int)≤100:=by omega
    clear hr
    go_enter Tryz.func5,Tryz.ntmps5
    go_wp2_with fail;go_ret;exact ⟨rfl,rfl⟩
theorem nxL_len (l:List Nd) (m:Mv):(nxL l m).length≤1000000:=by
  by_cases h:m∈enR l
  · obtain ⟨t,rfl,hg,hn⟩:=en_set h;obtain ⟨mo,h1,rfl⟩:=en_mo hg hn h;rw [(nx_of hg hn h1).1,Se.flat_len];have:=(mo_goes hg h1).S.2.1;omega
  · rw [show nxL l m=[] from if_neg h]; simp
theorem rfL_len (l:List Nd) (m:Mv):(rfL l m).length≤1000000:=by
  by_cases h:m∈enR l∧m.h=1
  · obtain ⟨t,rfl,hg,hn⟩:=en_set h.1;obtain ⟨mo,h1,rfl⟩:=en_mo hg hn h.1;have h2:mo.h=1:=h.2;obtain ⟨s,hs,_,hp,_⟩:=refused hn h1 h2;rw [(rf_of hg hn h1 h2).1,Se.flat_len];have:=(rf_goes hg hp hs).S.2.1;omega
  · rw [show rfL l m=[] from if_neg h]; simp
set_option maxHeartbeats 4000000 in
theorem next_law (C:Con) (A:Alive) (v:Value) (l:List Nd) (m:Mv) (w0:World) (hv:Nds w0 v l) (hm:Nms l) :
    Calls Tryz.prog 3 #[v,mvV m] w0 fun e w'=>e=.returned (.bool true)∧Below w0.heap.size w0 w':=by
  obtain ⟨mp,mh⟩:=m;have D1:=Lib.hid (below1 w0 (.cells #[.int .i64 mp,.int .i64 mh] 24));have M1:=Lib.hid (bm_keep (Bm.new w0 ⟨mp,mh⟩));have HF:=Lib.hid (fun w1 (hb:Below w0.heap.size w0 w1)=>few_any v l w1 (hv.below hb));have HA:=Lib.hid A;unfold Alive at HA
  cases hf:Do.fewB l with
  | false=>
    rw [hf] at HF;obtain ⟨_,a,c,rfl,-⟩:=id hv;clear hv hm hf M1
    go_enter Tryz.func3,Tryz.ntmps3
    go_wp2_with fail;refine (HF.out _ D1.out).mono ?_;rintro e w1 ⟨rfl,rfl⟩;go_wp2_with fail;refine (HA.out _).mono ?_;rintro e w2 ⟨rfl,hb2⟩;have D2:=Lib.hid (D1.out.trans (hb2.mono D1.out.size));clear hb2;go_wp2_with fail;go_ret;exact ⟨rfl,D2.out⟩
  | true=>
    rw [hf] at HF;have hl:=Do.few_len hf;have HN:=Lib.hid (fun w1 (hb:Below w0.heap.size w0 w1)=>C.nx v l ⟨mp,mh⟩ w1 (hv.below hb) (by omega) hm);have HNR:=Lib.hid (fun w1 (hb:Below w0.heap.size w0 w1)=>nextR_any v l ⟨mp,mh⟩ w1 (hv.below hb) (by omega) hm);have HR:=Lib.hid (fun w1 (hb:Below w0.heap.size w0 w1)=>C.rf v l ⟨mp,mh⟩ w1 (hv.below hb) (by omega) hm);have HRR:=Lib.hid (fun w1 (hb:Below w0.heap.size w0 w1)=>refuseR_any v l ⟨mp,mh⟩ w1 (hv.below hb) (by omega) hm);have L1:=Lib.hid (nxL_len l ⟨mp,mh⟩);have L2:=Lib.hid (rfL_len l ⟨mp,mh⟩);obtain ⟨_,a,c,rfl,-⟩:=id hv;generalize nxL l ⟨mp,mh⟩=X at HN HNR L1;generalize rfL l ⟨mp,mh⟩=Y at HR HRR L2;generalize nxS l ⟨mp,mh⟩=s at HN HNR;generalize nxE l ⟨mp,mh⟩=er at HN HNR;generalize rfE l ⟨mp,mh⟩=fr at HR HRR;obtain ⟨bM,hbM⟩:∃ bM,w0.heap.size=bM:=⟨_,rfl⟩
    obtain ⟨W,hW⟩:∃ W,w0.alloc (.cells #[.int .i64 mp,.int .i64 mh] 24)=W:=⟨_,rfl⟩
    rw [hW] at D1 M1;rw [hbM] at M1;simp only at M1;clear hv hm hf
    go_enter Tryz.func3,Tryz.ntmps3
    go_wp2_with fail;refine (HF.out _ D1.out).mono ?_;rintro e w1 ⟨rfl,rfl⟩;obtain ⟨c0,c1⟩:=M1.out _ (Below.refl _ _);clear HF hW;go_wp2_with fail;refine (HN.out _ D1.out).mono ?_;rintro e w2 ⟨y2,rfl,hn2,hb2⟩;have E2:=Lib.hid hb2;have D2:=Lib.hid (D1.out.trans (hb2.mono D1.out.size));have N2:=Lib.hid hn2;clear hb2 hn2 c0 c1;obtain ⟨c0,c1⟩:=M1.out _ E2.out;go_wp2_with fail;refine (HNR.out _ D2.out).mono ?_;rintro e w3 ⟨y3,rfl,hn3,hb3⟩;have E3:=Lib.hid (E2.out.trans (hb3.mono E2.out.size));have D3:=Lib.hid (D2.out.trans (hb3.mono D2.out.size));have N2':=Lib.hid (N2.out.below hb3);have N3:=Lib.hid hn3;clear hb3 hn3 c0 c1 N2;obtain ⟨c0,c1⟩:=M1.out _ E3.out;go_wp2_with fail;refine (HR.out _ D3.out).mono ?_;rintro e w4 ⟨y4,rfl,hn4,hb4⟩;have E4:=Lib.hid (E3.out.trans (hb4.mono E3.out.size));have D4:=Lib.hid (D3.out.trans (hb4.mono D3.out.size));have N2:=Lib.hid (N2'.out.below hb4);have N3':=Lib.hid (N3.out.below hb4);have N4:=Lib.hid hn4;clear hb4 hn4 c0 c1 N2' N3;obtain ⟨c0,c1⟩:=M1.out _ E4.out;go_wp2_with fail;refine (HRR.out _ D4.out).mono ?_;rintro e w5 ⟨y5,rfl,hn5,hb5⟩;have D5:=Lib.hid (D4.out.trans (hb5.mono D4.out.size));have N2':=Lib.hid (N2.out.below hb5);have N3:=Lib.hid (N3'.out.below hb5);have N4':=Lib.hid (N4.out.below hb5);have N5:=Lib.hid hn5;clear hb5 hn5 c0 c1 N2 N3' N4 hbM;go_wp2_with fail;refine (HA.out _).mono ?_;rintro e w6 ⟨rfl,hb6⟩;have D6:=Lib.hid (D5.out.trans (hb6.mono D5.out.size));have P2:=Lib.hid (N2'.out.below hb6);have P3:=Lib.hid (N3.out.below hb6);have P4:=Lib.hid (N4'.out.below hb6);have P5:=Lib.hid (N5.out.below hb6);clear hb6 N2' N3 N4' N5;go_wp2_with fail;refine (sameR_any _ _ X X _ P2.out P3.out L1.out).mono ?_;rw [show sameN X X=true from decide_eq_true rfl];rintro e w7 ⟨rfl,hb7⟩;have D7:=Lib.hid (D6.out.trans (hb7.mono D6.out.size));have Q4:=Lib.hid (P4.out.below hb7);have Q5:=Lib.hid (P5.out.below hb7);clear hb7 P2 P3 P4 P5;go_wp2_with fail;refine (sameR_any _ _ Y Y _ Q4.out Q5.out L2.out).mono ?_;rw [show sameN Y Y=true from decide_eq_true rfl];rintro e w8 ⟨rfl,hb8⟩;have D8:=Lib.hid (D7.out.trans (hb8.mono D7.out.size));clear hb8 Q4 Q5;go_wp2_with fail;go_ret;exact ⟨rfl,D8.out⟩
end Go.Proofs.YtaapnkoooofalaaGreat.St

namespace Go.Proofs.YtaapnkoooofalaaGreat.Me
open Go Go.RowKit Go.Maps Go.WideMaps Rw So Se Do
set_option maxRecDepth 20000
def wyM (z:Int) (B:Wy→Bool) (L:List Wy):List Mv:=(L.filter B).map fun p=>⟨z,p.1⟩
theorem wyM_take {z:Int} {B:Wy→Bool} {L:List Wy} {k:Nat} (h:k < L.length):wyM z B (L.take (k+1))=if B L[k]=true then wyM z B (L.take k)++[⟨z,L[k].1⟩] else wyM z B (L.take k):=by
  unfold wyM;rw [List.take_succ_eq_append_getElem h,List.filter_append,List.map_append]
  cases hb:B L[k] <;> simp [hb]
def wyL (k:Int):List Wy:=if k=1 then [(1,100)] else if k=6 then [(2,100),(3,100)] else [(4,100),(5,101)]
theorem wyL_of {w:World} {v1 v6 v4:Value} (h1:Wys w v1 (wyL 1)) (h6:Wys w v6 (wyL 6)) (h4:Wys w v4 (wyL 4)) (k:Int) (hk:k=1∨k=6∨k=4∨k=10):Wys w (wyF v1 v6 v4 k) (wyL k):=by
  rcases hk with rfl | rfl | rfl | rfl
  · exact h1
  · exact h6
  · exact h4
  · exact h4
theorem wyL_in (k:Int):∀ p∈wyL k,p.2=100∨p.2=101:=by
  unfold wyL
  split
  · simp
  · split <;> simp
theorem wyL_len (k:Int):(wyL k).length≤2:=by
  unfold wyL
  split
  · simp
  · split <;> simp
def wyB (f:Bool) (p:Wy):Bool:=if p.2=100 then true else f
theorem wyL_hw (k z:Int) (f:Bool) (hk:k=1∨k=6∨k=4∨k=10):wyM z (wyB f) (wyL k)=hw k f z:=by
  rcases hk with rfl | rfl | rfl | rfl <;> cases f <;> rfl
theorem Wys.form {w:World} {v:Value} {l:List Wy} (h:Wys w v l) (hl:0 < l.length) :
    ∃ b off cap,v=.slice (some ⟨b,off,none⟩) l.length cap∧l.length≤cap∧∀ k,(h:k < l.length)→w.cell? ⟨b,off+k*2,none⟩=some (.int .i64 l[k].1)∧w.cell? ⟨b,off+k*2+1,none⟩=some (.func (.func l[k].2) #[] #[]):=by
  obtain ⟨_,a,cap,rfl,hle,_,hcell⟩:=h;obtain ⟨b,off,rfl,hj⟩:=hcell hl;refine ⟨b,off,cap,rfl,hle,fun k hk=>?_⟩;obtain ⟨h1,h2⟩:=wcls_at l k hk;exact ⟨hj _ _ h1,by rw [Nat.add_assoc]; exact hj _ _ h2⟩
set_option maxHeartbeats 4000000 in
theorem movesAt_any (v:Value) (l:List Nd) (z:Int) (w:World) (hv:Nds w v l) (hl:l.length≤1000) (hm:Nms l) (hz:z∈av l) :
    Calls Tryz.prog 40 #[v,.int .i64 z] w fun e w'=>∃ y,e=.returned y∧Mvs w' y (hw (kn l z) (fr l z) z)∧Below w.heap.size w w':=by
  have hk4:=av_kind hz;obtain ⟨z0,z1⟩:=av_in hz;obtain ⟨kz,rfl⟩:∃ k:Nat,z=k:=⟨z.toNat,by omega⟩
  have hkl:kz < l.length:=by omega
  have HF:Hid (∀ p∈wyL (kn l kz),∀ w1,Below w.heap.size w w1→Calls Tryz.prog p.2 #[v,.int .i64 (kz:Int)] w1 fun e w'=>e=.returned (.bool (wyB (fr l kz) p))∧Below w1.heap.size w1 w'):=Lib.hid fun p hp w1 hb=>by
    rcases wyL_in _ p hp with h | h
    · rw [h];obtain ⟨_,a,c,rfl,-⟩:=id hv;rw [show wyB (fr l kz) p=true from if_pos h];exact always_any _ _ w1 _ _ _ rfl
    · rw [h];rw [show wyB (fr l kz) p=fr l kz from if_neg (by rw [h]; decide)];exact freP_any v l kz w1 (hv.below hb) hl hm
  rw [← wyL_hw _ _ _ hk4]
  have HG:Hid (∀ p∈wyL (kn l kz),∀ args w,(callFunc p.2 args).run Tryz.prog w=.ok (.enter p.2 args) w):=Lib.hid fun p hp args w=>by
    rcases wyL_in _ p hp with h | h <;> rw [h] <;> simp [go_sem]
  have HW:Hid (∀ (w1:World) (v1 v6 v4:Value),Wys w1 v1 (wyL 1)→Wys w1 v6 (wyL 6)→Wys w1 v4 (wyL 4)→Wys w1 (wyF v1 v6 v4 (kn l kz)) (wyL (kn l kz))):=Lib.hid fun w1 v1 v6 v4 h1 h6 h4=>wyL_of h1 h6 h4 _ hk4
  have HLL:=wyL_len (kn l kz);have hkn:kn l kz=l[kz].k:=by unfold kn; rw [Int.toNat_natCast,List.getElem?_eq_getElem hkl]
  have hwf:(Lit.int .i64 (kn l kz)).wf=true:=by rcases hk4 with h | h | h | h <;> rw [h] <;> decide
  rcases hv.form with ⟨h0,_⟩ | ⟨b,off,c,rfl,hc,hat⟩
  · rw [h0] at hkl; simp at hkl
  have e0:=(hat kz hkl).1;rw [← hkn] at e0;obtain ⟨kk,hkk⟩:∃ kk,kn l kz=kk:=⟨_,rfl⟩
  rw [hkk] at HF HG HW HLL hwf e0;obtain ⟨L,hL⟩:∃ L,wyL kk=L:=⟨_,rfl⟩
  rw [hkk,hL];rw [hL] at HF HG HW HLL;obtain ⟨B,hB⟩:∃ B,wyB (fr l kz)=B:=⟨_,rfl⟩
  rw [hB] at HF ⊢;have hbl:b < w.heap.size:=Ap.cell_lt e0;have HWF:=Lib.hid hwf;have HE0:=Lib.hid e0;obtain ⟨n,hn⟩:∃ n,l.length=n:=⟨_,rfl⟩
  rw [hn] at hkl hl HF hc ⊢;clear hv hm hz hk4 z0 z1 hkn hat hkk hL hB hn hwf hc
  go_enter Tryz.func40,Tryz.ntmps40
  go_upto_region 2 with fail
  go_cut [14,15,16] (fun s14 s15 s16 wx=>∃ (a:Option Addr) (c':Nat) (wq:World),wq=wx∧s14=.slice a L.length c'∧s15=.int .i64 L.length∧s16=.int .i64 0∧Wys wq (.slice a L.length c') L∧Below w.heap.size w wq)
  case first=>
    clear HF HG
    go_region_with (first
      | (go_at_call 68
         (with_reducible refine (ways_any _).mono ?_)
         rintro e w1 ⟨bm,v1,v6,v4,rfl,⟨D,hD,hd⟩,h1,h6,h4,hb1⟩;have B1:=Lib.hid ((Below.refl w.heap.size w).drew.trans hb1);have hlook:=look hD hd kk HWF.out;have hws:=HW.out _ _ _ _ h1 h6 h4;obtain ⟨vr,hvr⟩:∃ vr,wyF v1 v6 v4 kk=vr:=⟨_,rfl⟩
         rw [hvr] at hlook hws;have WS:=Lib.hid hws;obtain ⟨_,ar,cr,rfl,-⟩:=hws;have c0:w1.cell? ⟨b,off+kz*3,none⟩=some (.int .i64 kk):=by rw [B1.out.cell (p:=⟨b,off+kz*3,none⟩) hbl]; exact HE0.out
         clear hD hd h1 h6 h4 hb1 hvr)
      | fail)
    all_goals go_wp2_with fail
    all_goals go_meet
    all_goals exact ⟨_,_,_,rfl,rfl,rfl,rfl,WS.out,B1.out⟩
  case rest=>
    obtain ⟨ar,cr,wq,rfl,rfl,rfl,rfl,hws,hbel⟩:=hcut;have WS:=Lib.hid hws;have BB:=Lib.hid hbel;clear hws hbel HW HWF HE0 e0;go_wp2_with fail
    go_loopw [5,16] (fun s i wr=>∃ (k:Nat) (a:Option Addr) (m cc:Nat) (os:List Mv),k≤L.length∧m≤k∧i=.int .i64 k∧s=.slice a m cc∧Hid (os.length=m)∧Hid (wyM kz B (L.take k)=os)∧Hid (GotM wq.heap.size wr (.slice a m cc) os)∧Hid (Below w.heap.size w wr)∧Hid (Below wq.heap.size wq wr)) (fun _ i _=>L.length - (intOf i).toNat)
    case atStart=>exact ⟨0,none,0,0,[],Nat.zero_le _,Nat.le_refl _,rfl,rfl,Lib.hid rfl,Lib.hid rfl,Lib.hid (GotM.start (Nat.le_refl _)),BB,Lib.hid (Below.refl _ _)⟩
    case round=>
      obtain ⟨k,a,m,cc,os,hk,hmk,rfl,rfl,HL,HO,HM,HD,HQ⟩:=hrel
      by_cases hlt:k < L.length
      · obtain ⟨bq,oq,cq,eq,-,hc⟩:=(WS.out.below HQ.out).form (by omega);obtain ⟨f1,f2⟩:=hc k hlt;injection eq with e1 _ e3;subst e1;subst e3;have HFk:=Lib.hid (HF.out _ (List.getElem_mem hlt));have eg:=HG.out _ (List.getElem_mem hlt);have HT:=Lib.hid (wyM_take (z:=(kz:Int)) (B:=B) hlt);obtain ⟨p,hp⟩:∃ p,L[k]=p:=⟨_,rfl⟩
        rw [hp] at f1 f2 HFk eg HT;obtain ⟨ph,pf⟩:=p;simp only at f1 f2 eg;obtain ⟨q,hq⟩:∃ q,B (ph,pf)=q:=⟨_,rfl⟩
        rw [hq] at HFk HT;have DW:=Lib.hid (HD.out.trans ((below1 wr (.cells #[.int .i64 ph,.func (.func pf) #[] #[]] 91)).mono HD.out.size));have GW:=Lib.hid (HM.out.below (below1 wr (.cells #[.int .i64 ph,.func (.func pf) #[] #[]] 91)));have QW:=Lib.hid (HQ.out.trans ((below1 wr (.cells #[.int .i64 ph,.func (.func pf) #[] #[]] 91)).mono HQ.out.size));have HC:=Lib.hid (HFk.out _ DW.out)
        have C7:Hid (∀ w2,Below (wr.alloc (.cells #[.int .i64 ph,.func (.func pf) #[] #[]] 91)).heap.size (wr.alloc (.cells #[.int .i64 ph,.func (.func pf) #[] #[]] 91)) w2→w2.cell? ⟨wr.heap.size,0,none⟩=some (.int .i64 ph)):=Lib.hid fun w2 hb=>by
          rw [hb.cell (p:=⟨wr.heap.size,0,none⟩) (by simp)];simp [go_sem]
        clear hc hp hq
        cases q with
        | true=>
          have HX:Hid (wyM kz B (L.take (k+1))=os++[⟨kz,ph⟩]):=by
            show _=_
            rw [HT.out,if_pos rfl,HO.out]
          go_wp2_with fail;refine HC.out.mono ?_;rintro e w2 ⟨rfl,hb2⟩;have c7:=C7.out _ hb2;have D2:=Lib.hid (DW.out.trans (hb2.mono DW.out.size));have Q2:=Lib.hid (QW.out.trans (hb2.mono QW.out.size));obtain ⟨v',w3,hrun,hgot,hb3⟩:=(GW.out.below hb2).new [⟨kz,ph⟩] (by rw [HL.out]; show m+1≤1000000; omega)
          obtain ⟨a',c',rfl⟩:∃ a' c',v'=.slice a' (m+1) c':=by
            obtain ⟨_,a',c',e',-⟩:=hgot.mvs;rw [List.length_append,HL.out] at e';exact ⟨a',c',e'⟩
          have HL':Hid ((os++[(⟨kz,ph⟩:Mv)]).length=m+1):=by
            show _=_
            rw [List.length_append,HL.out]
            rfl
          change (Builtin.append_ #[38,38] 38 #[.slice a m cc,.slice (some ⟨w2.heap.size,0,none⟩) 1 1]).run Tryz.prog (w2.alloc (.cells #[.int .i64 (kz:Int),.int .i64 ph] 24))=_ at hrun;have R:=Lib.hid hrun;have HG':=Lib.hid hgot;have D3:=Lib.hid (D2.out.trans (hb3.mono BB.out.size));have Q3:=Lib.hid (Q2.out.trans hb3);clear hrun hgot hb2 hb3;go_wp2_with (at_builtin; refine Ap.wpList_append_run (by rfl) (.tmp 25) (.tmp 30) _ _ rfl _ _ rfl rfl _ w3 R.out ?_)
          go_roundw
          case rel=>exact ⟨k+1,a',m+1,c',os++[⟨kz,ph⟩],by omega,by omega,by go_num,rfl,HL',HX,HG',D3,Q3⟩
          case measure=>simp [intOf]; omega
        | false=>
          have HX:Hid (wyM kz B (L.take (k+1))=os):=by
            show _=_
            rw [HT.out,if_neg (by decide),HO.out]
          go_wp2_with fail;refine HC.out.mono ?_;rintro e w2 ⟨rfl,hb2⟩;have D2:=Lib.hid (DW.out.trans (hb2.mono DW.out.size));have Q2:=Lib.hid (QW.out.trans (hb2.mono QW.out.size));have G2:=Lib.hid (GW.out.below hb2);clear hb2;go_wp2_with fail
          go_roundw
          case rel=>exact ⟨k+1,a,m,cc,os,by omega,by omega,by go_num,rfl,HL,HX,G2,D2,Q2⟩
          case measure=>simp [intOf]; omega
      · have HZ:Hid (wyM kz B L=os):=by
          have:=HO.out
          rwa [List.take_of_length_le (by omega)] at this
        go_wp2_with fail;go_ret;exact ⟨_,rfl,by rw [HZ.out]; exact HM.out.mvs,HD.out⟩
end Go.Proofs.YtaapnkoooofalaaGreat.Me

namespace Go.Proofs.YtaapnkoooofalaaGreat.St
set_option maxRecDepth 100000
open Go Go.RowKit Go.ChangeShapes Go.WideShapes Rw Me
section
variable {H:Type} {enc:TypeId × Value→H} {W:World} {base:Nat} {v:Value} {d:DataW H} {p:List MemPlace}
end
end Go.Proofs.YtaapnkoooofalaaGreat.St
