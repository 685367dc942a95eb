/- Laws that the last text leans on. -/
import Derived.Laws.RangeAny
import Derived.Test.YtaapnkoooofalaaGreatQ06
import Derived.Sort.Grow

set_option maxRecDepth 20000
set_option maxHeartbeats 4000000
namespace Go.Proofs.YtaapnkoooofalaaGreat
namespace Rx
open Go Go.RowKit Rw
def nm (n:ByteArray):Bool:=low n.data.toList&&(decide (1≤n.size)&&decide (n.size≤8))&&!wordB n
theorem x3g (s:ByteArray) (w:World) (h:wordB s=false) (h0:s.size≠0) (hs:s.size≤140737488355328):Calls Tryz.prog 137 #[.string s] w fun e w'=>e=.returned (.bool (nm s))∧Below w.heap.size w w':=by
  have hb:¬ (s=w1∨s=w2∨s=w3∨s=w4∨s=w5∨s=w6):=by simpa [wordB] using h
  have e0:=x7l h0
  have HN:Hid (nm s=(low s.data.toList&&decide (s.size≤8))):=by
    show _=_
    unfold nm;rw [h,decide_eq_true (show 1≤s.size by omega)];simp
  clear h h0;simp only [not_or] at hb;obtain ⟨h1,h2,h3,h4,h5,h6⟩:=hb;have e1:=z4m (l:=[115,107,105,112]) h1;have e2:=z4m (l:=[116,104,114,111,119]) h2;have e3:=z4m (l:=[121,105,101,108,100]) h3;have e4:=z4m (l:=[115,107,105,112,112]) h4;have e5:=z4m (l:=[116,104,114,111,119,119]) h5;have e6:=z4m (l:=[121,105,101,108,100,100]) h6;clear h1 h2 h3 h4 h5 h6
  go_enter Tryz.func137,Tryz.ntmps137
  go_wp2_with fail
  go_loopw [] (fun wr=>∃ pos:Nat,pos≤s.size∧wr=w.iter s pos∧Hid (low (s.data.toList.take pos)=true)) (fun wr=>s.size-wr.iterPos w.heap.size)
  case atStart=>exact ⟨0,Nat.zero_le _,rfl,Lib.hid rfl⟩
  case round=>
    obtain ⟨pos,hp,rfl,HL⟩:=hrel
    by_cases hlt:pos<s.size
    · have HT:=Lib.hid (x0t s pos hlt);have HF:=Lib.hid (fun hb=>low_no hlt hb)
      by_cases ha:(s[pos]'hlt).toNat<128
      · have hnx:∀ ty,(Instr.next (.pointer (some ⟨w.heap.size,0,none⟩)) true ty).run Tryz.prog (w.iter s pos)=_:=fun ty=>run_next_ascii w s pos ty hlt ha
        obtain ⟨c,hc⟩:∃ c,(s[pos]'hlt).toNat=c:=⟨_,rfl⟩
        have HC:=Lib.hid hc;rw [hc] at hnx ha;clear hc
        by_cases b1:c<97
        · have d1:decide ((c:Int)<97)=true:=by simp; omega
          go_wp2_with fail;go_ret;refine ⟨ret_bool ?_,(Below.refl _ _).alloc (Nat.le_refl _) _⟩;rw [HN.out,HF.out (by rw [HC.out]; simp; omega)]
          rfl
        · have d1:decide ((c:Int)<97)=false:=by simp; omega
          by_cases b2:122<c
          · have d2:decide (122<(c:Int))=true:=by simp; omega
            go_wp2_with fail;go_ret;refine ⟨ret_bool ?_,(Below.refl _ _).alloc (Nat.le_refl _) _⟩;rw [HN.out,HF.out (by rw [HC.out]; simp; omega)]
            rfl
          · have d2:decide (122<(c:Int))=false:=by simp; omega
            have HG:Hid (low (s.data.toList.take (pos+1))=true):=by
              show _=true
              rw [HT.out,HL.out,HC.out];simp;omega
            go_wp2_with fail
            go_roundw
            case rel=>exact ⟨pos+1,by omega,rfl,HG⟩
            case measure=>simp only [World.iterPos_iter]; omega
      · have hnx:∀ ty,(Instr.next (.pointer (some ⟨w.heap.size,0,none⟩)) true ty).run Tryz.prog (w.iter s pos)=_:=fun ty=>run_next_any w s pos ty hlt
        have hh:=(decode_high s pos hlt (by omega)).1;obtain ⟨c,hc⟩:∃ c,(Utf8.decode s pos).1=c:=⟨_,rfl⟩
        obtain ⟨q,hq⟩:∃ q,pos+(Utf8.decode s pos).2=q:=⟨_,rfl⟩
        rw [hc] at hh;rw [hc,hq] at hnx;have HC:=Lib.hid ha;clear hc hq ha;have d1:decide ((c:Int)<97)=false:=by simp; omega
        have d2:decide (122<(c:Int))=true:=by simp; omega
        go_wp2_with fail;go_ret;refine ⟨ret_bool ?_,(Below.refl _ _).alloc (Nat.le_refl _) _⟩;rw [HN.out,HF.out (by have:=HC.out; simp; omega)]
        rfl
    · have hnx:∀ ty,(Instr.next (.pointer (some ⟨w.heap.size,0,none⟩)) true ty).run Tryz.prog (w.iter s pos)=_:=fun ty=>run_next_end w s pos ty hlt
      have HF:Hid (low s.data.toList=true):=by
        have:=HL.out
        rwa [List.take_of_length_le (by simp; omega)] at this
      by_cases q2:s.size≤8
      · go_wp2_with fail;go_ret;refine ⟨ret_bool ?_,(Below.refl _ _).alloc (Nat.le_refl _) _⟩;rw [HN.out,HF.out,Bool.true_and,Bool.eq_iff_iff];simp;omega
      · go_wp2_with fail;go_ret;refine ⟨ret_bool ?_,(Below.refl _ _).alloc (Nat.le_refl _) _⟩;rw [HN.out,HF.out,Bool.true_and,Bool.eq_iff_iff];simp;omega
theorem name_any (s:ByteArray) (w:World) (hs:s.size≤140737488355328):Calls Tryz.prog 137 #[.string s] w fun e w'=>e=.returned (.bool (nm s))∧Below w.heap.size w w':=by
  by_cases h0:s.size=0
  · obtain rfl:=z6t h0;clear h0 hs;rw [show nm ⟨#[]⟩=false from rfl]
    go_enter Tryz.func137,Tryz.ntmps137
    go_wp2_with fail;go_ret;exact ⟨rfl,Below.refl _ _⟩
  · cases hw:wordB s with
    | false=>exact x3g s w hw h0 hs
    | true=>
      have hb:nm s=false:=by unfold nm; rw [hw]; simp
      rw [hb];have:s=w1∨s=w2∨s=w3∨s=w4∨s=w5∨s=w6:=by simpa [wordB] using hw
      clear hw h0 hs hb
      rcases this with rfl | rfl | rfl | rfl | rfl | rfl
      all_goals
        simp only [w1,w2,w3,w4,w5,w6]
        go_enter Tryz.func137,Tryz.ntmps137
        go_wp2_with fail;go_ret;exact ⟨rfl,Below.refl _ _⟩
def idxAt (x:Int):List Int→Nat→Int
  | [],_=>-1
  | y::l,k=>if x=y then k else idxAt x l (k+1)
theorem x9c (x:Int) (l:List Int) (k:Nat):decide (0≤idxAt x l k)=decide (x∈l):=by
  induction l generalizing k with
  | nil=>simp [idxAt]
  | cons y l ih=>
    unfold idxAt
    by_cases h:x=y
    · rw [if_pos h,decide_eq_true (show x∈y::l by rw [h]; exact List.mem_cons_self)];simp
    · rw [if_neg h,ih (k+1)];simp [h]
theorem x9d {x:Int} {l:List Int} {k:Nat} (h:¬ k<l.length):idxAt x (l.drop k) k=-1:=by rw [List.drop_eq_nil_of_le (by omega)]; rfl
theorem idxAt_at {x:Int} {l:List Int} {k:Nat} (h:k<l.length):idxAt x (l.drop k) k=if x=l[k] then (k:Int) else idxAt x (l.drop (k+1)) (k+1):=by
  rw [List.drop_eq_getElem_cons h,idxAt]
theorem x9a (a:Option Addr) (cap:Nat) (x:Int) (w:World) :
    Calls Tryz.prog 79 #[.slice a 0 cap,.int .i64 x] w fun e w'=>e=.returned (.int .i64 (-1))∧w=w':=by
  go_enter Tryz.func79,Tryz.ntmps79
  go_wp2_with fail;refine Go.wp_loop_rounds 1 ?_;rw [rounds_succ];go_wp2_with fail;go_ret;exact ⟨rfl,rfl⟩
theorem x9b (b off cap:Nat) (l:List Int) (x:Int) (w:World) (hat:AtI w b off l) (hl:l.length≤1000000) :
    Calls Tryz.prog 79 #[.slice (some ⟨b,off,none⟩) l.length cap,.int .i64 x] w fun e w'=>e=.returned (.int .i64 (idxAt x l 0))∧Below w.heap.size w w':=by
  have HA:=Lib.hid hat;clear hat
  go_enter Tryz.func79,Tryz.ntmps79
  go_wp2_with fail
  go_loopw [8] (fun i wr=>∃ k:Nat,k≤l.length∧i=.int .i64 k∧Below w.heap.size w wr∧Hid (idxAt x l 0=idxAt x (l.drop k) k)) (fun i _=>l.length-(intOf i).toNat)
  case atStart=>exact ⟨0,Nat.zero_le _,rfl,Below.refl _ _,Lib.hid rfl⟩
  case round=>
    obtain ⟨k,hk,rfl,hb,HK⟩:=hrel;have HB:=Lib.hid hb;clear hb
    by_cases hlt:k<l.length
    · have e1:=HA.out k hlt;have c1:wr.cell? ⟨b,off+k,none⟩=some (.int .i64 l[k]):=by rw [HB.out.cell (Ap.z0a e1)]; exact e1
      have HX:=Lib.hid (HK.out.trans (idxAt_at hlt));obtain ⟨y,hy⟩:∃ y,l[k]=y:=⟨_,rfl⟩
      rw [hy] at c1 HX;clear hy e1
      by_cases hxy:x=y
      · rw [if_pos hxy] at HX;subst hxy;go_wp2_with fail
        try go_quiet (fail)
        try go_wp2_with fail
        go_ret;exact ⟨ret_int HX.out.symm,by first | exact HB.out.trans (Below.drewN _ _ _) | exact HB.out⟩
      · rw [if_neg hxy] at HX;have g:(x==y)=false:=by rw [beq_eq_false_iff_ne]; exact hxy
        clear hxy;go_wp2_with fail
        try go_quiet (fail)
        try go_wp2_with fail
        go_roundw
        case rel=>exact ⟨k+1,by omega,by go_num,by first | exact HB.out.trans (Below.drewN _ _ _) | exact HB.out,HX⟩
        case measure=>simp [intOf]; omega
    · go_wp2_with fail;go_ret;exact ⟨ret_int (by rw [HK.out,x9d hlt]),HB.out⟩
theorem idx_any (v:Value) (l:List Int) (x:Int) (w:World) (h:Ints w v l) (hl:l.length≤1000000) :
    Calls Tryz.prog 79 #[v,.int .i64 x] w fun e w'=>e=.returned (.int .i64 (idxAt x l 0))∧Below w.heap.size w w':=by
  rcases h.form with ⟨rfl,a,cap,rfl⟩ | ⟨b,off,cap,rfl,_,hat⟩
  · refine (x9a a cap x w).mono ?_;rintro e w' ⟨rfl,rfl⟩;exact ⟨rfl,Below.refl _ _⟩
  · exact x9b b off cap l x w hat hl
theorem z9x (v:Value) (l:List Int) (x:Int) (w:World) (h:Ints w v l) (hl:l.length≤1000000) :
    Calls Tryz.prog 48 #[v,.int .i64 x] w fun e w'=>e=.returned (.bool (decide (x∈l)))∧Below w.heap.size w w':=by
  have H:=Lib.hid h;have HQ:=Lib.hid (x9c x l 0);obtain ⟨q,hq⟩:∃ q,idxAt x l 0=q:=⟨_,rfl⟩
  rw [hq] at HQ;have HC:=Lib.hid hq;clear h hq
  go_enter Tryz.func48,Tryz.ntmps48
  go_wp2_with fail;refine (idx_any v l x _ H.out hl).mono ?_;rw [HC.out];rintro e w' ⟨rfl,hb⟩;have HB:=Lib.hid hb;clear hb;go_wp2_with fail;go_ret;exact ⟨ret_bool HQ.out,HB.out⟩
theorem y6j (a:Option Addr) (cap:Nat) (y:Value) (w:World) :
    Calls Tryz.prog 38 #[.slice a 0 cap,y] w fun e w'=>e=.returned (.int .i64 0)∧Below w.heap.size w w':=by
  go_enter Tryz.func38,Tryz.ntmps38
  go_wp2_with fail;refine Go.wp_loop_rounds 1 ?_;rw [rounds_succ];go_wp2_with fail;go_ret;exact ⟨rfl,Below.refl _ _⟩
theorem y6k (b off cap:Nat) (l:List Nd) (v:Value) (ks:List Int) (w:World) (hl:l.length≤1000000) (hk:ks.length≤1000000) (h1:At w b off l) (h2:Ints w v ks) :
    Calls Tryz.prog 38 #[.slice (some ⟨b,off,none⟩) l.length cap,v] w fun e w'=>e=.returned (.int .i64 (cnt l ks))∧Below w.heap.size w w':=by
  have H1:=Lib.hid h1;have H2:=Lib.hid h2;clear h1 h2
  go_enter Tryz.func38,Tryz.ntmps38
  go_wp2_with fail
  go_loopw [5,10] (fun n i wr=>∃ k c:Nat,k≤l.length∧c≤k∧i=.int .i64 k∧n=.int .i64 c∧Below w.heap.size w wr∧Hid (cnt (l.take k) ks=c)) (fun _ i _=>l.length-(intOf i).toNat)
  case atStart=>exact ⟨0,0,Nat.zero_le _,Nat.zero_le _,rfl,rfl,Below.refl _ _,Lib.hid rfl⟩
  case round=>
    obtain ⟨k,c,hk',hck,rfl,rfl,hb,HC⟩:=hrel;have HB:=Lib.hid hb;clear hb
    by_cases hlt:k<l.length
    · obtain ⟨e1,e2,e3⟩:=H1.out k hlt;have c1:wr.cell? ⟨b,off+k*3,none⟩=some (.int .i64 l[k].k):=by rw [HB.out.cell (Ap.z0a e1)]; exact e1
      have c2:wr.cell? ⟨b,off+k*3+1,none⟩=some (.string l[k].n):=by rw [HB.out.cell (Ap.z0a e2)]; exact e2
      have c3:wr.cell? ⟨b,off+k*3+2,none⟩=some (.int .i64 l[k].s):=by rw [HB.out.cell (Ap.z0a e3)]; exact e3
      have HY:=Lib.hid (cnt_yes l ks k hlt);have HN:=Lib.hid (cnt_no l ks k hlt);obtain ⟨x,hx⟩:∃ x,l[k]=x:=⟨_,rfl⟩
      rw [hx] at c1 c2 c3 HY HN;clear hx e1 e2 e3;have HB1:=Lib.hid (HB.out.alloc HB.out.size (nb x))
      by_cases hm:x.k∈ks
      · have HX:=Lib.hid (decide_eq_true hm);have HM:=Lib.hid hm;clear hm;go_wp2_with fail;refine (z9x v ks x.k _ (H2.out.below HB1.out) hk).mono ?_;rw [HX.out];rintro e w' ⟨rfl,hb⟩;have HB2:=Lib.hid (HB1.out.trans (hb.mono HB1.out.size));clear hb;go_wp2_with fail
        go_roundw
        case rel=>exact ⟨k+1,c+1,by omega,by omega,by go_num,by go_num,HB2.out,Lib.hid (by rw [HY.out HM.out,HC.out])⟩
        case measure=>simp [intOf]; omega
      · have HX:=Lib.hid (decide_eq_false hm);have HM:=Lib.hid hm;clear hm;go_wp2_with fail;refine (z9x v ks x.k _ (H2.out.below HB1.out) hk).mono ?_;rw [HX.out];rintro e w' ⟨rfl,hb⟩;have HB2:=Lib.hid (HB1.out.trans (hb.mono HB1.out.size));clear hb;go_wp2_with fail
        go_roundw
        case rel=>exact ⟨k+1,c,by omega,by omega,by go_num,rfl,HB2.out,Lib.hid (by rw [HN.out HM.out,HC.out])⟩
        case measure=>simp [intOf]; omega
    · have HZ:Hid (cnt l ks=c):=by
        have:=HC.out
        rwa [List.take_of_length_le (by omega)] at this
      go_wp2_with fail;go_ret;exact ⟨ret_int (by rw [HZ.out]),HB.out⟩
theorem x4d (x y:Value) (l:List Nd) (ks:List Int) (w:World) (hx:Nds w x l) (hy:Ints w y ks) (hl:l.length≤1000000) (hk:ks.length≤1000000) :
    Calls Tryz.prog 38 #[x,y] w fun e w'=>e=.returned (.int .i64 (cnt l ks))∧Below w.heap.size w w':=by
  rcases hx.form with ⟨rfl,a,cap,rfl⟩ | ⟨b,off,cap,rfl,_,hc⟩
  · exact y6j a cap y w
  · exact y6k b off cap l y ks w hl hk hc hy
end Rx
namespace St
open Go Go.RowKit Rw
def putN (l:List Nd) (q:Nat) (x:List Nd):List Nd:=if size (l.drop q)=0 then l else l.take q++x++l.drop (q+size (l.drop q))
def putR (l:List Nd) (at_:Int) (x:List Nd):List Nd:=if at_<0∨at_≥l.length then l else putN l at_.toNat x
def GotN (base:Nat) (w:World) (v:Value) (l:List Nd):Prop:=w.ownsRow base 36 3 v l.length (cls l)∧base≤w.heap.size
theorem y3w {w:World} {b o n c:Nat} {l:List Nd} (hn:l.length=n) (hat:At w b o l) (q:Nat) (hq:q≤n) (hc:n≤c):Nds w (.slice (some ⟨b,o+q*3,none⟩) (n-q) (c-q)) (l.drop q):=by
  subst hn;have:=z3x hat q (l.length-q) (c-q) (by omega) (by omega)
  rwa [List.take_of_length_le (by rw [List.length_drop]; omega)] at this
theorem take_nds {w:World} {b o n c:Nat} {l:List Nd} (hn:l.length=n) (hat:At w b o l) (q:Nat) (hq:q≤n) (hc:n≤c):Nds w (.slice (some ⟨b,o,none⟩) q c) (l.take q):=by
  subst hn;have:=z3x hat 0 q c (by omega) (by omega)
  simpa using this
end St
namespace Tr
open Go Go.RowKit
theorem infoT:(Tryz.prog.info? 68).map (fun i=>(i.zero,i.size,i.bytes))=some (some (.agg #[.slice none 0 0,.int .i64 0]),2,32):=by kernel_rfl
theorem TrCells.snoc {w:World} {a:Value} {t:Tr} (ha:Strs w a t.a):∀ {cs:List Value} {ts:List Tr},TrCells w cs ts→TrCells w (cs++[a,.int .i64 t.e]) (ts++[t])
  | [],[],_=>⟨ha,rfl,trivial⟩
  | _::_::_,_::_,h=>⟨h.1,h.2.1,TrCells.snoc ha h.2.2⟩
  | [],_::_,h=>h.elim
  | [_],[],h=>h.elim
  | [_],_::_,h=>h.elim
  | _::_::_,[],h=>h.elim
theorem mg_lt (l m:List Tr) (p q:Nat) (h1:p<l.length) (h2:q<m.length) (h:cmp l[p] m[q]<0) :
    mg (l.length+m.length+1-p-q) (l.drop p) (m.drop q)=l[p]::mg (l.length+m.length+1-(p+1)-q) (l.drop (p+1)) (m.drop q):=by
  rw [List.drop_eq_getElem_cons h1,List.drop_eq_getElem_cons h2,show l.length+m.length+1-p-q=(l.length+m.length+1-(p+1)-q)+1 by omega,mg,if_pos h]
theorem mg_eq (l m:List Tr) (p q:Nat) (h1:p<l.length) (h2:q<m.length) (h:cmp l[p] m[q]=0) :
    mg (l.length+m.length+1-p-q) (l.drop p) (m.drop q)=l[p]::mg (l.length+m.length+1-(p+1)-(q+1)) (l.drop (p+1)) (m.drop (q+1)):=by
  rw [List.drop_eq_getElem_cons h1,List.drop_eq_getElem_cons h2,show l.length+m.length+1-p-q=(l.length+m.length+1-(p+1)-q)+1 by omega,mg,if_neg (by omega),if_pos h,
    y3j _ (l.length+m.length+1-(p+1)-(q+1)) _ _ (by simp; omega) (by simp; omega)]
theorem mg_gt (l m:List Tr) (p q:Nat) (h1:p<l.length) (h2:q<m.length) (h:0<cmp l[p] m[q]) :
    mg (l.length+m.length+1-p-q) (l.drop p) (m.drop q)=m[q]::mg (l.length+m.length+1-p-(q+1)) (l.drop p) (m.drop (q+1)):=by
  rw [List.drop_eq_getElem_cons h1,List.drop_eq_getElem_cons h2,show l.length+m.length+1-p-q=(l.length+m.length+1-p-(q+1))+1 by omega,mg,if_neg (by omega),if_neg (by omega)]
theorem mg_l (l m:List Tr) (p q:Nat) (h1:p<l.length) (h2:q=m.length) :
    mg (l.length+m.length+1-p-q) (l.drop p) (m.drop q)=l[p]::mg (l.length+m.length+1-(p+1)-q) (l.drop (p+1)) (m.drop q):=by
  subst h2;rw [List.drop_eq_getElem_cons h1,List.drop_length,show l.length+m.length+1-p-m.length=(l.length+m.length+1-(p+1)-m.length)+1 by omega];obtain ⟨n,hn⟩:∃ n,l.length+m.length+1-(p+1)-m.length=n+1:=⟨l.length-p-1,by omega⟩
  rw [hn]
  cases l.drop (p+1) <;> simp [mg]
theorem mg_r (l m:List Tr) (p q:Nat) (h1:p=l.length) (h2:q<m.length) :
    mg (l.length+m.length+1-p-q) (l.drop p) (m.drop q)=m[q]::mg (l.length+m.length+1-p-(q+1)) (l.drop p) (m.drop (q+1)):=by
  subst h1;rw [List.drop_eq_getElem_cons h2,List.drop_length,show l.length+m.length+1-l.length-q=(l.length+m.length+1-l.length-(q+1))+1 by omega];obtain ⟨n,hn⟩:∃ n,l.length+m.length+1-l.length-(q+1)=n+1:=⟨m.length-q-1,by omega⟩
  rw [hn];simp [mg]
theorem mg_end (l m:List Tr) (p q n:Nat) (h1:p=l.length) (h2:q=m.length):mg n (l.drop p) (m.drop q)=[]:=by
  subst h1; subst h2
  cases n <;> simp [mg]
theorem below_grow (w:World) (n:Nat) (os:Array Obj):Below w.heap.size w (Go.Sort.grow (w.drewN n) os):=
  ⟨rfl,rfl,rfl,by simp [Go.Sort.grow,World.drewN],fun k hk=>by
    show (w.heap++os)[k]?=w.heap[k]?
    rw [Array.getElem?_append_left hk]⟩
theorem grow2_eq (w:World) (x y:Obj):(w.alloc x).alloc y=Go.Sort.grow w #[x,y]:=by
  rw [Go.Sort.alloc_eq_grow,Go.Sort.alloc_eq_grow,Go.Sort.grow_grow]
  rfl
theorem grow3_eq (w:World) (x y z:Obj):((w.alloc x).alloc y).alloc z=Go.Sort.grow w #[x,y,z]:=by
  rw [grow2_eq,Go.Sort.alloc_eq_grow,Go.Sort.grow_grow]
  rfl
theorem x3r (w:World) (x y z:Obj):(((w.alloc x).alloc y).alloc z).drew=Go.Sort.grow (w.drewN 1) #[x,y,z]:=by
  rw [grow3_eq]
  rfl
theorem z8m {w:World} {v:Value} {l:List ByteArray} (h:Strs w v l) (x y:Obj):Strs (((w.alloc x).alloc y).drew) v l:=
  h.below (((Below.refl _ _).alloc (Nat.le_refl _) x).alloc (by simp) y).drew
theorem z4g (v1 v2:Value) (p q:Tr) (w:World) (h1:Strs w v1 p.a) (h2:Strs w v2 q.a) (hl:p.a.length≤1000000000000) (hm:q.a.length≤1000000000000) :
    Calls Tryz.prog 104 #[.agg #[v1,.int .i64 p.e],.agg #[v2,.int .i64 q.e]] w fun e w'=>e=.returned (.int .i64 (cmp p q))∧∃ n os,w'=Go.Sort.grow (w.drewN n) os:=by
  have H1:=Lib.hid (z8m h1);have H2:=Lib.hid (z8m h2);obtain ⟨_,a1,c1,rfl,-⟩:=h1;obtain ⟨_,a2,c2,rfl,-⟩:=h2;have HC:=Lib.hid (cmp_or p q);obtain ⟨x,hx⟩:∃ x,sg3 (row p.a q.a)=x:=⟨_,rfl⟩
  obtain ⟨y,hy⟩:∃ y,cmpI p.e q.e=y:=⟨_,rfl⟩
  have R1:Hid (∀ w,Strs w (.slice a1 p.a.length c1) p.a→Strs w (.slice a2 q.a.length c2) q.a→Calls Tryz.prog 154 #[.slice a1 p.a.length c1,.slice a2 q.a.length c2] w fun e w'=>e=.returned (.int .i64 x)∧w'=w):=Lib.hid (fun w ha hb=>by rw [← hx]; exact rowc_any _ _ _ _ w ha hb hl hm);have R2:Hid (∀ w,Calls Tryz.prog 155 #[.int .i64 p.e,.int .i64 q.e] w fun e w'=>e=.returned (.int .i64 y)∧w'=w):=Lib.hid (fun w=>by rw [← hy]; exact cmpI_any _ _ w);rw [hx,hy] at HC;have R3:Hid (∀ b w,w.cell? ⟨b,0,none⟩=some (.int .i64 x)→w.cell? ⟨b,1,none⟩=some (.int .i64 y)→Calls Tryz.prog 153 #[.slice (some ⟨b,0,none⟩) 2 2] w fun e w'=>e=.returned (.int .i64 (cmp p q))∧w'=w):=Lib.hid (fun b w ha hb=>by rw [← HC.out]; exact x7j x y b w ha hb);clear hx hy HC
  go_enter Tryz.func104,Tryz.ntmps104
  go_wp2_with fail
  go_region_held3 (fun w'=>w'.cell? ⟨w.heap.size,0,none⟩=some (.slice a1 p.a.length c1)∧w'.cell? ⟨w.heap.size,1,none⟩=some (.int .i64 p.e)∧w'.cell? ⟨w.heap.size+1,0,none⟩=some (.slice a2 q.a.length c2)∧w'.cell? ⟨w.heap.size+1,1,none⟩=some (.int .i64 q.e)) (first | (simp [go_sem]; done) | go_keep | fail) (first
    | (go_at_call 154
       refine (R1.out _ (H1.out _ _) (H2.out _ _)).mono ?_;rintro e w' ⟨rfl,rfl⟩)
    | (go_at_call 155
       refine (R2.out _).mono ?_;rintro e w' ⟨rfl,rfl⟩)
    | (go_at_call 153
       refine (R3.out _ _ (by simp [go_sem]) (by simp [go_sem])).mono ?_;rintro e w' ⟨rfl,rfl⟩)
    | fail)
  go_wp2_with fail;go_ret;exact ⟨rfl,1,_,x3r _ _ _ _⟩
def EqPost (p q:Tr) (w:World) (e:Ending) (w':World):Prop:=e=.returned (.bool (cmp p q==0))∧Below w.heap.size w w'
theorem set1_any (v1 v2:Value) (p q:Tr) (w:World) (h1:Strs w v1 p.a) (h2:Strs w v2 q.a) (hl:p.a.length≤1000000000000) (hm:q.a.length≤1000000000000) :
    Calls Tryz.prog 106 #[.agg #[v1,.int .i64 p.e],.agg #[v2,.int .i64 q.e]] w (EqPost p q w):=by
  have H1:=Lib.hid (fun x y=>h1.below (((Below.refl _ _).alloc (Nat.le_refl _) x).alloc (by simp) y));have H2:=Lib.hid (fun x y=>h2.below (((Below.refl _ _).alloc (Nat.le_refl _) x).alloc (by simp) y));obtain ⟨_,a1,c1,rfl,-⟩:=h1;obtain ⟨_,a2,c2,rfl,-⟩:=h2;have HB:Hid (∀ x y n os,Below w.heap.size w (Go.Sort.grow (((w.alloc x).alloc y).drewN n) os)):=Lib.hid fun x y n os=>(((Below.refl _ _).alloc (Nat.le_refl _) _).alloc (by simp) _).trans ((below_grow _ n os).mono (by simp; omega))
  unfold EqPost
  cases hc:cmp p q==0 with
  | true=>
    have hc':cmp p q=0:=by simpa using hc
    have A:=Lib.hid (fun w ha hb=>z4g (.slice a1 p.a.length c1) (.slice a2 q.a.length c2) p q w ha hb hl hm);rw [hc'] at A;clear hc hc'
    go_enter Tryz.func106,Tryz.ntmps106
    go_wp2_with (go_at_call 104; refine (A.out _ (H1.out _ _) (H2.out _ _)).mono ?_; rintro e w' ⟨rfl,n,os,rfl⟩);go_ret;exact ⟨rfl,HB.out _ _ n os⟩
  | false=>
    have hc':cmp p q≠0:=by simpa using hc
    have A:=Lib.hid (fun w ha hb=>z4g (.slice a1 p.a.length c1) (.slice a2 q.a.length c2) p q w ha hb hl hm);generalize cmp p q=c at A hc' ⊢;clear hc
    go_enter Tryz.func106,Tryz.ntmps106
    go_wp2_with (go_at_call 104; refine (A.out _ (H1.out _ _) (H2.out _ _)).mono ?_; rintro e w' ⟨rfl,n,os,rfl⟩);go_ret;exact ⟨by simp [hc'],HB.out _ _ n os⟩
end Tr
namespace Rw
open Go Go.RowKit
def Made0 (w0 w wr:World) (v:Value) (l:List Nd) (k p:Nat):Prop:=∃ cs d,Far l 0 k p d∧wr.ownsRow w.heap.size 22 1 v k cs∧RwC w0 cs (kidsN k (l.drop 1))∧Below w.heap.size w wr
def n0:Nd:=⟨5,⟨#[]⟩,0⟩
def n1:Nd:=⟨1,⟨#[97]⟩,0⟩
def n2:Nd:=⟨6,⟨#[]⟩,0⟩
def n3:Nd:=⟨2,⟨#[]⟩,0⟩
def n4:Nd:=⟨3,⟨#[]⟩,0⟩
def aL:List Nd:=[n0,n1,n2,n3,n4]
end Rw
namespace Rx
open Go Go.RowKit Rw
theorem y3l (b off cap:Nat) (l:List Nd) (w:World) (hat:At w b off l) (hl:l.length≤4398046511104) :
    Calls Tryz.prog 122 #[.slice (some ⟨b,off,none⟩) l.length cap] w fun e w'=>e=.returned (.tuple #[.int .i64 (size l),.int .i64 (depth l)])∧Below w.heap.size w w':=by
  have HA:=Lib.hid hat;clear hat;obtain ⟨i0,hi0,hz0,hs0,hb0⟩:=info_parts x8v
  go_enter Tryz.func122,Tryz.ntmps122
  go_wp2_with fail
  go_step3
  go_wp2_with (at_make; refine wpList_make_own _ rfl _ _ 60 rfl w.heap.size 3 i0 _ 1 Tryz.underlying60 hi0 hz0 hs0 .i64 .i64 _ 16 rfl rfl rfl (by rw [hb0]; omega) (by unfold maxLen; omega) (Nat.le_refl _) ?_; intro w0 hown0 hgrow0)
  go_step3
  go_wp2_with fail
  go_loopg [3,4,12] l.length (fun g0 dv ov iv wr=>∃ (k d g c:Nat) (st:List Nat),k+g0=l.length∧d≤k∧st.length≤k∧dv=.int .i64 d∧ov=.slice (some ⟨g,0,none⟩) st.length c∧iv=.int .i64 k∧Hid (Stk w.heap.size wr g c st)∧Hid (Below w.heap.size w wr)∧Hid (Rest l k st d)∧Hid (∀ y∈st,y≤2))
  case atStart=>
    exact ⟨0,0,w.heap.size,16,[],Nat.zero_add _,Nat.le_refl _,Nat.le_refl _,rfl,rfl,rfl,Lib.hid hown0,Lib.hid ((Below.refl _ _).grown hgrow0 (Nat.le_refl _) (fun k hk=>by cases hk)),Lib.hid (Rest.start l),Lib.hid (fun y hy=>by cases hy)⟩
  case round=>
    obtain ⟨k,d,g,c,st,hk,hd,hst,rfl,rfl,rfl,HS,HB,HR,HY⟩:=hrel
    by_cases hlt:k<l.length
    · obtain ⟨e1,e2,e3⟩:=HA.out k hlt;have c1:wr.cell? ⟨b,off+k*3,none⟩=some (.int .i64 l[k].k):=by rw [HB.out.cell (Ap.z0a e1)]; exact e1
      have c2:wr.cell? ⟨b,off+k*3+1,none⟩=some (.string l[k].n):=by rw [HB.out.cell (Ap.z0a e2)]; exact e2
      have c3:wr.cell? ⟨b,off+k*3+2,none⟩=some (.int .i64 l[k].s):=by rw [HB.out.cell (Ap.z0a e3)]; exact e3
      have H1:=Lib.hid (fun ha=>HR.out.stop hlt ha);have H2:=Lib.hid (fun a ha hp=>HR.out.end (a:=a) hlt ha hp);have H3:=Lib.hid (fun a s ha hp=>HR.out.more (a:=a) (s:=s) hlt ha hp);obtain ⟨x,hx⟩:∃ x,l[k]=x:=⟨_,rfl⟩
      rw [hx] at c1 c2 c3 H1 H2 H3;clear hx e1 e2 e3;obtain ⟨a,ha⟩:∃ a,ar x.k=a:=⟨_,rfl⟩
      rw [ha] at H1 H2 H3;have HAR:=Lib.hid ha;have HBD:Hid (a≤2):=by have:=x4p x.k; rw [ha] at this; exact this.2
      clear ha
      by_cases h0:a<0
      · have HZ:=Lib.hid (H1.out h0);have d1:decide (a<0)=true:=decide_eq_true h0;go_wp2_with fail;refine (z6x x.k _).mono ?_;rw [HAR.out];rintro e w' ⟨rfl,rfl⟩;go_wp2_with fail;rw [Exit.noGoto_ret];go_ret2;rw [HZ.out.1,HZ.out.2];exact ⟨rfl,HB.out.alloc HB.out.size _⟩
      · obtain ⟨a,rfl⟩:∃ a':Nat,a=(a':Int):=⟨a.toNat,by omega⟩
        have d1:decide ((a:Int)<0)=false:=decide_eq_false h0;have HB1:Hid (Below w.heap.size w (wr.alloc (nb x))):=HB.out.alloc HB.out.size _;have hS1:Stk w.heap.size (wr.alloc (nb x)) g c st:=Ap.own_below HS.out (z0f wr (nb x));obtain ⟨g',c',w2,hrun,hS2,hB2⟩:=hS1.push a HB1.out.size (by omega);rw [show (wr.alloc (nb x)).heap.size=wr.heap.size+1 by simp] at hrun;have R:=Lib.hid hrun
        have HYA:Hid (∀ y∈st++[a],y≤2):=Lib.hid fun y hy=>by
          rcases List.mem_append.1 hy with h | h
          · exact HY.out y h
          · rw [List.mem_singleton] at h; have:=HBD.out; omega
        have HL:Hid ((st++[a]).length=st.length+1):=by show _=_; simp
        have HS2:=Lib.hid hS2;have HB2:=Lib.hid (HB1.out.trans hB2);have HG:Hid (w.heap.size≤g'):=by obtain ⟨_,_,hb',_⟩:=hS2.parts; exact hb'
        obtain ⟨n,hn⟩:∃ n,st.length=n:=⟨_,rfl⟩
        rw [hn] at R H2 H3 hst HL;clear hrun hS2 hB2 hS1;go_wp2_with fail;refine (z6x x.k _).mono ?_;rw [HAR.out];rintro e w' ⟨rfl,rfl⟩;go_wp2_with (at_builtin; refine Ap.wpList_append_run (by rfl) (.tmp 22) (.tmp 24) _ _ rfl _ _ rfl rfl _ w2 R.out ?_)
        all_goals
          go_loopg [4,8] (n+1) (fun g2 sv lv wy=>w2=wy∧sv=.slice (some ⟨g',0,none⟩) (n+1) c'∧g2≤n+1∧Hid (pop (st++[a]).reverse=pop ((st++[a]).take g2).reverse)∧((g2=0∧lv=.int .i64 (-1))∨∃ i:Nat,g2=i+1∧lv=.int .i64 i))
          case atStart=>exact ⟨rfl,rfl,Nat.le_refl _,Lib.hid (by rw [List.take_of_length_le (by rw [HL.out]; exact Nat.le_refl _)]),Or.inr ⟨n,rfl,rfl⟩⟩
          case round=>
            obtain ⟨rfl,rfl,hg2,HP,⟨rfl,rfl⟩ | ⟨i,rfl,rfl⟩⟩:=hrel
            · have HE:=Lib.hid (H2.out a rfl HP.out);go_wp2_with fail;rw [Exit.noGoto_ret];go_ret2;rw [HE.out.1,HE.out.2];refine ⟨?_,HB2.out⟩
              first
                | (rw [Nat.max_eq_left (by omega)]; rfl)
                | (rw [Nat.max_eq_right (by omega)]; rfl)
            · have hi:i<(st++[a]).length:=by rw [HL.out]; omega
              have ci:=HS2.out.cell i hi;have HPI:=Lib.hid (HP.out.trans (congrArg pop (pop_last hi)));obtain ⟨y,hy⟩:∃ y,(st++[a])[i]=y:=⟨_,rfl⟩
              rw [hy] at ci HPI;have HY2:Hid (y≤2):=HYA.out y (by rw [← hy]; exact List.getElem_mem hi);clear hy
              cases y with
              | zero=>
                go_wp2_with fail
                go_roundg i
                case measure=>omega
                case rel=>
                  refine ⟨rfl,rfl,by omega,HPI,?_⟩
                  cases i with
                  | zero=>exact Or.inl ⟨rfl,rfl⟩
                  | succ j=>exact Or.inr ⟨j,rfl,by go_num⟩
              | succ z=>
                have hwz:wrap64 ((z:Nat):Int)=(z:Int):=by have:=HY2.out; unfold wrap64; omega
                have HYZ:Hid (∀ y∈(st++[a]).take i++[z],y≤2):=Lib.hid fun y hy=>by
                  rcases List.mem_append.1 hy with h | h
                  · exact HYA.out y (List.mem_of_mem_take h)
                  · rw [List.mem_singleton] at h; have:=HY2.out; omega
                have hic:i+1≤c':=by have:=HS2.out.cap.1; omega
                have HZ:=Lib.hid (HS2.out.down i z hi);have HN:Hid (Rest l (k+1) ((st++[a]).take i++[z]) (max d (n+1))):=H3.out a _ rfl (HPI.out.trans (by rw [List.reverse_concat]; rfl))
                have HLZ:Hid (((st++[a]).take i++[z]).length=i+1):=by
                  show _=_
                  rw [List.length_append,List.length_take];simp only [List.length_cons,List.length_nil];omega
                have fi:=HS2.out.soft i;go_wp2_with fail
                go_roundg (gk-1)
                case measure=>omega
                case rel=>
                  refine ⟨k+1,max d (n+1),g',c',(st++[a]).take i++[z],by omega,by omega,by rw [HLZ.out]; omega,?_,by rw [HLZ.out],rfl,HZ,Lib.hid (z0y HB2.out _ _ _ HG.out),HN,HYZ⟩
                  first
                    | (rw [Nat.max_eq_left (by omega)]; done)
                    | (rw [Nat.max_eq_right (by omega)]; rfl)
    · have HZ:=Lib.hid (HR.out.out hlt);go_wp2_with fail;rw [Exit.noGoto_ret];go_ret2;rw [HZ.out.1,HZ.out.2];exact ⟨rfl,HB.out⟩
theorem y3k (a:Option Addr) (cap:Nat) (w:World) :
    Calls Tryz.prog 122 #[.slice a 0 cap] w fun e w'=>e=.returned (.tuple #[.int .i64 0,.int .i64 0])∧Below w.heap.size w w':=by
  obtain ⟨i0,hi0,hz0,hs0,hb0⟩:=info_parts x8v
  go_enter Tryz.func122,Tryz.ntmps122
  go_wp2_with fail
  go_step3
  go_wp2_with (at_make; refine wpList_make_own _ rfl _ _ 60 rfl w.heap.size 3 i0 _ 1 Tryz.underlying60 hi0 hz0 hs0 .i64 .i64 _ 16 rfl rfl rfl (by rw [hb0]; omega) (by unfold maxLen; omega) (Nat.le_refl _) ?_; intro w0 hown0 hgrow0)
  go_step3
  go_wp2_with fail;refine Go.wp_loop_rounds 1 ?_;rw [rounds_succ];go_wp2_with fail;rw [Exit.noGoto_ret];go_ret2;exact ⟨rfl,(Below.refl _ _).grown hgrow0 (Nat.le_refl _) (fun k hk=>by cases hk)⟩
theorem y8e (v:Value) (l:List Nd) (w:World) (h:Nds w v l) (hl:l.length≤4398046511104) :
    Calls Tryz.prog 122 #[v] w fun e w'=>e=.returned (.tuple #[.int .i64 (size l),.int .i64 (depth l)])∧Below w.heap.size w w':=by
  rcases h.form with ⟨rfl,a,cap,rfl⟩ | ⟨b,off,cap,rfl,_,hat⟩
  · exact y3k a cap w
  · exact y3l b off cap l w hat hl
theorem y4u (v:Value) (l:List Nd) (w:World) (h:Nds w v l) (hl:l.length≤4398046511104) :
    Calls Tryz.prog 78 #[v] w fun e w'=>e=.returned (.int .i64 (size l))∧Below w.heap.size w w':=by
  have H:=Lib.hid h;clear h
  go_enter Tryz.func78,Tryz.ntmps78
  go_wp2_with fail;refine (y8e v l _ H.out hl).mono ?_;rintro e w' ⟨rfl,hb⟩;have HB:=Lib.hid hb;clear hb;go_wp2_with fail;go_ret;exact ⟨rfl,HB.out⟩
theorem z2j (v:Value) (l:List Nd) (w:World) (h:Nds w v l) (hl:l.length≤1000000) :
    Calls Tryz.prog 78 #[v] w fun e w'=>e=.returned (.int .i64 (size l))∧Below w.heap.size w w':=y4u v l w h (by omega)
def sgn (s:Int):Bool:=decide (1≤s)&&decide (s≤3)
theorem sign_any (s:Int) (w:World):Calls Tryz.prog 138 #[.int .i64 s] w fun e w'=>e=.returned (.bool (sgn s))∧w=w':=by
  by_cases h:s=1∨s=2∨s=3
  · rcases h with rfl | rfl | rfl
    all_goals
      go_enter Tryz.func138,Tryz.ntmps138
      go_wp2_with fail;go_ret;exact ⟨rfl,rfl⟩
  · have b1:(s==1)=false:=by rw [beq_eq_false_iff_ne]; omega
    have b2:(s==2)=false:=by rw [beq_eq_false_iff_ne]; omega
    have b3:(s==3)=false:=by rw [beq_eq_false_iff_ne]; omega
    have hb:sgn s=false:=by simp [sgn]; omega
    rw [hb];clear hb h
    go_enter Tryz.func138,Tryz.ntmps138
    go_wp2_with fail;go_ret;exact ⟨rfl,rfl⟩
theorem eq_nd (x y:Nd) (w:World):(binOp .eql 36 (.agg #[.int .i64 x.k,.string x.n,.int .i64 x.s]) (.agg #[.int .i64 y.k,.string y.n,.int .i64 y.s])).run Tryz.prog w=.ok (.bool (decide (x=y))) w:=by
  rw [run_eql_struct,show (10000:Nat)=9998+2 from rfl,x9r]
  rfl
theorem z6w (w:World) (o:Obj):Below w.heap.size w (w.alloc o):=(Below.refl _ _).alloc (Nat.le_refl _) _
theorem below2 (w:World) (o p:Obj):Below w.heap.size w ((w.alloc o).alloc p):=(z6w w o).alloc (z6w w o).size p
theorem low_nm (n:ByteArray):(low n.data.toList&&(decide (1≤n.size)&&decide (n.size≤8))&&true&&!wordB n)=nm n:=by unfold nm; simp
theorem rgtP_act (n:ByteArray) (s:Int) (w:World) (hn:n.size≤140737488355328):Calls Tryz.prog 94 #[.agg #[.int .i64 1,.string n,.int .i64 s]] w fun e w'=>e=.returned (.bool (rgt ⟨1,n,s⟩))∧Below w.heap.size w w':=by
  have hq:=eq_nd ⟨1,n,s⟩ ⟨1,n,0⟩
  by_cases h0:s=0
  · subst h0;have HR:Hid (rgt ⟨1,n,0⟩=nm n):=(y2s n 0).trans (low_nm n);rw [decide_eq_true rfl] at hq
    go_enter Tryz.func94,Tryz.ntmps94
    go_wp2_with fail;refine (name_any n _ hn).mono ?_;rintro e w' ⟨rfl,hb⟩;have HB:=Lib.hid hb;clear hb;go_wp2_with fail;go_ret;exact ⟨ret_bool HR.out.symm,(below2 w _ _).trans (HB.out.mono (below2 w _ _).size)⟩
  · have HR:Hid (rgt ⟨1,n,s⟩=false):=(y2s n s).trans (by rw [show (s==0)=false by simpa using h0]; simp);rw [decide_eq_false (fun e=>h0 (z9k.1 e).2.2)] at hq;clear h0
    go_enter Tryz.func94,Tryz.ntmps94
    go_wp2_with fail;go_ret;exact ⟨ret_bool HR.out.symm,below2 w _ _⟩
theorem x6j (k:Int) (n:ByteArray) (s:Int) (w:World) (hk:k=11∨k=14):Calls Tryz.prog 94 #[.agg #[.int .i64 k,.string n,.int .i64 s]] w fun e w'=>e=.returned (.bool (rgt ⟨k,n,s⟩))∧Below w.heap.size w w':=by
  have hq:=eq_nd ⟨k,n,s⟩ ⟨k,⟨#[]⟩,s⟩
  by_cases h0:n.size=0
  · have HR:Hid (rgt ⟨k,n,s⟩=sgn s):=(z3u n s hk).trans (by rw [decide_eq_true h0,Bool.true_and]; rfl);obtain rfl:=z6t h0;rw [decide_eq_true rfl] at hq;clear h0
    rcases hk with rfl | rfl
    all_goals
      go_enter Tryz.func94,Tryz.ntmps94
      go_wp2_with fail;refine (sign_any s _).mono ?_;rintro e w' ⟨rfl,rfl⟩;go_wp2_with fail;go_ret;exact ⟨ret_bool HR.out.symm,below2 w _ _⟩
  · have HR:Hid (rgt ⟨k,n,s⟩=false):=(z3u n s hk).trans (by rw [decide_eq_false h0,Bool.false_and]);rw [decide_eq_false (fun e=>h0 (congrArg ByteArray.size (z9k.1 e).2.1))] at hq;clear h0
    rcases hk with rfl | rfl
    all_goals
      go_enter Tryz.func94,Tryz.ntmps94
      go_wp2_with fail;go_ret;exact ⟨ret_bool HR.out.symm,below2 w _ _⟩
theorem rgt_no {k:Int} (n:ByteArray) (s:Int) (h0:ar k<0):rgt ⟨k,n,s⟩=false:=by unfold rgt; rw [if_pos h0]
theorem x2s (k:Int) (n:ByteArray) (s:Int) (w:World) (h1:¬ k=1) (hk:¬ (k=11∨k=14)):Calls Tryz.prog 94 #[.agg #[.int .i64 k,.string n,.int .i64 s]] w fun e w'=>e=.returned (.bool (rgt ⟨k,n,s⟩))∧Below w.heap.size w w':=by
  have hq:=eq_nd ⟨k,n,s⟩ ⟨k,⟨#[]⟩,0⟩;have k1:(k==1)=false:=by rw [beq_eq_false_iff_ne]; omega
  have k2:(k==11)=false:=by rw [beq_eq_false_iff_ne]; omega
  have k3:(k==14)=false:=by rw [beq_eq_false_iff_ne]; omega
  have HZ:Hid (rgt ⟨k,n,s⟩=(decide ((⟨k,n,s⟩:Nd)=⟨k,⟨#[]⟩,0⟩)&&decide (ar k≥0))):=by
    show _=_
    by_cases h0:ar k<0
    · rw [rgt_no n s h0,decide_eq_false (show ¬ ar k≥0 by omega),Bool.and_false]
    · rw [z9c n s h0 h1 hk,decide_eq_true (show ar k≥0 by omega),Bool.and_true]
      by_cases h2:n.size=0
      · obtain rfl:=z6t h2;rw [decide_eq_true h2,Bool.true_and,Bool.eq_iff_iff];simp
      · rw [decide_eq_false h2,Bool.false_and,decide_eq_false (fun e=>h2 (congrArg ByteArray.size (z9k.1 e).2.1))]
  clear h1 hk;obtain ⟨a,ha⟩:∃ a,ar k=a:=⟨_,rfl⟩
  rw [ha] at HZ;have HA:=Lib.hid ha;clear ha
  by_cases h0:(⟨k,n,s⟩:Nd)=⟨k,⟨#[]⟩,0⟩
  · rw [decide_eq_true h0,Bool.true_and] at HZ;rw [decide_eq_true h0] at hq;clear h0
    go_enter Tryz.func94,Tryz.ntmps94
    go_wp2_with fail;refine (z6x k _).mono ?_;rw [HA.out];rintro e w' ⟨rfl,rfl⟩;go_wp2_with fail;go_ret;exact ⟨ret_bool HZ.out.symm,below2 w _ _⟩
  · rw [decide_eq_false h0,Bool.false_and] at HZ;rw [decide_eq_false h0] at hq;clear h0
    go_enter Tryz.func94,Tryz.ntmps94
    go_wp2_with fail;go_ret;exact ⟨ret_bool HZ.out.symm,below2 w _ _⟩
theorem rgtP_any (x:Nd) (w:World) (hn:x.n.size≤140737488355328):Calls Tryz.prog 94 #[.agg #[.int .i64 x.k,.string x.n,.int .i64 x.s]] w fun e w'=>e=.returned (.bool (rgt x))∧Below w.heap.size w w':=by
  obtain ⟨k,n,s⟩:=x
  by_cases h1:k=1
  · subst h1;exact rgtP_act n s w hn
  · by_cases hk:k=11∨k=14
    · exact x6j k n s w hk
    · exact x2s k n s w h1 hk
end Rx
end Go.Proofs.YtaapnkoooofalaaGreat
