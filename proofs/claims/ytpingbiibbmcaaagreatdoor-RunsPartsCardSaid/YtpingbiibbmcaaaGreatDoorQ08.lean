/- Laws that the last text leans on. -/
import Derived.Test.YtpingbiibbmcaaaGreatDoorQ07

set_option maxRecDepth 20000
set_option maxHeartbeats 4000000
namespace Go.Proofs.YtpingbiibbmcaaaGreatDoor
namespace Rx
open Go Go.RowKit Rw
theorem y3q (b off cap:Nat) (l:List Nd) (w:World) (hat:At w b off l) (hl:l.length≤4398046511104) :
    Calls Tryz.prog 155 #[.slice (some ⟨b,off,none⟩) l.length cap] w fun e w'=>e=.returned (.tuple #[.int .i64 (size l),.int .i64 (depth l)])∧Below w.heap.size w w':=by
  have HA:=Lib.hid hat;clear hat;obtain ⟨i0,hi0,hz0,hs0,hb0⟩:=info_parts v1u
  go_enter Tryz.func155,Tryz.ntmps155
  go_wp2_with fail
  go_step3
  go_wp2_with (at_make; refine wpList_make_own _ rfl _ _ 23 rfl w.heap.size 3 i0 _ 1 Tryz.underlying23 hi0 hz0 hs0 .i64 .i64 _ 16 rfl rfl rfl (by rw [hb0]; omega) (by unfold maxLen; omega) (Nat.le_refl _) ?_; intro w0 hown0 hgrow0)
  go_step3
  go_wp2_with fail
  go_loopg [3,4,12] l.length (fun g0 dv ov iv wr=>∃ (k d g c:Nat) (st:List Nat),k+g0=l.length∧d≤k∧st.length≤k∧dv=.int .i64 d∧ov=.slice (some ⟨g,0,none⟩) st.length c∧iv=.int .i64 k∧Hid (Stk w.heap.size wr g c st)∧Hid (Below w.heap.size w wr)∧Hid (Rest l k st d)∧Hid (∀ y∈st,y≤2))
  case atStart=>
    exact ⟨0,0,w.heap.size,16,[],Nat.zero_add _,Nat.le_refl _,Nat.le_refl _,rfl,rfl,rfl,Lib.hid hown0,Lib.hid ((Below.refl _ _).grown hgrow0 (Nat.le_refl _) (fun k hk=>by cases hk)),Lib.hid (Rest.start l),Lib.hid (fun y hy=>by cases hy)⟩
  case round=>
    obtain ⟨k,d,g,c,st,hk,hd,hst,rfl,rfl,rfl,HS,HB,HR,HY⟩:=hrel
    by_cases hlt:k<l.length
    · obtain ⟨e1,e2,e3⟩:=HA.out k hlt;have c1:wr.cell? ⟨b,off+k*3,none⟩=some (.int .i64 l[k].k):=by rw [HB.out.cell (Ap.z0a e1)]; exact e1
      have c2:wr.cell? ⟨b,off+k*3+1,none⟩=some (.string l[k].n):=by rw [HB.out.cell (Ap.z0a e2)]; exact e2
      have c3:wr.cell? ⟨b,off+k*3+2,none⟩=some (.int .i64 l[k].s):=by rw [HB.out.cell (Ap.z0a e3)]; exact e3
      have H1:=Lib.hid (fun ha=>HR.out.stop hlt ha);have H2:=Lib.hid (fun a ha hp=>HR.out.end (a:=a) hlt ha hp);have H3:=Lib.hid (fun a s ha hp=>HR.out.more (a:=a) (s:=s) hlt ha hp);obtain ⟨x,hx⟩:∃ x,l[k]=x:=⟨_,rfl⟩
      rw [hx] at c1 c2 c3 H1 H2 H3;clear hx e1 e2 e3;obtain ⟨a,ha⟩:∃ a,ar x.k=a:=⟨_,rfl⟩
      rw [ha] at H1 H2 H3;have HAR:=Lib.hid ha;have HBD:Hid (a≤2):=by have:=x1b x.k; rw [ha] at this; exact this.2
      clear ha
      by_cases h0:a<0
      · have HZ:=Lib.hid (H1.out h0);have d1:decide (a<0)=true:=decide_eq_true h0;go_wp2_with fail;refine (z6o x.k _).mono ?_;rw [HAR.out];rintro e w' ⟨rfl,rfl⟩;go_wp2_with fail;rw [Exit.noGoto_ret];go_ret2;rw [HZ.out.1,HZ.out.2];exact ⟨rfl,HB.out.alloc HB.out.size _⟩
      · obtain ⟨a,rfl⟩:∃ a':Nat,a=(a':Int):=⟨a.toNat,by omega⟩
        have d1:decide ((a:Int)<0)=false:=decide_eq_false h0;have HB1:Hid (Below w.heap.size w (wr.alloc (nb x))):=HB.out.alloc HB.out.size _;have hS1:Stk w.heap.size (wr.alloc (nb x)) g c st:=Ap.own_below HS.out (z0b wr (nb x));obtain ⟨g',c',w2,hrun,hS2,hB2⟩:=hS1.push a HB1.out.size (by omega);rw [show (wr.alloc (nb x)).heap.size=wr.heap.size+1 by simp] at hrun;have R:=Lib.hid hrun
        have HYA:Hid (∀ y∈st++[a],y≤2):=Lib.hid fun y hy=>by
          rcases List.mem_append.1 hy with h | h
          · exact HY.out y h
          · rw [List.mem_singleton] at h; have:=HBD.out; omega
        have HL:Hid ((st++[a]).length=st.length+1):=by show _=_; simp
        have HS2:=Lib.hid hS2;have HB2:=Lib.hid (HB1.out.trans hB2);have HG:Hid (w.heap.size≤g'):=by obtain ⟨_,_,hb',_⟩:=hS2.parts; exact hb'
        obtain ⟨n,hn⟩:∃ n,st.length=n:=⟨_,rfl⟩
        rw [hn] at R H2 H3 hst HL;clear hrun hS2 hB2 hS1;go_wp2_with fail;refine (z6o x.k _).mono ?_;rw [HAR.out];rintro e w' ⟨rfl,rfl⟩;go_wp2_with (at_builtin; refine Ap.wpList_append_run (by rfl) (.tmp 22) (.tmp 24) _ _ rfl _ _ rfl rfl _ w2 R.out ?_)
        all_goals
          go_loopg [4,8] (n+1) (fun g2 sv lv wy=>w2=wy∧sv=.slice (some ⟨g',0,none⟩) (n+1) c'∧g2≤n+1∧Hid (pop (st++[a]).reverse=pop ((st++[a]).take g2).reverse)∧((g2=0∧lv=.int .i64 (-1))∨∃ i:Nat,g2=i+1∧lv=.int .i64 i))
          case atStart=>exact ⟨rfl,rfl,Nat.le_refl _,Lib.hid (by rw [List.take_of_length_le (by rw [HL.out]; exact Nat.le_refl _)]),Or.inr ⟨n,rfl,rfl⟩⟩
          case round=>
            obtain ⟨rfl,rfl,hg2,HP,⟨rfl,rfl⟩ | ⟨i,rfl,rfl⟩⟩:=hrel
            · have HE:=Lib.hid (H2.out a rfl HP.out);go_wp2_with fail;rw [Exit.noGoto_ret];go_ret2;rw [HE.out.1,HE.out.2];refine ⟨?_,HB2.out⟩
              first
                | (rw [Nat.max_eq_left (by omega)]; rfl)
                | (rw [Nat.max_eq_right (by omega)]; rfl)
            · have hi:i<(st++[a]).length:=by rw [HL.out]; omega
              have ci:=HS2.out.cell i hi;have HPI:=Lib.hid (HP.out.trans (congrArg pop (pop_last hi)));obtain ⟨y,hy⟩:∃ y,(st++[a])[i]=y:=⟨_,rfl⟩
              rw [hy] at ci HPI;have HY2:Hid (y≤2):=HYA.out y (by rw [← hy]; exact List.getElem_mem hi);clear hy
              cases y with
              | zero=>
                go_wp2_with fail
                go_roundg i
                case measure=>omega
                case rel=>
                  refine ⟨rfl,rfl,by omega,HPI,?_⟩
                  cases i with
                  | zero=>exact Or.inl ⟨rfl,rfl⟩
                  | succ j=>exact Or.inr ⟨j,rfl,by go_num⟩
              | succ z=>
                have hwz:wrap64 ((z:Nat):Int)=(z:Int):=by have:=HY2.out; unfold wrap64; omega
                have HYZ:Hid (∀ y∈(st++[a]).take i++[z],y≤2):=Lib.hid fun y hy=>by
                  rcases List.mem_append.1 hy with h | h
                  · exact HYA.out y (List.mem_of_mem_take h)
                  · rw [List.mem_singleton] at h; have:=HY2.out; omega
                have hic:i+1≤c':=by have:=HS2.out.cap.1; omega
                have HZ:=Lib.hid (HS2.out.down i z hi);have HN:Hid (Rest l (k+1) ((st++[a]).take i++[z]) (max d (n+1))):=H3.out a _ rfl (HPI.out.trans (by rw [List.reverse_concat]; rfl))
                have HLZ:Hid (((st++[a]).take i++[z]).length=i+1):=by
                  show _=_
                  rw [List.length_append,List.length_take];simp only [List.length_cons,List.length_nil];omega
                have fi:=HS2.out.soft i;go_wp2_with fail
                go_roundg (gk-1)
                case measure=>omega
                case rel=>
                  refine ⟨k+1,max d (n+1),g',c',(st++[a]).take i++[z],by omega,by omega,by rw [HLZ.out]; omega,?_,by rw [HLZ.out],rfl,HZ,Lib.hid (z0f HB2.out _ _ _ HG.out),HN,HYZ⟩
                  first
                    | (rw [Nat.max_eq_left (by omega)]; done)
                    | (rw [Nat.max_eq_right (by omega)]; rfl)
    · have HZ:=Lib.hid (HR.out.out hlt);go_wp2_with fail;rw [Exit.noGoto_ret];go_ret2;rw [HZ.out.1,HZ.out.2];exact ⟨rfl,HB.out⟩
theorem y3p (a:Option Addr) (cap:Nat) (w:World) :
    Calls Tryz.prog 155 #[.slice a 0 cap] w fun e w'=>e=.returned (.tuple #[.int .i64 0,.int .i64 0])∧Below w.heap.size w w':=by
  obtain ⟨i0,hi0,hz0,hs0,hb0⟩:=info_parts v1u
  go_enter Tryz.func155,Tryz.ntmps155
  go_wp2_with fail
  go_step3
  go_wp2_with (at_make; refine wpList_make_own _ rfl _ _ 23 rfl w.heap.size 3 i0 _ 1 Tryz.underlying23 hi0 hz0 hs0 .i64 .i64 _ 16 rfl rfl rfl (by rw [hb0]; omega) (by unfold maxLen; omega) (Nat.le_refl _) ?_; intro w0 hown0 hgrow0)
  go_step3
  go_wp2_with fail;refine Go.wp_loop_rounds 1 ?_;rw [rounds_succ];go_wp2_with fail;rw [Exit.noGoto_ret];go_ret2;exact ⟨rfl,(Below.refl _ _).grown hgrow0 (Nat.le_refl _) (fun k hk=>by cases hk)⟩
theorem y9l (v:Value) (l:List Nd) (w:World) (h:Nds w v l) (hl:l.length≤4398046511104) :
    Calls Tryz.prog 155 #[v] w fun e w'=>e=.returned (.tuple #[.int .i64 (size l),.int .i64 (depth l)])∧Below w.heap.size w w':=by
  rcases h.form with ⟨rfl,a,cap,rfl⟩ | ⟨b,off,cap,rfl,_,hat⟩
  · exact y3p a cap w
  · exact y3q b off cap l w hat hl
theorem y5l (v:Value) (l:List Nd) (w:World) (h:Nds w v l) (hl:l.length≤4398046511104) :
    Calls Tryz.prog 158 #[v] w fun e w'=>e=.returned (.int .i64 (size l))∧Below w.heap.size w w':=by
  have H:=Lib.hid h;clear h
  go_enter Tryz.func158,Tryz.ntmps158
  go_wp2_with fail;refine (y9l v l _ H.out hl).mono ?_;rintro e w' ⟨rfl,hb⟩;have HB:=Lib.hid hb;clear hb;go_wp2_with fail;go_ret;exact ⟨rfl,HB.out⟩
theorem z2e (v:Value) (l:List Nd) (w:World) (h:Nds w v l) (hl:l.length≤1000000) :
    Calls Tryz.prog 158 #[v] w fun e w'=>e=.returned (.int .i64 (size l))∧Below w.heap.size w w':=y5l v l w h (by omega)
def sgn (s:Int):Bool:=decide (1≤s)&&decide (s≤3)
theorem sign_any (s:Int) (w:World):Calls Tryz.prog 290 #[.int .i64 s] w fun e w'=>e=.returned (.bool (sgn s))∧w=w':=by
  by_cases h:s=1∨s=2∨s=3
  · rcases h with rfl | rfl | rfl
    all_goals
      go_enter Tryz.func290,Tryz.ntmps290
      go_wp2_with fail;go_ret;exact ⟨rfl,rfl⟩
  · have b1:(s==1)=false:=by rw [beq_eq_false_iff_ne]; omega
    have b2:(s==2)=false:=by rw [beq_eq_false_iff_ne]; omega
    have b3:(s==3)=false:=by rw [beq_eq_false_iff_ne]; omega
    have hb:sgn s=false:=by simp [sgn]; omega
    rw [hb];clear hb h
    go_enter Tryz.func290,Tryz.ntmps290
    go_wp2_with fail;go_ret;exact ⟨rfl,rfl⟩
theorem eq_nd (x y:Nd) (w:World):(binOp .eql 68 (.agg #[.int .i64 x.k,.string x.n,.int .i64 x.s]) (.agg #[.int .i64 y.k,.string y.n,.int .i64 y.s])).run Tryz.prog w=.ok (.bool (decide (x=y))) w:=by
  rw [run_eql_struct,show (10000:Nat)=9998+2 from rfl,v2q]
  rfl
theorem z6n (w:World) (o:Obj):Below w.heap.size w (w.alloc o):=(Below.refl _ _).alloc (Nat.le_refl _) _
theorem y0t (w:World) (o p:Obj):Below w.heap.size w ((w.alloc o).alloc p):=(z6n w o).alloc (z6n w o).size p
theorem low_nm (n:ByteArray):(low n.data.toList&&(decide (1≤n.size)&&decide (n.size≤8))&&true&&!wordB n)=nm n:=by unfold nm; simp
theorem rgtP_act (n:ByteArray) (s:Int) (w:World) (hn:n.size≤140737488355328):Calls Tryz.prog 257 #[.agg #[.int .i64 1,.string n,.int .i64 s]] w fun e w'=>e=.returned (.bool (rgt ⟨1,n,s⟩))∧Below w.heap.size w w':=by
  have hq:=eq_nd ⟨1,n,s⟩ ⟨1,n,0⟩
  by_cases h0:s=0
  · subst h0;have HR:Hid (rgt ⟨1,n,0⟩=nm n):=(z9g n 0).trans (low_nm n);rw [decide_eq_true rfl] at hq
    go_enter Tryz.func257,Tryz.ntmps257
    go_wp2_with fail;refine (name_any n _ hn).mono ?_;rintro e w' ⟨rfl,hb⟩;have HB:=Lib.hid hb;clear hb;go_wp2_with fail;go_ret;exact ⟨ret_bool HR.out.symm,(y0t w _ _).trans (HB.out.mono (y0t w _ _).size)⟩
  · have HR:Hid (rgt ⟨1,n,s⟩=false):=(z9g n s).trans (by rw [show (s==0)=false by simpa using h0]; simp);rw [decide_eq_false (fun e=>h0 (z9s.1 e).2.2)] at hq;clear h0
    go_enter Tryz.func257,Tryz.ntmps257
    go_wp2_with fail;go_ret;exact ⟨ret_bool HR.out.symm,y0t w _ _⟩
theorem x8t (k:Int) (n:ByteArray) (s:Int) (w:World) (hk:k=11∨k=14):Calls Tryz.prog 257 #[.agg #[.int .i64 k,.string n,.int .i64 s]] w fun e w'=>e=.returned (.bool (rgt ⟨k,n,s⟩))∧Below w.heap.size w w':=by
  have hq:=eq_nd ⟨k,n,s⟩ ⟨k,⟨#[]⟩,s⟩
  by_cases h0:n.size=0
  · have HR:Hid (rgt ⟨k,n,s⟩=sgn s):=(z3a n s hk).trans (by rw [decide_eq_true h0,Bool.true_and]; rfl);obtain rfl:=z3z h0;rw [decide_eq_true rfl] at hq;clear h0
    rcases hk with rfl | rfl
    all_goals
      go_enter Tryz.func257,Tryz.ntmps257
      go_wp2_with fail;refine (sign_any s _).mono ?_;rintro e w' ⟨rfl,rfl⟩;go_wp2_with fail;go_ret;exact ⟨ret_bool HR.out.symm,y0t w _ _⟩
  · have HR:Hid (rgt ⟨k,n,s⟩=false):=(z3a n s hk).trans (by rw [decide_eq_false h0,Bool.false_and]);rw [decide_eq_false (fun e=>h0 (congrArg ByteArray.size (z9s.1 e).2.1))] at hq;clear h0
    rcases hk with rfl | rfl
    all_goals
      go_enter Tryz.func257,Tryz.ntmps257
      go_wp2_with fail;go_ret;exact ⟨ret_bool HR.out.symm,y0t w _ _⟩
theorem rgt_no {k:Int} (n:ByteArray) (s:Int) (h0:ar k<0):rgt ⟨k,n,s⟩=false:=by unfold rgt; rw [if_pos h0]
theorem x4t (k:Int) (n:ByteArray) (s:Int) (w:World) (h1:¬ k=1) (hk:¬ (k=11∨k=14)):Calls Tryz.prog 257 #[.agg #[.int .i64 k,.string n,.int .i64 s]] w fun e w'=>e=.returned (.bool (rgt ⟨k,n,s⟩))∧Below w.heap.size w w':=by
  have hq:=eq_nd ⟨k,n,s⟩ ⟨k,⟨#[]⟩,0⟩;have k1:(k==1)=false:=by rw [beq_eq_false_iff_ne]; omega
  have k2:(k==11)=false:=by rw [beq_eq_false_iff_ne]; omega
  have k3:(k==14)=false:=by rw [beq_eq_false_iff_ne]; omega
  have HZ:Hid (rgt ⟨k,n,s⟩=(decide ((⟨k,n,s⟩:Nd)=⟨k,⟨#[]⟩,0⟩)&&decide (ar k≥0))):=by
    show _=_
    by_cases h0:ar k<0
    · rw [rgt_no n s h0,decide_eq_false (show ¬ ar k≥0 by omega),Bool.and_false]
    · rw [z5x n s h0 h1 hk,decide_eq_true (show ar k≥0 by omega),Bool.and_true]
      by_cases h2:n.size=0
      · obtain rfl:=z3z h2;rw [decide_eq_true h2,Bool.true_and,Bool.eq_iff_iff];simp
      · rw [decide_eq_false h2,Bool.false_and,decide_eq_false (fun e=>h2 (congrArg ByteArray.size (z9s.1 e).2.1))]
  clear h1 hk;obtain ⟨a,ha⟩:∃ a,ar k=a:=⟨_,rfl⟩
  rw [ha] at HZ;have HA:=Lib.hid ha;clear ha
  by_cases h0:(⟨k,n,s⟩:Nd)=⟨k,⟨#[]⟩,0⟩
  · rw [decide_eq_true h0,Bool.true_and] at HZ;rw [decide_eq_true h0] at hq;clear h0
    go_enter Tryz.func257,Tryz.ntmps257
    go_wp2_with fail;refine (z6o k _).mono ?_;rw [HA.out];rintro e w' ⟨rfl,rfl⟩;go_wp2_with fail;go_ret;exact ⟨ret_bool HZ.out.symm,y0t w _ _⟩
  · rw [decide_eq_false h0,Bool.false_and] at HZ;rw [decide_eq_false h0] at hq;clear h0
    go_enter Tryz.func257,Tryz.ntmps257
    go_wp2_with fail;go_ret;exact ⟨ret_bool HZ.out.symm,y0t w _ _⟩
theorem rgtP_any (x:Nd) (w:World) (hn:x.n.size≤140737488355328):Calls Tryz.prog 257 #[.agg #[.int .i64 x.k,.string x.n,.int .i64 x.s]] w fun e w'=>e=.returned (.bool (rgt x))∧Below w.heap.size w w':=by
  obtain ⟨k,n,s⟩:=x
  by_cases h1:k=1
  · subst h1;exact rgtP_act n s w hn
  · by_cases hk:k=11∨k=14
    · exact x8t k n s w hk
    · exact x4t k n s w h1 hk
theorem v3g (a1 a2:Option Addr) (c1 c2 n m:Nat) (w:World) (h:n≠m) :
    Calls Tryz.prog 201 #[.slice a1 n c1,.slice a2 m c2] w fun e w'=>e=.returned (.bool false)∧Below w.heap.size w w':=by
  have hne:((n:Int)==(m:Int))=false:=by rw [beq_eq_false_iff_ne]; omega
  have hne':((n:Int) != (m:Int))=true:=by rw [bne_iff_ne]; omega
  go_enter Tryz.func201,Tryz.ntmps201
  go_wp2_with fail;go_ret;exact ⟨rfl,Below.refl _ _⟩
theorem y7b (a1 a2:Option Addr) (c1 c2:Nat) (w:World) :
    Calls Tryz.prog 201 #[.slice a1 0 c1,.slice a2 0 c2] w fun e w'=>e=.returned (.bool true)∧Below w.heap.size w w':=by
  go_enter Tryz.func201,Tryz.ntmps201
  go_wp2_with fail;refine Go.wp_loop_rounds 1 ?_;rw [rounds_succ];go_wp2_with fail;go_ret;exact ⟨rfl,Below.refl _ _⟩
theorem v3h (b1 o1 c1 b2 o2 c2:Nat) (l m:List Nd) (w:World) (hl:l.length≤1000000) (he:m.length=l.length) (h1:At w b1 o1 l) (h2:At w b2 o2 m) :
    Calls Tryz.prog 201 #[.slice (some ⟨b1,o1,none⟩) l.length c1,.slice (some ⟨b2,o2,none⟩) l.length c2] w fun e w'=>e=.returned (.bool (sameN l m))∧Below w.heap.size w w':=by
  have H1:=Lib.hid h1;have H2:=Lib.hid h2;have HE:=Lib.hid he;clear h1 h2 he
  go_enter Tryz.func201,Tryz.ntmps201
  go_wp2_with fail
  go_loopw [13] (fun i wr=>∃ k:Nat,k≤l.length∧i=.int .i64 k∧Below w.heap.size w wr∧sameN l m=sameN (l.drop k) (m.drop k)) (fun i _=>l.length-(intOf i).toNat)
  case atStart=>exact ⟨0,Nat.zero_le _,rfl,Below.refl _ _,rfl⟩
  case round=>
    obtain ⟨k,hk,rfl,hb,hsame⟩:=hrel;have HB:=Lib.hid hb;have HS:=Lib.hid hsame;clear hb hsame
    by_cases hlt:k<l.length
    · have hlt2:k<m.length:=by rw [HE.out]; exact hlt
      obtain ⟨e1,e2,e3⟩:=H1.out k hlt;obtain ⟨e1',e2',e3'⟩:=H2.out k hlt2;have d1:wr.cell? ⟨b1,o1+k*3,none⟩=some (.int .i64 l[k].k):=by rw [HB.out.cell (Ap.z0a e1)]; exact e1
      have d2:wr.cell? ⟨b1,o1+k*3+1,none⟩=some (.string l[k].n):=by rw [HB.out.cell (Ap.z0a e2)]; exact e2
      have d3:wr.cell? ⟨b1,o1+k*3+2,none⟩=some (.int .i64 l[k].s):=by rw [HB.out.cell (Ap.z0a e3)]; exact e3
      have d4:wr.cell? ⟨b2,o2+k*3,none⟩=some (.int .i64 m[k].k):=by rw [HB.out.cell (Ap.z0a e1')]; exact e1'
      have d5:wr.cell? ⟨b2,o2+k*3+1,none⟩=some (.string m[k].n):=by rw [HB.out.cell (Ap.z0a e2')]; exact e2'
      have d6:wr.cell? ⟨b2,o2+k*3+2,none⟩=some (.int .i64 m[k].s):=by rw [HB.out.cell (Ap.z0a e3')]; exact e3'
      have HA:=Lib.hid (HS.out.trans (x1n hlt hlt2));clear e1 e2 e3 e1' e2' e3';obtain ⟨u,hu⟩:∃ u,l[k]=u:=⟨_,rfl⟩
      obtain ⟨v,hv⟩:∃ v,m[k]=v:=⟨_,rfl⟩
      rw [hu] at d1 d2 d3 HA;rw [hv] at d4 d5 d6 HA;clear hu hv;have hq:=neq_nd u v
      by_cases huv:u=v
      · rw [decide_eq_true huv] at hq;have HV:=Lib.hid huv;clear huv;go_wp2_with fail
        go_quiet (fail)
        go_wp2_with fail
        go_roundw
        case rel=>exact ⟨k+1,by omega,by go_num,HB.out.trans (Below.drewN _ _ _),by rw [HA.out,decide_eq_true HV.out,Bool.true_and]⟩
        case measure=>simp [intOf]; omega
      · rw [decide_eq_false huv] at hq;have HV:=Lib.hid huv;clear huv;go_wp2_with fail
        go_quiet (fail)
        go_wp2_with fail;go_ret;exact ⟨ret_bool (by rw [HA.out,decide_eq_false HV.out,Bool.false_and]),HB.out.trans (Below.drewN _ _ _)⟩
    · go_wp2_with fail;go_ret;refine ⟨ret_bool ?_,HB.out⟩;rw [HS.out,List.drop_eq_nil_of_le (by omega),List.drop_eq_nil_of_le (by rw [HE.out]; omega)]
      rfl
theorem eqP_any (x y:Value) (l m:List Nd) (w:World) (hx:Nds w x l) (hy:Nds w y m) (hl:l.length≤1000000) :
    Calls Tryz.prog 201 #[x,y] w fun e w'=>e=.returned (.bool (sameN l m))∧Below w.heap.size w w':=by
  by_cases he:l.length=m.length
  · rcases hx.form with ⟨rfl,a,cap,rfl⟩ | ⟨b,off,cap,rfl,_,hc⟩
    · obtain rfl:m=[]:=List.eq_nil_of_length_eq_zero he.symm;obtain ⟨_,a',cap',rfl,_⟩:=hy;exact y7b a a' cap cap' w
    · rcases hy.form with ⟨rfl,a',cap',rfl⟩ | ⟨b',off',cap',rfl,_,hc'⟩
      · obtain rfl:l=[]:=List.eq_nil_of_length_eq_zero he;exact y7b _ a' cap cap' w
      · rw [← he];exact v3h b off cap b' off' cap' l m w hl he.symm hc hc'
  · rw [y5u he];obtain ⟨_,a,cap,rfl,_⟩:=hx;obtain ⟨_,a',cap',rfl,_⟩:=hy;exact v3g a a' cap cap' l.length m.length w he
theorem x8j (x y:Value) (l m:List Nd) (w:World) (hx:Nds w x l) (hy:Nds w y m) (hl:l.length≤1000000) :
    Calls Tryz.prog 138 #[x,y] w fun e w'=>e=.returned (.bool (sameN l m))∧Below w.heap.size w w':=by
  have HX:=Lib.hid hx;have HY:=Lib.hid hy;obtain ⟨q,hq⟩:∃ q,sameN l m=q:=⟨_,rfl⟩
  rw [hq];have HQ:=Lib.hid hq;clear hx hy hq
  go_enter Tryz.func138,Tryz.ntmps138
  go_wp2_with fail;refine (eqP_any x y l m _ HX.out HY.out hl).mono ?_;rw [HQ.out];rintro e w' ⟨rfl,hb⟩;have HB:=Lib.hid hb;clear hb;go_wp2_with fail;go_ret;exact ⟨rfl,HB.out⟩
end Rx
namespace So
open Go Go.RowKit Rw
def Tre (l:List Nd):Prop:=∃ d,T l=some (l.length,d)
theorem Tre.pos {l:List Nd} (h:Tre l):0<l.length:=by
  obtain ⟨d,h⟩:=h;exact (T_bd h).1
theorem Tre.size {l:List Nd} (h:Tre l):Rw.size l=l.length:=by
  obtain ⟨d,h⟩:=h;unfold Rw.size;rw [h]
theorem Tre.of_size {l:List Nd} (h:Rw.size l=l.length) (h0:l≠[]):Tre l:=by
  unfold Rw.size at h
  cases ht:T l with
  | none=>
    rw [ht] at h;exact absurd (List.eq_nil_of_length_eq_zero h.symm) h0
  | some x=>
    rw [ht] at h;obtain ⟨c,d⟩:=x;simp only at h;exact ⟨d,by rw [ht,h]⟩
theorem Tre.of_head {l:List Nd} {c d:Nat} (h:T l=some (c,d)):Tre (l.take c):=by
  have hh:=T_head h;have hb:=T_bd h;exact ⟨d,by rw [hh,List.length_take,Nat.min_eq_left hb.2.1]⟩
theorem y6h:∀ (j:Nat) (r:List Nd) (c d:Nat),S j r=some (c,d)→∀ t∈kidsN j r,Tre t
  | 0,_,_,_,_,t,ht=>by cases ht
  | j+1,r,c,d,h,t,ht=>by
    rw [z2l] at h
    cases hj:S j r with
    | none=>rw [hj] at h; cases h
    | some x=>
      obtain ⟨c1,d1⟩:=x;rw [hj] at h;simp only at h
      cases hx:T (r.drop c1) with
      | none=>rw [hx] at h; cases h
      | some y=>
        obtain ⟨c2,d2⟩:=y;rw [kidsN,hj,List.mem_append,List.mem_singleton] at ht
        rcases ht with ht | ht
        · exact y6h j r c1 d1 hj t ht
        · rw [ht];simp only [Option.getD_some];have hs:Rw.size (r.drop c1)=c2:=by unfold Rw.size; rw [hx]
          rw [hs];exact Tre.of_head hx
theorem Tre.ar {l:List Nd} (h:Tre l):0≤Rw.ar (hd l):=by
  obtain ⟨d,h⟩:=h
  cases l with
  | nil=>rw [z7m] at h; cases h
  | cons n r=>
    rw [z2j] at h
    split at h
    · cases h
    · rename_i hk
      show 0≤Rw.ar n.k
      omega
theorem Tre.kids {l:List Nd} (h:Tre l):(Rw.kids l).length=(Rw.ar (hd l)).toNat∧∀ t∈Rw.kids l,Tre t:=by
  have hs:Rw.size l≠0:=by rw [h.size]; have:=h.pos; omega
  have ha:=h.ar;obtain ⟨d,h⟩:=h
  cases l with
  | nil=>rw [z7m] at h; cases h
  | cons n r=>
    unfold Rw.kids;rw [if_neg hs];refine ⟨z6g _ _,?_⟩;rw [z2j] at h
    split at h
    · cases h
    · cases hj:S (Rw.ar n.k).toNat r with
      | none=>rw [hj] at h; cases h
      | some x=>exact y6h _ r x.1 x.2 hj
theorem Tre.two {l:List Nd} (h:Tre l) (h2:Rw.ar (hd l)=2):∃ a b,Rw.kids l=[a,b]∧Tre a∧Tre b∧a.length<l.length∧b.length<l.length:=by
  obtain ⟨hl,ht⟩:=h.kids;rw [h2] at hl
  match hk:Rw.kids l,hl with
  | [a,b],_=>
    have ha:a∈Rw.kids l:=by rw [hk]; simp
    have hb:b∈Rw.kids l:=by rw [hk]; simp
    exact ⟨a,b,rfl,ht a ha,ht b hb,z5b ha,z5b hb⟩
theorem Tre.one {l:List Nd} (h:Tre l) (h1:Rw.ar (hd l)=1):∃ a,Rw.kids l=[a]∧Tre a∧a.length<l.length:=by
  obtain ⟨hl,ht⟩:=h.kids;rw [h1] at hl
  match hk:Rw.kids l,hl with
  | [a],_=>
    have ha:a∈Rw.kids l:=by rw [hk]; simp
    exact ⟨a,rfl,ht a ha,z5b ha⟩
theorem z0c {w:World} {v:Value} {l:List Nd} (hv:Nds w v l) (h:Tre l):∃ b o c,v=.slice (some ⟨b,o,none⟩) l.length c∧w.cell? ⟨b,o,none⟩=some (.int .i64 (hd l)):=by
  rcases hv.form with ⟨rfl,_⟩ | ⟨b,o,c,rfl,_,hat⟩
  · exact absurd h.pos (Nat.lt_irrefl 0)
  · refine ⟨b,o,c,rfl,?_⟩;have:=(hat 0 h.pos).1;rw [Nat.zero_mul,Nat.add_zero] at this;rw [this]
    cases l with
    | nil=>exact absurd h.pos (Nat.lt_irrefl 0)
    | cons n r=>rfl
theorem z0q {w:World} {y:Value} {r s:List Nd} (h:Rws w y [r,s]) :
    ∃ b o c a0 a1,y=.slice (some ⟨b,o,none⟩) 2 c∧w.cell? ⟨b,o,none⟩=some a0∧w.cell? ⟨b,o+1,none⟩=some a1∧Nds w a0 r∧Nds w a1 s:=by
  obtain ⟨cs,⟨_,a,c,rfl,_,_,hcell⟩,hr⟩:=h;obtain ⟨b,o,rfl,hj⟩:=hcell (by simp)
  match cs,hr with
  | [a0,a1],hr=>exact ⟨b,o,c,a0,a1,rfl,hj 0 _ rfl,hj 1 _ rfl,hr.1,hr.2.1⟩
theorem z9o {w:World} {y:Value} {r:List Nd} (h:Rws w y [r]) :
    ∃ b o c a0,y=.slice (some ⟨b,o,none⟩) 1 c∧w.cell? ⟨b,o,none⟩=some a0∧Nds w a0 r:=by
  obtain ⟨cs,⟨_,a,c,rfl,_,_,hcell⟩,hr⟩:=h;obtain ⟨b,o,rfl,hj⟩:=hcell (by simp)
  match cs,hr with
  | [a0],hr=>exact ⟨b,o,c,a0,rfl,hj 0 _ rfl,hr.1⟩
theorem kinds {k:Int} (h:0≤Rw.ar k):k=1∨k=2∨k=3∨k=4∨k=5∨k=6∨k=7∨k=8∨k=9∨k=10∨k=11∨k=12∨k=13∨k=14:=by
  rcases y4p k with h1 | h1 | h1 | h1 | h1 | h1 | h1 | h1 | h1 | h1 | h1 | h1 | h1 | h1 | h1
  case inr.inr.inr.inr.inr.inr.inr.inr.inr.inr.inr.inr.inr.inr=>rw [ar_no h1] at h; exact absurd h (by decide)
  all_goals omega
def IsC (n:Nat):Prop:=∀ (r:List Nd) (s:Nat) (w:World) (v:Value),r.length<n→Tre r→Nds w v r→1≤s→s≤4→Calls Tryz.prog 184 #[v,.int .i64 s] w fun e w'=>e=.returned (.bool (Is s r))∧Below w.heap.size w w'
end So
namespace Tr
open Go Go.RowKit
theorem Trs.val {w:World} {v:Value} {ts:List Tr} (h:Trs w v ts):∃ a cap,v=.slice a ts.length cap∧ts.length≤cap∧
    ∀ k,(hk:k<ts.length)→∃ b off x,a=some ⟨b,off,none⟩∧w.cell? ⟨b,off+2*k,none⟩=some x∧w.cell? ⟨b,off+2*k+1,none⟩=some (.int .i64 ts[k].e)∧Strs w x ts[k].a:=by
  obtain ⟨cs,⟨_,a,cap,rfl,hcap,_,hcell⟩,hc⟩:=h;refine ⟨a,cap,rfl,hcap,fun k hk=>?_⟩;obtain ⟨b,off,rfl,hj⟩:=hcell (by omega);obtain ⟨x,h1,h2,h3⟩:=hc.at k hk;exact ⟨b,off,x,rfl,hj _ _ h1,by rw [Nat.add_assoc]; exact hj _ _ h2,h3⟩
theorem Strs.one {w:World} {v:Value} {l:List ByteArray} (h:Strs w v l):v.oneCell'=true:=by
  obtain ⟨_,a,cap,rfl,_⟩:=h
  rfl
def ShapeT (x:Value × Value):Prop:=∃ a n c z,x=(.slice a n c,.int .i64 z)
theorem y5b (k j:Nat) (h1:k-1=j) (h0:1≤k) (h2:k≤1000000000000):IntKind.i64.wrap ((k:Int)-1)=(j:Int):=by
  rw [IntKind.wrap_i64];omega
theorem zc_mem {z:Array Value} {n:Nat} {v:Value} (h:v∈(Builtin.zeroCells z n).toList):∃ i,i<n*z.size∧z[i % z.size]! = v:=by
  simp only [Builtin.zeroCells,Array.toList_map,List.mem_map,Array.mem_toList_iff,Array.mem_range] at h;exact h
theorem x4o {P:Program} (w:World) (t e ty:TypeId) (z:Value) (ht:P.underlying t=some (.slice e)) (hv:∀ w,(zeroValue e).run P w=.ok z w) (b o n c:Nat) (hn:0<n)
    (hl:(Builtin.zeroCells z.cells n).toList.length=n*2) (h1:∀ v∈(Builtin.zeroCells z.cells n).toList,v.oneCell'=true)
    (hc:∀ j,j<n*2→(w.cell? ⟨b,o+j,none⟩).isSome=true) (hf:∀ j,j<n*2→w.frozen? ⟨b,o+j,none⟩=false) :
    (Builtin.clear_ #[t] ty #[.slice (some ⟨b,o,none⟩) n c]).run P w=.ok (.tuple #[]) (w.setCells b o (Builtin.zeroCells z.cells n).toList):=by
  have hst:=run_storeCells_cells (P:=P) b o (Builtin.zeroCells z.cells n).toList 0 w (by rw [hl]; simpa using hc) (by rw [hl]; simpa using hf) h1;simp only [Nat.add_zero] at hst;obtain ⟨m,rfl⟩:∃ m,n=m+1:=⟨n-1,by omega⟩
  simp [Builtin.clear_,run_underlying ht,hv,hst]
theorem zsT (n:Nat):(Builtin.zeroCells #[.slice none 0 0,.int .i64 0] n).toList.length=n*2∧∀ v∈(Builtin.zeroCells #[.slice none 0 0,.int .i64 0] n).toList,v.oneCell'=true:=by
  refine ⟨by simp [Builtin.zeroCells],fun v hv=>?_⟩;obtain ⟨i,_,rfl⟩:=zc_mem hv
  rcases Nat.mod_two_eq_zero_or_one i with h | h
  · show ((#[.slice none 0 0,.int .i64 0]:Array Value)[i % 2]!).oneCell'=true
    rw [h]; rfl
  · show ((#[.slice none 0 0,.int .i64 0]:Array Value)[i % 2]!).oneCell'=true
    rw [h]; rfl
theorem compactT (g cap:Nat) (q:Value × Value→Value × Value→Bool) (xs:List (Value × Value)) (w:World) (h:Own2 w g 33 cap xs) (hlen:xs.length≤1000000000000) (hsh:∀ x∈xs,ShapeT x)
    (hq:∀ W,w.grownBy W (some g)→∀ x∈xs,∀ y∈xs,Calls Tryz.prog 143 #[.agg #[x.1,x.2],.agg #[y.1,y.2]] W fun e w'=>e=.returned (.bool (q x y))∧Below W.heap.size W w') :
    Calls Tryz.prog 142 #[.slice (some ⟨g,0,none⟩) xs.length cap,.func (.func 143) #[] #[]] w fun e w'=>e=.returned (.slice (some ⟨g,0,none⟩) (cpt q xs).length cap)∧Own2 w' g 33 cap (cpt q xs)∧w.grownBy w' (some g):=by
  have hcap:=h.len;have H:=Lib.hid h;have HS:=Lib.hid hsh;have HQ:=Lib.hid hq;clear h hsh hq
  by_cases h2:xs.length<2
  · have HX:Hid (cpt q xs=xs):=by
      match xs,h2 with
      | [],_=>exact rfl
      | [x],_=>exact rfl
    go_enter Tryz.func142,Tryz.ntmps142
    go_wp2_with fail;go_ret;rw [HX.out];exact ⟨rfl,H.out,y9y _ _⟩
  · go_enter Tryz.func142,Tryz.ntmps142
    go_wp2_with fail
    go_loopw [5] (fun kv wr=>∃ k:Nat,1≤k∧k≤xs.length∧kv=.int .i64 (k:Int)∧Own2 wr g 33 cap xs∧w.grownBy wr (some g)∧cpt q (xs.take k)=xs.take k) (fun kv _=>xs.length-(intOf kv).toNat)
    case atStart=>
      refine ⟨1,Nat.le_refl _,by omega,rfl,H.out,y9y _ _,?_⟩
      match xs,h2 with
      | x::xs,_=>simp [cpt,cptF]
    case round=>
      obtain ⟨k,hk1,hk,rfl,ho,hg,hcp⟩:=hrel;have HO:=Lib.hid ho;have HG:=Lib.hid hg;have HCP:=Lib.hid hcp;clear ho hg hcp
      by_cases hlt:k<xs.length
      · have c0:=HO.out.cell0 k hlt;have c1:=HO.out.cell1 k hlt;have d0:=HO.out.cell0 (k-1) (by omega);have d1:=HO.out.cell1 (k-1) (by omega);have M1:=Lib.hid (List.getElem_mem hlt);have M0:=Lib.hid (List.getElem_mem (show k-1<xs.length by omega));have SN:=Lib.hid (cpt_at q xs k hk1 hlt);have TK:=Lib.hid (List.take_succ_eq_append_getElem hlt);obtain ⟨x,hx⟩:∃ x,xs[k]=x:=⟨_,rfl⟩
        obtain ⟨y,hy⟩:∃ y,xs[k-1]'(by omega)=y:=⟨_,rfl⟩
        rw [hx] at c0 c1 M1 SN TK;rw [hy] at d0 d1 M0 SN;clear hx hy;obtain ⟨j,hjk⟩:∃ j,k-1=j:=⟨_,rfl⟩
        have HW1:=Lib.hid (y5b k j hjk hk1 (by omega));have hjlt:j<xs.length:=by omega
        rw [hjk] at d0 d1;have HJK:=Lib.hid hjk;clear hjk;have QC:=Lib.hid (fun W hW=>HQ.out W hW x M1.out y M0.out)
        cases hxy:q x y with
        | false=>
          rw [hxy] at QC SN;obtain ⟨x1,x2⟩:=x;obtain ⟨y1,y2⟩:=y;go_wp2_with fail
          go_still_tail 10,(by kernel_rfl)
          simp only [HW1.out]
          repeat still_step
          refine wpStill_nil ?_;change wpList _ _ _ _ _ wr.drew;go_wp2_with fail;refine (QC.out _ (z0o HG.out (z4q _ _))).mono ?_;rintro e w1 ⟨rfl,hb1⟩;have G1:=Lib.hid (z0o (z0o HG.out (z4q _ _)) (z3f hb1));have O1:=Lib.hid (HO.out.below ((Below.refl _ _).drew.trans hb1));clear hb1;go_wp2_with fail
          go_roundw
          case rel=>exact ⟨k+1,by omega,by omega,by go_num,O1.out,G1.out,by rw [SN.out,HCP.out,TK.out]; rfl⟩
          case measure=>simp [intOf]; omega
        | true=>
          rw [hxy] at QC SN;obtain ⟨x1,x2⟩:=x;obtain ⟨y1,y2⟩:=y;go_wp2_with fail
          go_still_tail 10,(by kernel_rfl)
          simp only [HW1.out]
          repeat still_step
          refine wpStill_nil ?_;change wpList _ _ _ _ _ wr.drew;go_wp2_with fail;refine (QC.out _ (z0o HG.out (z4q _ _))).mono ?_;rintro e w1 ⟨rfl,hb1⟩;have G1:=Lib.hid (z0o (z0o HG.out (z4q _ _)) (z3f hb1));have O1:=Lib.hid (HO.out.below ((Below.refl _ _).drew.trans hb1));clear hb1 c0 c1 d0 d1;go_wp2_with fail
          go_loopw [5,7] (fun kv k2v wr=>∃ kk k2:Nat,kv=.int .i64 (kk:Int)∧k2v=.int .i64 (k2:Int)∧1≤k2∧k+k2≤xs.length∧kk=(cpt q (xs.take (k+k2))).length∧kk<k+k2∧Own2 wr g 33 cap (cpt q (xs.take (k+k2))++xs.drop kk)∧w.grownBy wr (some g)) (fun _ k2v _=>xs.length-(k+(intOf k2v).toNat))
          case atStart=>
            have e0:cpt q (xs.take (k+1))=xs.take k:=by rw [SN.out,HCP.out]; simp
            refine ⟨k,1,rfl,rfl,Nat.le_refl _,by omega,by rw [e0,List.length_take]; omega,by omega,?_,G1.out⟩;rw [e0,List.take_append_drop];exact O1.out
          case round=>
            obtain ⟨kk,k2,rfl,rfl,hk2,hle,hkk,hkl,ho2,hg2⟩:=hrel;have HKK:=Lib.hid hkk;have HO2:=Lib.hid ho2;have HG2:=Lib.hid hg2;clear hkk ho2 hg2
            by_cases hlt2:k+k2<xs.length
            · have ey:∀ m (hm:m<xs.length) (hk:kk≤m),∃ hm':m<(cpt q (xs.take (k+k2))++xs.drop kk).length,(cpt q (xs.take (k+k2))++xs.drop kk)[m]=xs[m]:=fun m hm hk=>by
                refine ⟨by simp [← HKK.out]; omega,?_⟩;rw [List.getElem_append_right (by rw [← HKK.out]; exact hk)];simp [← HKK.out,Nat.add_sub_cancel' hk]
              obtain ⟨hA,eA⟩:=ey (k+k2) hlt2 (by omega);obtain ⟨hB,eB⟩:=ey (k+k2-1) (by omega) (by omega);have c0:=HO2.out.cell0 _ hA;have c1:=HO2.out.cell1 _ hA;have d0:=HO2.out.cell0 _ hB;have d1:=HO2.out.cell1 _ hB;rw [eA] at c0 c1;rw [eB] at d0 d1;have M1':=Lib.hid (List.getElem_mem hlt2);have M0':=Lib.hid (List.getElem_mem (show k+k2-1<xs.length by omega));have SN':=Lib.hid (cpt_at q xs (k+k2) (by omega) hlt2);have DK:=Lib.hid (List.drop_eq_getElem_cons (show kk<xs.length by omega));obtain ⟨u,hu⟩:∃ u,xs[k+k2]=u:=⟨_,rfl⟩
              obtain ⟨v,hv⟩:∃ v,xs[k+k2-1]'(by omega)=v:=⟨_,rfl⟩
              rw [hu] at c0 c1 M1' SN';rw [hv] at d0 d1 M0' SN';clear hu hv eA eB ey;have f0:=HO2.out.soft (kk*2);have f1:=HO2.out.soft (kk*2+1);have t0:=HO2.out.there (kk*2) (by omega);have t1:=HO2.out.there (kk*2+1) (by omega);obtain ⟨o0,t0⟩:=Option.isSome_iff_exists.1 t0;obtain ⟨o1,t1⟩:=Option.isSome_iff_exists.1 t1;rw [show (k+k2)*2=k*2+k2*2 by omega] at c0 c1;rw [show (k+k2-1)*2=k*2+(k2-1)*2 by omega] at d0 d1;obtain ⟨j2,hjk2⟩:∃ j2,k2-1=j2:=⟨_,rfl⟩
              have HW2:=Lib.hid (y5b k2 j2 hjk2 hk2 (by omega));have hjlt2:j2<xs.length-k:=by omega
              have hklt2:k2<xs.length-k:=by omega
              rw [hjk2] at d0 d1;have HJK2:=Lib.hid hjk2;clear hjk2;have QC2:=Lib.hid (fun W hW=>HQ.out W hW u M1'.out v M0'.out)
              cases huv:q u v with
              | true=>
                rw [huv] at QC2 SN';obtain ⟨u1,u2⟩:=u;obtain ⟨v1,v2⟩:=v;go_wp2_with fail
                go_still_tail 10,(by kernel_rfl)
                simp only [HW2.out]
                repeat still_step
                refine wpStill_nil ?_;change wpList _ _ _ _ _ wr.drew;go_wp2_with fail;refine (QC2.out _ (z0o HG2.out (z4q _ _))).mono ?_;rintro e w2 ⟨rfl,hb2⟩;have G2:=Lib.hid (z0o (z0o HG2.out (z4q _ _)) (z3f hb2));have O2:=Lib.hid (HO2.out.below ((Below.refl _ _).drew.trans hb2));clear hb2;go_wp2_with fail
                go_roundw
                case rel=>
                  have e1:cpt q (xs.take (k+(k2+1)))=cpt q (xs.take (k+k2)):=by
                    rw [show k+(k2+1)=k+k2+1 by omega];have:=SN'.out
                    simpa using this
                  refine ⟨kk,k2+1,rfl,by go_num,by omega,by omega,by rw [e1]; exact HKK.out,by omega,?_,G2.out⟩;rw [e1];exact O2.out
                case measure=>simp [intOf]; omega
              | false=>
                rw [huv] at QC2 SN';obtain ⟨a',n',c',z',rfl⟩:=HS.out u M1'.out;obtain ⟨v1,v2⟩:=v;go_wp2_with fail
                go_still_tail 10,(by kernel_rfl)
                simp only [HW2.out]
                repeat still_step
                refine wpStill_nil ?_;change wpList _ _ _ _ _ wr.drew;go_wp2_with fail;refine (QC2.out _ (z0o HG2.out (z4q _ _))).mono ?_;rintro e w2 ⟨rfl,hb2⟩;have hD:Below wr.heap.size wr w2:=(Below.refl _ _).drew.trans hb2;have G2:=Lib.hid (z0o (z0o HG2.out (z4q _ _)) (z3f hb2));have O2:=Lib.hid (HO2.out.below hD);have hgl:=HO2.out.lt;rw [← hD.cell (p:=⟨g,k*2+k2*2,none⟩) hgl] at c0;rw [← hD.cell (p:=⟨g,k*2+k2*2+1,none⟩) hgl] at c1;rw [← hD.cell (p:=⟨g,kk*2,none⟩) hgl] at t0;rw [← hD.cell (p:=⟨g,kk*2+1,none⟩) hgl] at t1;rw [← hD.frozen (p:=⟨g,kk*2,none⟩) hgl] at f0;rw [← hD.frozen (p:=⟨g,kk*2+1,none⟩) hgl] at f1;clear hb2 hD d0 d1;go_wp2_with fail
                go_roundw
                case rel=>
                  have e1:cpt q (xs.take (k+(k2+1)))=cpt q (xs.take (k+k2))++[(.slice a' n' c',.int .i64 z')]:=by
                    rw [show k+(k2+1)=k+k2+1 by omega];have:=SN'.out
                    simpa using this
                  refine ⟨kk+1,k2+1,by go_num,by go_num,by omega,by omega,by rw [e1,List.length_append,← HKK.out]; rfl,by omega,?_,z0o G2.out (z0o (z1h _ _ _ _) (z1h _ _ _ _))⟩;have:=O2.out.store kk (by simp [← HKK.out]; omega) (.slice a' n' c') (.int .i64 z');rw [DK.out] at this;rw [e1];have e3:=set_mid (cpt q (xs.take (k+k2))) (xs.drop (kk+1)) (xs[kk]'(by omega)) (.slice a' n' c',.int .i64 z');rw [← HKK.out] at e3;rw [e3] at this
                  simpa using this
                case measure=>simp [intOf]; omega
            · have hend:k+k2=xs.length:=by omega
              have hcl:∀ ty,(Builtin.clear_ #[43] ty #[.slice (some ⟨g,kk*2,none⟩) (xs.length-kk) (cap-kk)]).run Tryz.prog wr=.ok (.tuple #[]) (wr.setCells g (kk*2) (Builtin.zeroCells #[.slice none 0 0,.int .i64 0] (xs.length-kk)).toList):=
                fun ty=>x4o wr _ _ ty (.agg #[.slice none 0 0,.int .i64 0]) Tryz.underlying43 Tryz.zeroValue33 g (kk*2) _ _ (by omega) (zsT _).1 (zsT _).2 (fun j hj=>HO2.out.there _ (by omega)) (fun j hj=>HO2.out.soft _)
              have ET:Hid (cpt q (xs.take (k+k2))=cpt q xs):=by rw [hend,List.take_length]; exact rfl
              have KC:=HKK.out;rw [ET.out] at KC;have O3:=HO2.out.take kk;rw [ET.out,List.take_left' KC.symm] at O3;have HO3:=Lib.hid O3;have HKC:=Lib.hid KC;clear O3 KC;go_wp2_with fail;go_ret;refine ⟨by rw [← HKC.out]; go_num,HO3.out.setOut _ _ _ (by rw [← HKC.out]; exact Nat.le_refl _),z0o HG2.out (y0f _ _ _ _)⟩
      · have hend:k=xs.length:=by omega
        have HX:Hid (cpt q xs=xs):=by
          have:=HCP.out;rw [hend,List.take_length] at this;exact this
        go_wp2_with fail;go_ret;rw [HX.out];exact ⟨rfl,HO.out,HG.out⟩
end Tr
namespace Mn
open Go Go.RowKit Tr
def ShapeP (x:Qd):Prop:=∃ a n c z a' n' c' z',x.a=.slice a n c∧x.b=.int .i64 z∧x.c=.slice a' n' c'∧x.d=.int .i64 z'
end Mn
end Go.Proofs.YtpingbiibbmcaaaGreatDoor
