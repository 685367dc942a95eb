/- Laws that the last text leans on. -/
import Derived.Test.YtpingbiibbmcaaaGreatDoorQ01
import Derived.Test.YtpingbiibbmcaaaGreatDoorQ03
import Derived.WalkSpells
import Derived.WalkLawsBesides
import Derived.Lib.Hide
import Derived.Deep.QuietTactic
import Derived.BigQuiet
import Derived.LoopN
import Derived.Lib.SliceRun

set_option maxRecDepth 20000
set_option maxHeartbeats 4000000
namespace Go.Proofs.YtpingbiibbmcaaaGreatDoor
namespace Rw
open Go Go.RowKit
theorem ret_int {k:IntKind} {a b:Int} (h:a=b):Ending.returned (.int k a)=.returned (.int k b):=congrArg (fun z=>Ending.returned (.int k z)) h
theorem ret_bool {a b:Bool} (h:a=b):Ending.returned (.bool a)=.returned (.bool b):=by rw [h]
def cl (x:Nd):List Value:=[.int .i64 x.k,.string x.n,.int .i64 x.s]
def cls:List Nd→List Value
  | []=>[]
  | x::l=>cl x++cls l
theorem z2a:∀ l:List Nd,(cls l).length=l.length*3
  | []=>rfl
  | x::l=>by rw [cls,List.length_append,z2a l]; simp [cl]; omega
theorem z3r:∀ l m:List Nd,cls (l++m)=cls l++cls m
  | [],_=>rfl
  | x::l,m=>by rw [List.cons_append,cls,z3r l m,cls,List.append_assoc]
theorem x3j:∀ (l:List Nd) (k:Nat) (h:k<l.length),(cls l)[k*3]?=some (.int .i64 l[k].k)∧(cls l)[k*3+1]?=some (.string l[k].n)∧(cls l)[k*3+2]?=some (.int .i64 l[k].s)
  | [],k,h=>by simp at h
  | x::l,0,_=>⟨rfl,rfl,rfl⟩
  | x::l,k+1,h=>by
    have:=x3j l k (by simpa using h)
    simpa [cls,cl,show (k+1)*3=k*3+1+1+1 by omega] using this
def Nds (w:World) (v:Value) (l:List Nd):Prop:=Ap.Rd w 3 v l.length (cls l)
theorem Nds.below {w w':World} {v:Value} {l:List Nd} (h:Nds w v l) (hb:Below w.heap.size w w'):Nds w' v l:=Ap.Rd.below h hb
def At (w:World) (b off:Nat) (l:List Nd):Prop:=∀ k,(h:k<l.length)→w.cell? ⟨b,off+k*3,none⟩=some (.int .i64 l[k].k)∧w.cell? ⟨b,off+k*3+1,none⟩=some (.string l[k].n)∧w.cell? ⟨b,off+k*3+2,none⟩=some (.int .i64 l[k].s)
theorem Nds.form {w:World} {v:Value} {l:List Nd} (h:Nds w v l) :
    (l=[]∧∃ a cap,v=.slice a 0 cap)∨∃ b off cap,v=.slice (some ⟨b,off,none⟩) l.length cap∧l.length≤cap∧At w b off l:=by
  obtain ⟨_,a,cap,rfl,hle,_,hcell⟩:=h
  by_cases h0:0<l.length
  · obtain ⟨b,off,rfl,hj⟩:=hcell h0;refine Or.inr ⟨b,off,cap,rfl,hle,fun k hk=>?_⟩;obtain ⟨h1,h2,h3⟩:=x3j l k hk;exact ⟨hj _ _ h1,by rw [Nat.add_assoc]; exact hj _ _ h2,by rw [Nat.add_assoc]; exact hj _ _ h3⟩
  · have:l=[]:=List.eq_nil_of_length_eq_zero (by omega);subst this;exact Or.inl ⟨rfl,a,cap,rfl⟩
theorem y4p (k:Int):k=1∨k=2∨k=3∨k=4∨k=5∨k=6∨k=7∨k=8∨k=9∨k=10∨k=11∨k=12∨k=13∨k=14∨(k≠1∧k≠2∧k≠3∧k≠4∧k≠5∧k≠6∧k≠7∧k≠8∧k≠9∧k≠10∧k≠11∧k≠12∧k≠13∧k≠14):=by omega
theorem ar_no {k:Int} (h:k≠1∧k≠2∧k≠3∧k≠4∧k≠5∧k≠6∧k≠7∧k≠8∧k≠9∧k≠10∧k≠11∧k≠12∧k≠13∧k≠14):ar k=-1:=by
  unfold ar;rw [if_neg (by omega),if_neg (by omega),if_neg (by omega)]
theorem z1q (k:Int) (w:World):Calls Tryz.prog 122 #[.int .i64 k] w fun e w'=>e=.returned (.int .i64 (ar k))∧w=w':=by
  rcases y4p k with rfl | rfl | rfl | rfl | rfl | rfl | rfl | rfl | rfl | rfl | rfl | rfl | rfl | rfl | h
  case inr.inr.inr.inr.inr.inr.inr.inr.inr.inr.inr.inr.inr.inr=>
    have hr:=Lib.hid (ar_no h);obtain ⟨h1,h2,h3,h4,h5,h6,h7,h8,h9,h10,h11,h12,h13,h14⟩:=h;have b1:(k==1)=false:=by simp [h1]
    have b2:(k==2)=false:=by simp [h2]
    have b3:(k==3)=false:=by simp [h3]
    have b4:(k==4)=false:=by simp [h4]
    have b5:(k==5)=false:=by simp [h5]
    have b6:(k==6)=false:=by simp [h6]
    have b7:(k==7)=false:=by simp [h7]
    have b8:(k==8)=false:=by simp [h8]
    have b9:(k==9)=false:=by simp [h9]
    have b10:(k==10)=false:=by simp [h10]
    have b11:(k==11)=false:=by simp [h11]
    have b12:(k==12)=false:=by simp [h12]
    have b13:(k==13)=false:=by simp [h13]
    have b14:(k==14)=false:=by simp [h14]
    clear h1 h2 h3 h4 h5 h6 h7 h8 h9 h10 h11 h12 h13 h14
    go_enter Tryz.func122,Tryz.ntmps122
    go_wp2_with fail;go_ret;exact ⟨ret_int hr.out.symm,rfl⟩
  all_goals
    go_enter Tryz.func122,Tryz.ntmps122
    go_wp2_with fail;go_ret;exact ⟨rfl,rfl⟩
def nx (i:Nat):Option (Nat × Nat)→Int
  | none=>-1
  | some (c,_)=>i+c
def dp:Option (Nat × Nat)→Int
  | none=>0
  | some (_,d)=>d
def WalkPost (i:Nat) (r:Option (Nat × Nat)) (w:World) (e:Ending) (w':World):Prop:=e=.returned (.tuple #[.int .i64 (nx i r),.int .i64 (dp r)])∧w=w'
theorem T_at {l:List Nd} {i:Nat} (h:i<l.length) (hk:¬ ar l[i].k<0):T (l.drop i)=match S (ar l[i].k).toNat (l.drop (i+1)) with
    | none=>none
    | some (c,d)=>some (c+1,d+1):=by
  rw [List.drop_eq_getElem_cons h,z2j,if_neg hk]
  rfl
theorem T_no {l:List Nd} {i:Nat} (h:i<l.length) (hk:ar l[i].k<0):T (l.drop i)=none:=by
  rw [List.drop_eq_getElem_cons h,z2j,if_pos hk]
def Far (l:List Nd) (i k p d:Nat):Prop:=∃ c,S k (l.drop (i+1))=some (c,d)∧p=i+1+c
theorem Far.start (l:List Nd) (i:Nat):Far l i 0 (i+1) 0:=⟨0,z2z _,rfl⟩
theorem Far.le {l:List Nd} {i k p d:Nat} (h:Far l i k p d) (hi:i<l.length):p≤l.length∧i<p∧d≤l.length:=by
  obtain ⟨c,hs,rfl⟩:=h;have:=S_bd hs;rw [List.length_drop] at this;omega
theorem Far.stop {l:List Nd} {i k p d:Nat} (h:Far l i k p d) (ht:T (l.drop p)=none):S (k+1) (l.drop (i+1))=none:=by
  obtain ⟨c,hs,rfl⟩:=h;rw [z2l,hs];simp only [List.drop_drop];rw [ht]
theorem Far.next {l:List Nd} {i k p d c' d':Nat} (h:Far l i k p d) (ht:T (l.drop p)=some (c',d')):Far l i (k+1) (p+c') (max d d'):=by
  obtain ⟨c,hs,rfl⟩:=h;refine ⟨c+c',?_,by omega⟩;rw [z2l,hs];simp only [List.drop_drop];rw [ht]
theorem Far.done {l:List Nd} {i k p d:Nat} (h:Far l i k p d) (hi:i<l.length) (hk:¬ ar l[i].k<0) (hx:k=(ar l[i].k).toNat):nx i (T (l.drop i))=p∧dp (T (l.drop i))=d+1:=by
  obtain ⟨c,hs,rfl⟩:=h;rw [T_at hi hk,← hx,hs];simp only [nx,dp];omega
theorem y5d {l:List Nd} {i k:Nat} (h:i<l.length) (hk:¬ ar l[i].k<0) (hlt:(k:Int)<ar l[i].k) (hs:S (k+1) (l.drop (i+1))=none):T (l.drop i)=none:=by
  have:=S_none hs ((ar l[i].k).toNat-(k+1));rw [show k+1+((ar l[i].k).toNat-(k+1))=(ar l[i].k).toNat by omega] at this;rw [T_at h hk,this]
theorem y2i (a:Option Addr) (n cap i:Nat) (w:World) (h:n≤i) :
    Calls Tryz.prog 69 #[.slice a n cap,.int .i64 i] w (WalkPost i none w):=by
  have g0:decide ((i:Int)≥(n:Int))=true:=by simp; omega
  have g1:decide ((n:Int)≤(i:Int))=true:=by simp; omega
  go_enter Tryz.func69,Tryz.ntmps69
  go_wp2_with fail;go_ret2;exact ⟨rfl,rfl⟩
theorem x3x (b off cap:Nat) (l:List Nd) (hl:l.length≤1000000):∀ (m i:Nat) (w:World),l.length-i≤m→i≤l.length→At w b off l→
    Calls Tryz.prog 69 #[.slice (some ⟨b,off,none⟩) l.length cap,.int .i64 i] w (WalkPost i (T (l.drop i)) w):=by
  intro m
  induction m with
  | zero=>
    intro i w hm hi _;rw [List.drop_eq_nil_of_le (by omega),z7m];exact y2i _ _ _ _ _ (by omega)
  | succ m ih=>
    intro i w hm hi hat
    by_cases hlt:i<l.length
    case neg=>
      rw [List.drop_eq_nil_of_le (by omega),z7m];exact y2i _ _ _ _ _ (by omega)
    have IH:=Lib.hid ih;have HA:=Lib.hid hat;have hc:=(hat i hlt).1;clear ih hat;have g1:decide (l.length≤i)=false:=by simp; omega
    by_cases hk:ar l[i].k<0
    · have HT:=Lib.hid (T_no hlt hk);have hbd:=x1b l[i].k;obtain ⟨kk,hkk⟩:∃ kk,l[i].k=kk:=⟨_,rfl⟩
      rw [hkk] at hc hk hbd;obtain ⟨x,hx⟩:∃ x,ar kk=x:=⟨_,rfl⟩
      rw [hx] at hk hbd;have HX:=Lib.hid hx;clear hkk hx
      go_enter Tryz.func69,Tryz.ntmps69
      go_wp2_with fail;refine (z1q _ _).mono ?_;rw [HX.out];rintro e w' ⟨rfl,rfl⟩;go_wp2_with fail;go_ret2;rw [HT.out];exact ⟨rfl,rfl⟩
    · have HT:=Lib.hid (T_at hlt hk);have HN:=Lib.hid (fun k=>y5d (k:=k) hlt hk);have HK:=Lib.hid hk;have hbd:=x1b l[i].k;obtain ⟨kk,hkk⟩:∃ kk,l[i].k=kk:=⟨_,rfl⟩
      rw [hkk] at hc hk hbd HT HN;obtain ⟨x,hx⟩:∃ x,ar kk=x:=⟨_,rfl⟩
      rw [hx] at hk hbd HT HN;have HX:=Lib.hid hx;have HKK:Hid (ar l[i].k=x):=by rw [hkk]; exact hx
      have g2:decide (x<0)=false:=by simpa using hk
      clear hkk hx
      go_enter Tryz.func69,Tryz.ntmps69
      go_wp2_with fail;refine (z1q _ _).mono ?_;rw [HX.out];rintro e w' ⟨rfl,rfl⟩;go_wp2_with fail
      go_loop [6,7,8] (fun n d k=>∃ (kk p dd:Nat),(kk:Int)≤x∧p≤l.length∧dd≤l.length∧i<p∧Hid (Far l i kk p dd)∧n=.int .i64 p∧d=.int .i64 dd∧k=.int .i64 kk) (fun _ _ k=>(x-intOf k).toNat)
      case atStart=>exact ⟨0,i+1,0,by omega,by omega,by omega,by omega,Lib.hid (Far.start l i),by go_num,rfl,rfl⟩
      case round=>
        obtain ⟨k,p,d,hkx,hp,hd,hip,HF,rfl,rfl,rfl⟩:=hrel
        by_cases hkl:(k:Int)<x
        · cases ht:T (l.drop p) with
          | none=>
            have HZ:=Lib.hid (HN.out k hkl (HF.out.stop ht));have HT':=Lib.hid ht;clear ht;go_wp2_with fail;refine (z1q _ _).mono ?_;rw [HX.out];rintro e w' ⟨rfl,rfl⟩;go_wp2_with fail;refine (IH.out p _ (by omega) hp HA.out).mono ?_;rw [HT'.out];rintro e w' ⟨rfl,rfl⟩;go_wp2_with fail;go_ret2;rw [HZ.out];exact ⟨rfl,rfl⟩
          | some y=>
            obtain ⟨c',d'⟩:=y;have HF':=Lib.hid (HF.out.next ht);have hq':=HF'.out.le hlt;have HT':=Lib.hid ht;have hb':=T_bd ht;rw [List.length_drop] at hb';clear ht;obtain ⟨q,hq⟩:∃ q,p+c'=q:=⟨_,rfl⟩
            have hnx:nx p (some (c',d'))=(q:Int):=by simp only [nx]; omega
            have hdp:dp (some (c',d'))=(d':Int):=rfl
            have HQ:Hid (WalkPost p (some (c',d'))=fun w e w'=>e=.returned (.tuple #[.int .i64 (q:Int),.int .i64 (d':Int)])∧w=w'):=by
              funext w e w'
              unfold WalkPost;rw [hnx,hdp]
            rw [hq] at HF' hq';clear hnx hdp;have g2:decide ((q:Int)<0)=false:=by simp
            by_cases hdd:d<d'
            · have hmx:max d d'=d':=Nat.max_eq_right (by omega);rw [hmx] at HF' hq';clear hmx hq;go_wp2_with fail;refine (z1q _ _).mono ?_;rw [HX.out];rintro e w' ⟨rfl,rfl⟩;go_wp2_with fail;refine (IH.out p _ (by omega) hp HA.out).mono ?_;rw [HT'.out,HQ.out];rintro e w' ⟨rfl,rfl⟩;go_wp2_with fail
              go_round
              case rel=>exact ⟨k+1,q,d',by omega,by omega,by omega,by omega,HF',rfl,rfl,by go_num⟩
              case measure=>simp [intOf]; omega
            · have hmx:max d d'=d:=Nat.max_eq_left (by omega);rw [hmx] at HF' hq';clear hmx hq;go_wp2_with fail;refine (z1q _ _).mono ?_;rw [HX.out];rintro e w' ⟨rfl,rfl⟩;go_wp2_with fail;refine (IH.out p _ (by omega) hp HA.out).mono ?_;rw [HT'.out,HQ.out];rintro e w' ⟨rfl,rfl⟩;go_wp2_with fail
              go_round
              case rel=>exact ⟨k+1,q,d,by omega,by omega,by omega,by omega,HF',rfl,rfl,by go_num⟩
              case measure=>simp [intOf]; omega
        · have HD:=Lib.hid (HF.out.done hlt (by have:=HK.out; omega) (by rw [HKK.out]; omega));go_wp2_with fail;refine (z1q _ _).mono ?_;rw [HX.out];rintro e w' ⟨rfl,rfl⟩;go_wp2_with fail;go_ret2;exact ⟨by rw [HD.out.1,HD.out.2]; rfl,rfl⟩
theorem z7v (v:Value) (l:List Nd) (i:Nat) (w:World) (h:Nds w v l) (hl:l.length≤1000000) (hi:i≤l.length) :
    Calls Tryz.prog 69 #[v,.int .i64 i] w (WalkPost i (T (l.drop i)) w):=by
  rcases h.form with ⟨rfl,a,cap,rfl⟩ | ⟨b,off,cap,rfl,_,hat⟩
  · rw [List.drop_nil,z7m];exact y2i _ _ _ _ _ (Nat.zero_le _)
  · exact x3x b off cap l hl _ i w (Nat.le_refl _) hi hat
end Rw
namespace Sg
open Go Go.RowKit
def cells:Array Value:=#[.string ⟨#[]⟩,.string ⟨#[111,107]⟩,.string ⟨#[33]⟩,.string ⟨#[63]⟩]
def Tab (w:World):Prop:=∃ t fr,w.heap[0]?=some (.cells cells t fr)
theorem ret_int {k:IntKind} {a b:Int} (h:a=b):Ending.returned (.int k a)=.returned (.int k b):=congrArg (fun z=>Ending.returned (.int k z)) h
theorem ret_bool {a b:Bool} (h:a=b):Ending.returned (.bool a)=.returned (.bool b):=by rw [h]
theorem ret_str {a b:ByteArray} (h:a=b):Ending.returned (.string a)=.returned (.string b):=by rw [h]
theorem v1m (s:Int) (w:World) :
    Calls Tryz.prog 127 #[.int .i64 s] w fun e w'=>e=.returned (.bool (isB s))∧w=w':=by
  rcases z7t s with rfl | rfl | rfl | ⟨h1,h2,h3⟩
  · go_enter Tryz.func127,Tryz.ntmps127
    go_wp2
    go_ret;exact ⟨rfl,rfl⟩
  · go_enter Tryz.func127,Tryz.ntmps127
    go_wp2
    go_ret;exact ⟨rfl,rfl⟩
  · go_enter Tryz.func127,Tryz.ntmps127
    go_wp2
    go_ret;exact ⟨rfl,rfl⟩
  · have b1:(s==1)=false:=by simp [h1]
    have b2:(s==2)=false:=by simp [h2]
    have b3:(s==3)=false:=by simp [h3]
    go_enter Tryz.func127,Tryz.ntmps127
    go_wp2
    go_ret;exact ⟨ret_bool (y0c ⟨h1,h2,h3⟩).symm,rfl⟩
theorem isR_any (s:Int) (w:World) :
    Calls Tryz.prog 272 #[.int .i64 s] w fun e w'=>e=.returned (.bool (isB s))∧w=w':=by
  rcases z7t s with rfl | rfl | rfl | ⟨h1,h2,h3⟩
  · go_enter Tryz.func272,Tryz.ntmps272
    go_wp2
    go_ret;exact ⟨rfl,rfl⟩
  · go_enter Tryz.func272,Tryz.ntmps272
    go_wp2
    go_ret;exact ⟨rfl,rfl⟩
  · go_enter Tryz.func272,Tryz.ntmps272
    go_wp2
    go_ret;exact ⟨rfl,rfl⟩
  · have b1:(s==1)=false:=by simp [h1]
    have b2:(s==2)=false:=by simp [h2]
    have b3:(s==3)=false:=by simp [h3]
    go_enter Tryz.func272,Tryz.ntmps272
    go_wp2
    go_ret;exact ⟨ret_bool (y0c ⟨h1,h2,h3⟩).symm,rfl⟩
theorem z6m (a b:Int) (w:World) :
    Calls Tryz.prog 274 #[.int .i64 a,.int .i64 b] w fun e w'=>e=.returned (.int .i64 (both a b))∧w=w':=by
  by_cases hb:isB b=false
  · have hB:=Lib.hid (y7n (a:=a) hb)
    rcases z7t a with rfl | rfl | rfl | ha
    all_goals (try have ha':=y0c ha)
    all_goals go_enter Tryz.func274,Tryz.ntmps274
    all_goals go_wp2_with (go_at_call 127; refine (v1m _ _).mono ?_; rintro e w' ⟨rfl,rfl⟩)
    all_goals go_ret
    all_goals exact ⟨ret_int hB.out.symm,rfl⟩
  · rcases v1p (by simpa using hb) with rfl | rfl | rfl
    all_goals (rcases z7t a with rfl | rfl | rfl | ha)
    all_goals (try have ha':=y0c ha)
    all_goals clear hb
    all_goals go_enter Tryz.func274,Tryz.ntmps274
    all_goals go_wp2_with (go_at_call 127; refine (v1m _ _).mono ?_; rintro e w' ⟨rfl,rfl⟩)
    all_goals go_ret
    all_goals first | exact ⟨rfl,rfl⟩ | exact ⟨ret_int (y7o ha').symm,rfl⟩
theorem z4s (a b:Int) (w:World) :
    Calls Tryz.prog 206 #[.int .i64 a,.int .i64 b] w fun e w'=>e=.returned (.int .i64 (both a b))∧w=w':=by
  by_cases hb:isB b=false
  · have hB:=Lib.hid (y7n (a:=a) hb)
    rcases z7t a with rfl | rfl | rfl | ha
    all_goals (try have ha':=y0c ha)
    all_goals go_enter Tryz.func206,Tryz.ntmps206
    all_goals go_wp2_with (go_at_call 272; refine (isR_any _ _).mono ?_; rintro e w' ⟨rfl,rfl⟩)
    all_goals go_ret
    all_goals exact ⟨ret_int hB.out.symm,rfl⟩
  · rcases v1p (by simpa using hb) with rfl | rfl | rfl
    all_goals (rcases z7t a with rfl | rfl | rfl | ha)
    all_goals (try have ha':=y0c ha)
    all_goals clear hb
    all_goals go_enter Tryz.func206,Tryz.ntmps206
    all_goals go_wp2_with (go_at_call 272; refine (isR_any _ _).mono ?_; rintro e w' ⟨rfl,rfl⟩)
    all_goals go_ret
    all_goals first | exact ⟨rfl,rfl⟩ | exact ⟨ret_int (y7o ha').symm,rfl⟩
theorem text_any (s:Int) (w:World) (h:Tab w) :
    Calls Tryz.prog 72 #[.int .i64 s] w fun e w'=>e=.returned (.string (txt s))∧w=w':=by
  obtain ⟨t,fr,hg⟩:=h;have c1:w.cell? ⟨0,1,none⟩=some (.string ⟨#[111,107]⟩):=by simp [World.cell?,hg,cells]
  have c2:w.cell? ⟨0,2,none⟩=some (.string ⟨#[33]⟩):=by simp [World.cell?,hg,cells]
  have c3:w.cell? ⟨0,3,none⟩=some (.string ⟨#[63]⟩):=by simp [World.cell?,hg,cells]
  clear hg
  rcases z7t s with rfl | rfl | rfl | hs
  all_goals (try have hs':=y0c hs)
  all_goals go_enter Tryz.func72,Tryz.ntmps72
  all_goals go_wp2_with (go_at_call 127; refine (v1m _ _).mono ?_; rintro e w' ⟨rfl,rfl⟩)
  all_goals go_ret
  all_goals first | exact ⟨rfl,rfl⟩ | exact ⟨ret_str (by simp [txt,hs]),rfl⟩
end Sg
namespace Tr
open Go Go.RowKit
def Strs (w:World) (v:Value) (l:List ByteArray):Prop:=Ap.Rd w 1 v l.length (l.map .string)
theorem Strs.below {w w':World} {v:Value} {l:List ByteArray} (h:Strs w v l) (hb:Below w.heap.size w w'):Strs w' v l:=Ap.Rd.below h hb
theorem Below.drewN (B n:Nat) (w:World):Below B w (w.drewN n):=by
  induction n with
  | zero=>exact Below.refl _ _
  | succ n ih=>exact ih.drew
theorem Strs.form {w:World} {v:Value} {l:List ByteArray} (h:Strs w v l) :
    (l=[]∧∃ a cap,v=.slice a 0 cap)∨∃ b off cap,v=.slice (some ⟨b,off,none⟩) l.length cap∧∀ k,(h:k<l.length)→w.cell? ⟨b,off+k,none⟩=some (.string l[k]):=by
  obtain ⟨_,a,cap,rfl,_,_,hcell⟩:=h
  by_cases h0:0<l.length
  · obtain ⟨b,off,rfl,hj⟩:=hcell h0;exact Or.inr ⟨b,off,cap,rfl,fun k hk=>hj k _ (by simp [hk])⟩
  · have:l=[]:=List.eq_nil_of_length_eq_zero (by omega);subst this;exact Or.inl ⟨rfl,a,cap,rfl⟩
theorem ret_int {k:IntKind} {a b:Int} (h:a=b):Ending.returned (.int k a)=.returned (.int k b):=congrArg (fun z=>Ending.returned (.int k z)) h
theorem ret_bool {a b:Bool} (h:a=b):Ending.returned (.bool a)=.returned (.bool b):=by rw [h]
theorem row_at (l m:List ByteArray) (k:Nat) (h1:k<l.length) (h2:k<m.length) :
    row (l.drop k) (m.drop k)=if ls l[k] m[k] then -1 else if ls m[k] l[k] then 1 else row (l.drop (k+1)) (m.drop (k+1)):=by
  rw [List.drop_eq_getElem_cons h1,List.drop_eq_getElem_cons h2,z4x]
theorem x8o (l m:List ByteArray) (k:Nat) (h1:k≤l.length) (h2:k≤m.length) (h:¬ k<l.length∨¬ k<m.length) :
    row (l.drop k) (m.drop k)=(l.length:Int)-m.length:=by
  rcases h with h | h
  · rw [List.drop_eq_nil_of_le (by omega),z4i,List.length_drop]; omega
  · rw [show m.drop k=[] from List.drop_eq_nil_of_le (by omega),z2f,List.length_drop]; omega
theorem eq_of_ls {x y:ByteArray} (h:ls x y=false):(x.toList==y.toList)=!ls y x:=by
  cases h2:ls y x with
  | true=>
    rw [Bool.not_true,beq_eq_false_iff_ne];intro e;rw [toList_inj e,z6d] at h2
    cases h2
  | false=>rw [x2f h h2]; simp
def sub:List ByteArray→List ByteArray→Bool
  | [],_=>true
  | _::_,[]=>false
  | x::a,y::b=>if x=y then sub a b else sub (x::a) b
def txs:List ByteArray→List UInt8
  | []=>[]
  | x::l=>x.data.toList++32::txs l
def txt (t:Tr):ByteArray:=⟨(txs t.a++(Sg.txt t.e).data.toList).toArray⟩
theorem x4i (e:Int):(Sg.txt e).size≤2:=by
  rcases Sg.z7t e with rfl | rfl | rfl | h
  · decide
  · decide
  · decide
  · rw [show Sg.txt e=⟨#[]⟩ by simp [Sg.txt,h]]
    decide
def Own2 (w:World) (g:Nat) (e:TypeId) (cap:Nat) (ys:List (Value × Value)):Prop:=
  ∃ cur:Array Value,w.heap[g]?=some (.cells cur e (0,0))∧cur.size=cap*2∧ys.length≤cap∧∀ j (h:j<ys.length),cur[j*2]?=some ys[j].1∧cur[j*2+1]?=some ys[j].2
theorem heap_lt {w:World} {g:Nat} {o:Obj} (h:w.heap[g]?=some o):g<w.heap.size:=
  Nat.lt_of_not_le fun hle=>by
    rw [Array.getElem?_eq_none hle] at h
    cases h
theorem Own2.lt {w:World} {g cap:Nat} {e:TypeId} {ys:List (Value × Value)} (h:Own2 w g e cap ys):g<w.heap.size:=heap_lt h.choose_spec.1
theorem Own2.len {w:World} {g cap:Nat} {e:TypeId} {ys:List (Value × Value)} (h:Own2 w g e cap ys):ys.length≤cap:=h.choose_spec.2.2.1
theorem Own2.cell0 {w:World} {g cap:Nat} {e:TypeId} {ys:List (Value × Value)} (h:Own2 w g e cap ys) (j:Nat) (hj:j<ys.length):w.cell? ⟨g,j*2,none⟩=some ys[j].1:=by
  obtain ⟨cur,hg,_,_,hc⟩:=h;simp [World.cell?,hg,(hc j hj).1]
theorem Own2.cell1 {w:World} {g cap:Nat} {e:TypeId} {ys:List (Value × Value)} (h:Own2 w g e cap ys) (j:Nat) (hj:j<ys.length):w.cell? ⟨g,j*2+1,none⟩=some ys[j].2:=by
  obtain ⟨cur,hg,_,_,hc⟩:=h;simp [World.cell?,hg,(hc j hj).2]
theorem Own2.soft {w:World} {g cap:Nat} {e:TypeId} {ys:List (Value × Value)} (h:Own2 w g e cap ys) (j:Nat):w.frozen? ⟨g,j,none⟩=false:=by
  obtain ⟨cur,hg,_⟩:=h;simp [World.frozen?,hg]
theorem Own2.there {w:World} {g cap:Nat} {e:TypeId} {ys:List (Value × Value)} (h:Own2 w g e cap ys) (j:Nat) (hj:j<cap*2):(w.cell? ⟨g,j,none⟩).isSome=true:=by
  obtain ⟨cur,hg,hs,_⟩:=h;simp [World.cell?,hg,hs,hj]
theorem Own2.block {w w':World} {g cap:Nat} {e:TypeId} {ys:List (Value × Value)} (h:Own2 w g e cap ys) (hb:w'.heap[g]?=w.heap[g]?):Own2 w' g e cap ys:=by
  obtain ⟨cur,hg,hr⟩:=h;exact ⟨cur,by rw [hb,hg],hr⟩
theorem Own2.below {w w':World} {g cap:Nat} {e:TypeId} {ys:List (Value × Value)} (h:Own2 w g e cap ys) (hb:Below w.heap.size w w'):Own2 w' g e cap ys:=h.block (hb.block g h.lt)
theorem heap_setCell (w:World) (g o:Nat) (v:Value) (k:Nat):(w.setCell ⟨g,o,none⟩ v).heap[k]?=if g=k then (w.heap[k]?).map (fun x=>match x with | .cells c elem frozen=>.cells (c.setIfInBounds o v) elem frozen | o=>o) else w.heap[k]?:=by
  simp only [World.setCell,Array.getElem?_modify]
  by_cases h:g=k
  · simp [h]
    rfl
  · simp [h]
theorem Own2.store {w:World} {g cap:Nat} {e:TypeId} {ys:List (Value × Value)} (h:Own2 w g e cap ys) (k:Nat) (hk:k<ys.length) (a b:Value):Own2 ((w.setCell ⟨g,k*2,none⟩ a).setCell ⟨g,k*2+1,none⟩ b) g e cap (ys.set k (a,b)):=by
  obtain ⟨cur,hg,hs,hl,hc⟩:=h;refine ⟨(cur.setIfInBounds (k*2) a).setIfInBounds (k*2+1) b,?_,by simpa using hs,by simpa using hl,fun j hj=>?_⟩
  · simp [heap_setCell,hg]
  · have hj':j<ys.length:=by simpa using hj
    by_cases hjk:k=j
    · subst hjk;simp only [List.getElem_set_self]
      constructor
      · rw [Array.getElem?_setIfInBounds,if_neg (by omega),Array.getElem?_setIfInBounds,if_pos rfl,if_pos (by omega)]
      · rw [Array.getElem?_setIfInBounds,if_pos rfl,if_pos (by simp; omega)]
    · rw [List.getElem_set_ne hjk]
      constructor
      · rw [Array.getElem?_setIfInBounds,if_neg (by omega),Array.getElem?_setIfInBounds,if_neg (by omega)];exact (hc j hj').1
      · rw [Array.getElem?_setIfInBounds,if_neg (by omega),Array.getElem?_setIfInBounds,if_neg (by omega)];exact (hc j hj').2
theorem Own2.store0 {w:World} {g cap:Nat} {e:TypeId} {ys:List (Value × Value)} (h:Own2 w g e cap ys) (k:Nat) (hk:k<ys.length) (a:Value):Own2 (w.setCell ⟨g,k*2,none⟩ a) g e cap (ys.set k (a,ys[k].2)):=by
  obtain ⟨cur,hg,hs,hl,hc⟩:=h;refine ⟨cur.setIfInBounds (k*2) a,?_,by simpa using hs,by simpa using hl,fun j hj=>?_⟩
  · simp [heap_setCell,hg]
  · have hj':j<ys.length:=by simpa using hj
    by_cases hjk:k=j
    · subst hjk;simp only [List.getElem_set_self]
      constructor
      · rw [Array.getElem?_setIfInBounds,if_pos rfl,if_pos (by omega)]
      · rw [Array.getElem?_setIfInBounds,if_neg (by omega)];exact (hc k hk).2
    · rw [List.getElem_set_ne hjk]
      constructor
      · rw [Array.getElem?_setIfInBounds,if_neg (by omega)];exact (hc j hj').1
      · rw [Array.getElem?_setIfInBounds,if_neg (by omega)];exact (hc j hj').2
theorem Own2.setOut {g cap:Nat} {e:TypeId} {ys:List (Value × Value)}:∀ (vs:List Value) (o:Nat) (w:World),Own2 w g e cap ys→ys.length*2≤o→Own2 (w.setCells g o vs) g e cap ys
  | [],_,_,h,_=>h
  | v::vs,o,w,h,ho=>by
    refine Own2.setOut vs (o+1) _ ?_ (by omega);obtain ⟨cur,hg,hs,hl,hc⟩:=h;refine ⟨cur.setIfInBounds o v,?_,by simpa using hs,hl,fun j hj=>?_⟩
    · simp [heap_setCell,hg]
    · rw [Array.getElem?_setIfInBounds,if_neg (by omega),Array.getElem?_setIfInBounds,if_neg (by omega)];exact hc j hj
theorem Own2.take {w:World} {g cap:Nat} {e:TypeId} {ys:List (Value × Value)} (h:Own2 w g e cap ys) (n:Nat):Own2 w g e cap (ys.take n):=by
  obtain ⟨cur,hg,hs,hl,hc⟩:=h;refine ⟨cur,hg,hs,by simp; omega,fun j hj=>?_⟩;have hj':j<ys.length:=by simp at hj; omega
  rw [List.getElem_take];exact hc j hj'
theorem y9y (w:World) (r:Option Nat):w.grownBy w r:=⟨rfl,rfl,rfl,Nat.le_refl _,fun _ _ _=>rfl⟩
theorem z0o {w w1 w2:World} {r:Option Nat} (h1:w.grownBy w1 r) (h2:w1.grownBy w2 r):w.grownBy w2 r:=
  ⟨h2.os.trans h1.os,h2.tape.trans h1.tape,h2.output.trans h1.output,Nat.le_trans h1.size h2.size,fun k hk hr=>(h2.block k (Nat.lt_of_lt_of_le hk h1.size) hr).trans (h1.block k hk hr)⟩
theorem z3f {w w':World} {r:Option Nat} (h:Below w.heap.size w w'):w.grownBy w' r:=⟨h.os,h.tape,h.output,h.size,fun k hk _=>h.block k hk⟩
theorem z4q (w:World) (r:Option Nat):w.grownBy w.drew r:=z3f (Below.refl _ _).drew
theorem z1h (w:World) (g o:Nat) (v:Value):w.grownBy (w.setCell ⟨g,o,none⟩ v) (some g):=
  ⟨rfl,rfl,rfl,by simp [World.setCell],fun k _ hr=>by rw [heap_setCell,if_neg (fun e=>hr (by rw [e]))]⟩
theorem y0f (g:Nat):∀ (vs:List Value) (o:Nat) (w:World),w.grownBy (w.setCells g o vs) (some g)
  | [],_,w=>y9y w _
  | v::vs,o,w=>z0o (z1h w g o v) (y0f g vs (o+1) _)
theorem below_gb {B g:Nat} {w0 w w':World} (h:Below B w0 w) (hg:w.grownBy w' (some g)) (hB:B≤g) (hs:B≤w.heap.size):Below B w0 w':=
  ⟨hg.os.trans h.os,hg.tape.trans h.tape,hg.output.trans h.output,Nat.le_trans h.size hg.size,fun k hk=>(hg.block k (by omega) (fun e=>by cases e; omega)).trans (h.block k hk)⟩
def flv:List (Value × Value)→List Value
  | []=>[]
  | y::ys=>y.1::y.2::flv ys
theorem y9z:∀ ys:List (Value × Value),(flv ys).length=ys.length*2
  | []=>rfl
  | y::ys=>by simp [flv,y9z ys]; omega
theorem y6r:∀ (ys:List (Value × Value)) (j:Nat) (h:j<ys.length),(flv ys)[j*2]?=some ys[j].1∧(flv ys)[j*2+1]?=some ys[j].2
  | y::ys,0,_=>⟨rfl,rfl⟩
  | y::ys,j+1,h=>by
    have:=y6r ys j (by simpa using h);rw [show (j+1)*2=j*2+1+1 by omega]
    simpa [flv] using this
theorem flv_of:∀ (n:Nat) (cs:List Value),cs.length=n*2→∃ ys:List (Value × Value),ys.length=n∧flv ys=cs
  | 0,cs,h=>⟨[],rfl,(List.eq_nil_of_length_eq_zero (by omega)).symm⟩
  | n+1,[],h=>by simp at h
  | n+1,[a],h=>by simp at h; omega
  | n+1,a::b::cs,h=>by
    obtain ⟨ys,h1,h2⟩:=flv_of n cs (by simp at h; omega);exact ⟨(a,b)::ys,by simp [h1],by simp [flv,h2]⟩
theorem Own2.owns {w:World} {g cap base:Nat} {e:TypeId} {ys:List (Value × Value)} (h:Own2 w g e cap ys) (hb:base≤g) (hm:cap≤maxLen):w.ownsRow base e 2 (.slice (some ⟨g,0,none⟩) ys.length cap) ys.length (flv ys):=by
  obtain ⟨cur,hg,hs,hl,hc⟩:=h;refine ⟨y9z ys,.inr ⟨g,cap,cur,rfl,hb,hg,hl,hm,hs,?_⟩⟩;refine List.ext_getElem? fun i=>?_
  rw [List.getElem?_take]
  by_cases hi:i<ys.length*2
  · rw [if_pos hi,Array.getElem?_toList];have hi2:i / 2<ys.length:=by omega
    have h1:=hc (i / 2) hi2;have h2:=y6r ys (i / 2) hi2
    rcases Nat.mod_two_eq_zero_or_one i with hm2 | hm2
    · have e2:i=i / 2*2:=by omega
      rw [e2,h1.1,h2.1]
    · have e2:i=i / 2*2+1:=by omega
      rw [e2,h1.2,h2.2]
  · rw [if_neg hi,List.getElem?_eq_none (by rw [y9z]; omega)]
theorem Own2.of {w:World} {g cap base n:Nat} {e:TypeId} {cs:List Value} (h:w.ownsRow base e 2 (.slice (some ⟨g,0,none⟩) n cap) n cs):∃ ys,flv ys=cs∧ys.length=n∧Own2 w g e cap ys∧base≤g∧cap≤maxLen:=by
  obtain ⟨hl,⟨h0,_⟩ | ⟨g',cap',cur,hv,hb,hg,hn,hm,hs,ht⟩⟩:=h
  · cases h0
  · cases hv
    obtain ⟨ys,h1,h2⟩:=flv_of n cs hl;refine ⟨ys,h2,h1,⟨cur,hg,hs,by omega,fun j hj=>?_⟩,hb,hm⟩;have h3:=y6r ys j hj;rw [h2,← ht,List.getElem?_take,if_pos (by omega),List.getElem?_take,if_pos (by omega),Array.getElem?_toList,Array.getElem?_toList] at h3;exact h3
def cptF {α:Type} (q:α→α→Bool):α→List α→List α
  | _,[]=>[]
  | p,x::xs=>if q x p then cptF q x xs else x::cptF q x xs
def cpt {α:Type} (q:α→α→Bool):List α→List α
  | []=>[]
  | x::xs=>x::cptF q x xs
theorem y7f {α:Type} (q:α→α→Bool) (x:α):∀ (p:α) (l:List α),cptF q p (l++[x])=cptF q p l++(if q x ((p::l)[l.length]'(by simp)) then [] else [x])
  | p,[]=>by
    simp only [List.nil_append,cptF,List.length_nil,List.getElem_cons_zero]
  | p,y::l=>by
    have:=y7f q x y l;simp only [List.cons_append,cptF,this,List.length_cons,List.getElem_cons_succ]
    split <;> simp
theorem cpt_snoc {α:Type} (q:α→α→Bool) (xs:List α) (j:Nat) (hj:j+1<xs.length):cpt q (xs.take (j+1+1))=cpt q (xs.take (j+1))++(if q xs[j+1] (xs[j]'(by omega)) then [] else [xs[j+1]]):=by
  cases xs with
  | nil=>simp at hj
  | cons x xs=>
    have hj':j<xs.length:=by simpa using hj
    simp only [List.take_succ_cons,cpt,List.getElem_cons_succ];rw [List.take_succ_eq_append_getElem hj',y7f];simp only [List.cons_append,List.cons.injEq,true_and]
    congr 3
    cases j with
    | zero=>simp
    | succ j=>
      have:min (j+1) xs.length=j+1:=by omega
      simp [this]
theorem cpt_at {α:Type} (q:α→α→Bool) (xs:List α) (k:Nat) (h1:1≤k) (hk:k<xs.length):cpt q (xs.take (k+1))=cpt q (xs.take k)++(if q xs[k] (xs[k-1]'(by omega)) then [] else [xs[k]]):=by
  obtain ⟨j,rfl⟩:∃ j,k=j+1:=⟨k-1,by omega⟩
  exact cpt_snoc q xs j hk
theorem set_mid {α:Type} (l r:List α) (x y:α):(l++x::r).set l.length y=l++y::r:=by simp
end Tr
namespace Mn
open Go Go.RowKit Tr
structure Qd where
  a:Value
  b:Value
  c:Value
  d:Value
instance:Inhabited Qd:=⟨⟨default,default,default,default⟩⟩
def Own4 (w:World) (g:Nat) (e:TypeId) (cap:Nat) (ys:List Qd):Prop:=
  ∃ cur:Array Value,w.heap[g]?=some (.cells cur e (0,0))∧cur.size=cap*4∧ys.length≤cap∧∀ j (h:j<ys.length),cur[j*4]?=some ys[j].a∧cur[j*4+1]?=some ys[j].b∧cur[j*4+2]?=some ys[j].c∧cur[j*4+3]?=some ys[j].d
def flat4:List Qd→List Value
  | []=>[]
  | y::ys=>y.a::y.b::y.c::y.d::flat4 ys
theorem v2m:∀ ys:List Qd,(flat4 ys).length=ys.length*4
  | []=>rfl
  | y::ys=>by simp [flat4,v2m ys]; omega
end Mn
end Go.Proofs.YtpingbiibbmcaaaGreatDoor
