/- Laws that the last text leans on. -/
import Derived.Test.YtpingbiibbmcaaaGreatDoorQ31
import Derived.Maps.Views
import Derived.Lib.ItoaLen
import Derived.Lib.LaidTab
import Derived.Laws.EntriesVeiled

set_option maxRecDepth 20000
set_option maxHeartbeats 4000000
namespace Go.Proofs.YtpingbiibbmcaaaGreatDoor
namespace Me
open Go Go.RowKit Go.Maps Go.WideMaps Rw YtpingbiibbmcaaaGreatDoor.So Se Do
def hE (v:Value):Option (DataW Value × List MemPlace):=some (.held v,[])
theorem lawI:Keyed Tryz.prog 3:=int_keyed Tryz.underlying3
theorem keyI (k:Int) (h:(Lit.int .i64 k).wf=true):keyOf Tryz.prog 3 (.int .i64 k)=some (.int .i64 k):=keyOf_int_mk Tryz.underlying3 h
theorem zeroW (w:World):(zeroValue 150).run Tryz.prog w=.ok (.slice none 0 0) w:=by kernel_rfl
def WD (f:Int→Value) (D:DataW Value):Prop:=∀ k:Int,D.atKey (.int .i64 k) (.held (.slice none 0 0))=.held (f k)
theorem look {w:World} {b n:Nat} {f:Int→Value} {D:DataW Value} (h:w.ownsMap Tryz.prog 3 hE b n D) (hd:WD f D) (k:Int) (hk:(Lit.int .i64 k).wf=true) :
    (Instr.lookup 151 (.map (some b)) (.int .i64 k) false).run Tryz.prog w=.ok (f k) w:=by
  obtain ⟨v,ps,hrun,hv⟩:=h.lookup lawI Tryz.underlying151 (zeroW w) (show hE (.slice none 0 0)=some (.held (.slice none 0 0),[]) from rfl) (keyI k hk);rw [hd k] at hv;rw [hrun];injection hv with hv;injection hv with hv;injection hv with hv;rw [hv]
end Me
namespace Me
open Go Go.RowKit Rw YtpingbiibbmcaaaGreatDoor.So Se Do
abbrev tx (L:List UInt8):ByteArray:=⟨L.toArray⟩
def idxM (x:Mv):List Mv→Nat→Int
  | [],_=>-1
  | y::l,k=>if x=y then k else idxM x l (k+1)
theorem idxM_mem (x:Mv) (l:List Mv) (k:Nat):decide (0≤idxM x l k)=decide (x∈l):=by
  induction l generalizing k with
  | nil=>simp [idxM]
  | cons y l ih=>
    unfold idxM
    by_cases h:x=y
    · rw [if_pos h,decide_eq_true (show x∈y::l by rw [h]; exact List.mem_cons_self)];simp
    · rw [if_neg h,ih (k+1)];simp [h]
theorem idxM_end {x:Mv} {l:List Mv} {k:Nat} (h:¬ k<l.length):idxM x (l.drop k) k=-1:=by rw [List.drop_eq_nil_of_le (by omega)]; rfl
theorem idxM_at {x:Mv} {l:List Mv} {k:Nat} (h:k<l.length):idxM x (l.drop k) k=if x=l[k] then (k:Int) else idxM x (l.drop (k+1)) (k+1):=by
  rw [List.drop_eq_getElem_cons h,idxM]
theorem x6a (a:Option Addr) (cap:Nat) (xp xh:Int) (w:World) :
    Calls Tryz.prog 251 #[.slice a 0 cap,.agg #[.int .i64 xp,.int .i64 xh]] w fun e w'=>e=.returned (.int .i64 (-1))∧Below w.heap.size w w':=by
  go_enter Tryz.func251,Tryz.ntmps251
  go_wp2_with fail;refine Go.wp_loop_rounds 1 ?_;rw [rounds_succ];go_wp2_with fail;go_ret;exact ⟨rfl,z0b _ _⟩
theorem x6b (b off cap:Nat) (l:List Mv) (x:Mv) (w:World) (hat:AtM w b off l) (hl:l.length≤1000000) :
    Calls Tryz.prog 251 #[.slice (some ⟨b,off,none⟩) l.length cap,mvV x] w fun e w'=>e=.returned (.int .i64 (idxM x l 0))∧Below w.heap.size w w':=by
  obtain ⟨xp,xh⟩:=x;have HA:=Lib.hid (hat.below (z0b w (.cells #[.int .i64 xp,.int .i64 xh] 71)));have HB0:=Lib.hid (Bm.new w ⟨xp,xh⟩);have DB:=Lib.hid (z0b w (.cells #[.int .i64 xp,.int .i64 xh] 71));obtain ⟨wB,hwB⟩:∃ wB,w.alloc (.cells #[.int .i64 xp,.int .i64 xh] 71)=wB:=⟨_,rfl⟩
  obtain ⟨bM,hbM⟩:∃ bM,w.heap.size=bM:=⟨_,rfl⟩
  have HS:Hid (w.heap.size≤wB.heap.size):=Lib.hid (by rw [← hwB]; simp);change Hid (Bm (w.alloc (.cells #[.int .i64 xp,.int .i64 xh] 71)) w.heap.size ⟨xp,xh⟩) at HB0;rw [hwB] at HA HB0 DB;rw [hbM] at HB0;clear hat
  go_enter Tryz.func251,Tryz.ntmps251
  go_wp2_with fail;clear hwB
  go_loopw [8] (fun i wr=>∃ k:Nat,k≤l.length∧i=.int .i64 k∧Hid (Below wB.heap.size wB wr)∧Hid (idxM ⟨xp,xh⟩ l 0=idxM ⟨xp,xh⟩ (l.drop k) k)) (fun i _=>l.length-(intOf i).toNat)
  case atStart=>exact ⟨0,Nat.zero_le _,rfl,Lib.hid (Below.refl _ _),Lib.hid rfl⟩
  case round=>
    obtain ⟨k,hk,rfl,HB,HK⟩:=hrel
    by_cases hlt:k<l.length
    · obtain ⟨e1,e2⟩:=(HA.out.below HB.out) k hlt;obtain ⟨m1,m2,-⟩:=(HB0.out.below HB.out HB0.out.lt).cells;have HX:=Lib.hid (HK.out.trans (idxM_at hlt));obtain ⟨y,hy⟩:∃ y,l[k]=y:=⟨_,rfl⟩
      rw [hy] at e1 e2 HX;clear hy;obtain ⟨yp,yh⟩:=y;simp only at e1 e2 m1 m2;have hq:∀ w,(binOp .eql 71 (.agg #[.int .i64 xp,.int .i64 xh]) (.agg #[.int .i64 yp,.int .i64 yh])).run Tryz.prog w=.ok (.bool (decide ((⟨xp,xh⟩:Mv)=⟨yp,yh⟩))) w:=fun w=>eq_mv ⟨xp,xh⟩ ⟨yp,yh⟩ w
      by_cases hxy:(⟨xp,xh⟩:Mv)=⟨yp,yh⟩
      · rw [if_pos hxy] at HX;rw [decide_eq_true hxy] at hq;clear hxy;go_wp2_with fail
        go_quiet (fail)
        go_wp2_with fail;go_ret;exact ⟨ret_int HX.out.symm,DB.out.trans ((HB.out.trans (Below.drewN _ _ _)).mono HS.out)⟩
      · rw [if_neg hxy] at HX;rw [decide_eq_false hxy] at hq;clear hxy;go_wp2_with fail
        go_quiet (fail)
        go_wp2_with fail
        go_roundw
        case rel=>exact ⟨k+1,by omega,by go_num,Lib.hid (HB.out.trans (Below.drewN _ _ _)),HX⟩
        case measure=>simp [intOf]; omega
    · have HZ:Hid (idxM ⟨xp,xh⟩ l 0=-1):=Lib.hid (by rw [HK.out,idxM_end hlt]);go_wp2_with fail;go_ret;exact ⟨ret_int HZ.out.symm,DB.out.trans (HB.out.mono HS.out)⟩
theorem idxM_any (v:Value) (l:List Mv) (x:Mv) (w:World) (h:Mvs w v l) (hl:l.length≤1000000) :
    Calls Tryz.prog 251 #[v,mvV x] w fun e w'=>e=.returned (.int .i64 (idxM x l 0))∧Below w.heap.size w w':=by
  rcases h.form with ⟨rfl,a,cap,rfl⟩ | ⟨b,off,cap,rfl,_,hat⟩
  · exact x6a a cap x.p x.h w
  · exact x6b b off cap l x w hat hl
theorem hasM_any (v:Value) (l:List Mv) (x:Mv) (w:World) (h:Mvs w v l) (hl:l.length≤1000000) :
    Calls Tryz.prog 194 #[v,mvV x] w fun e w'=>e=.returned (.bool (decide (x∈l)))∧Below w.heap.size w w':=by
  obtain ⟨xp,xh⟩:=x;have H:=Lib.hid (h.below (z0b w (.cells #[.int .i64 xp,.int .i64 xh] 71)));have D1:=Lib.hid (z0b w (.cells #[.int .i64 xp,.int .i64 xh] 71));have HQ:=Lib.hid (idxM_mem ⟨xp,xh⟩ l 0);obtain ⟨q,hq⟩:∃ q,idxM ⟨xp,xh⟩ l 0=q:=⟨_,rfl⟩
  rw [hq] at HQ;have HC:=Lib.hid hq;obtain ⟨_,a,cap,rfl,-⟩:=id h;clear h hq
  go_enter Tryz.func194,Tryz.ntmps194
  go_wp2_with fail;refine (idxM_any _ l ⟨xp,xh⟩ _ H.out hl).mono ?_;rw [HC.out];rintro e w' ⟨rfl,hb⟩;have HB:=Lib.hid (D1.out.trans (hb.mono D1.out.size));clear hb;go_wp2_with fail;go_ret;exact ⟨ret_bool HQ.out,HB.out⟩
end Me
namespace St
open Go Go.RowKit Rw YtpingbiibbmcaaaGreatDoor.So Se Do Sp Me
def RNx (b off n c p bM:Nat) (hh:Int) (nm:ByteArray) (U R Z:List Nd) (k:Nat) (v:Value) (w':World):Prop:=match k with
  | 0=>v=.slice (some ⟨b,off,none⟩) n c
  | 1=>v=.pointer (some ⟨bM,0,none⟩)
  | 2=>v=.int .i64 (p:Int)
  | 3=>v=.slice (some ⟨b,off,none⟩) n c
  | 4=>v=.pointer (some ⟨bM,0,none⟩)
  | 5=>v=.int .i64 (p:Int)
  | 6=>v=.slice (some ⟨b,off+p*3,none⟩) (n-p) (c-p)
  | 7=>v=.pointer (some ⟨bM,1,none⟩)
  | 8=>v=.int .i64 hh
  | 9=>Nds w' v U
  | 10=>Nds w' v R
  | 11=>Nds w' v Z
  | 12=>v=.string nm
  | 13=>Nds w' v Z
  | 14=>v=.string nm
  | 15=>v=.int .i64 0
  | _=>True
def RRf (b off n c p bM:Nat) (U R Z:List Nd) (k:Nat) (v:Value) (w':World):Prop:=match k with
  | 0=>v=.slice (some ⟨b,off,none⟩) n c
  | 1=>v=.pointer (some ⟨bM,0,none⟩)
  | 2=>v=.int .i64 (p:Int)
  | 3=>Nds w' v U
  | 4=>Nds w' v R
  | 5=>Nds w' v Z
  | 6=>Nds w' v Z
  | 7=>v=.int .i64 0
  | _=>True
end St
namespace Me
open Go Go.RowKit Go.Maps Go.WideMaps Rw YtpingbiibbmcaaaGreatDoor.So Se Do
abbrev Wy:=Int × Nat
def wcls:List Wy→List Value
  | []=>[]
  | p::l=>.int .i64 p.1::.func (.func p.2) #[] #[]::wcls l
theorem x1f:∀ l:List Wy,(wcls l).length=l.length*2
  | []=>rfl
  | p::l=>by simp [wcls,x1f l]; omega
theorem x7k:∀ (l:List Wy) (k:Nat) (h:k<l.length),(wcls l)[k*2]?=some (.int .i64 l[k].1)∧(wcls l)[k*2+1]?=some (.func (.func l[k].2) #[] #[])
  | [],k,h=>by simp at h
  | x::l,0,_=>⟨rfl,rfl⟩
  | x::l,k+1,h=>by
    have:=x7k l k (by simpa using h)
    simpa [wcls,show (k+1)*2=k*2+1+1 by omega] using this
def Wys (w:World) (v:Value) (l:List Wy):Prop:=Ap.Rd w 2 v l.length (wcls l)
theorem Wys.below {w w':World} {v:Value} {l:List Wy} (h:Wys w v l) (hb:Below w.heap.size w w'):Wys w' v l:=Ap.Rd.below h hb
theorem x7f (w:World) (l:List Wy) (ty:TypeId):Wys (w.alloc (.cells (wcls l).toArray ty)) (.slice (some ⟨w.heap.size,0,none⟩) l.length l.length) l:=by
  refine ⟨x1f l,some ⟨w.heap.size,0,none⟩,l.length,rfl,Nat.le_refl _,fun h=>(by cases h),fun _=>⟨w.heap.size,0,rfl,fun j u hu=>?_⟩⟩;rw [Nat.zero_add,World.cell?_alloc_new]
  simpa using hu
theorem Wys.grown {w w':World} {b:Nat} {v:Value} {l:List Wy} (h:Wys w v l) (hg:w.grownBy w' (some b)) (hb:∀ p c,v=.slice (some p) l.length c→p.block≠b):Wys w' v l:=by
  obtain ⟨hn,a,cap,rfl,hle,h0,hcell⟩:=h;refine ⟨hn,a,cap,rfl,hle,h0,fun hp=>?_⟩;obtain ⟨c,off,rfl,hj⟩:=hcell hp;refine ⟨c,off,rfl,fun j u hu=>?_⟩;have hc:=hj j u hu;exact hg.cell hc (fun e=>hb _ _ rfl (Option.some.inj e))
def wyF (v1 v6 v4:Value) (k:Int):Value:=if k=1 then v1 else if k=6 then v6 else if k=4∨k=10 then v4 else .slice none 0 0
theorem wd_all (v1 v6 v4:Value):WD (wyF v1 v6 v4) (((((DataW.map []).put (.int .i64 1) (.held v1)).put (.int .i64 6) (.held v6)).put (.int .i64 4) (.held v4)).put (.int .i64 10) (.held v4)):=by
  intro k;have m0:IsMap (DataW.map []:DataW Value):=isMap_empty;have m1:=m0.put (.int .i64 1) (.held v1);have m2:=m1.put (.int .i64 6) (.held v6);have m3:=m2.put (.int .i64 4) (.held v4);have ne:∀ {a b:Int},a≠b→(Lit.int .i64 a)≠.int .i64 b:=fun h e=>h (by injection e)
  unfold wyF
  by_cases h10:k=10
  · subst h10;rw [atKey_put_same m3 (by simp [WideAt.IsKeyLit])]
    rfl
  · rw [atKey_put_other (ne h10)]
    by_cases h4:k=4
    · subst h4;rw [atKey_put_same m2 (by simp [WideAt.IsKeyLit])]
      rfl
    · rw [atKey_put_other (ne h4)]
      by_cases h6:k=6
      · subst h6;rw [atKey_put_same m1 (by simp [WideAt.IsKeyLit])]
        rfl
      · rw [atKey_put_other (ne h6)]
        by_cases h1:k=1
        · subst h1;rw [atKey_put_same m0 (by simp [WideAt.IsKeyLit])]
          rfl
        · rw [atKey_put_other (ne h1),if_neg h1,if_neg h6,if_neg (by omega)]
          rfl
theorem always_any (v:Value) (z:Int) (w:World) (n c:Nat) (a:Option Addr) (hv:v=.slice a n c):Calls Tryz.prog 190 #[v,.int .i64 z] w fun e w'=>e=.returned (.bool true)∧Below w.heap.size w w':=by
  subst hv
  go_enter Tryz.func190,Tryz.ntmps190
  go_wp2_with fail;go_ret;exact ⟨rfl,Below.refl _ _⟩
def Gmw (w wr:World) (n:Nat) (D:DataW Value) (rows:List (Value × List Wy)):Prop:=
  wr.ownsMap Tryz.prog 3 hE (w.heap.size+1) n D∧Below w.heap.size w wr∧w.heap.size+2≤wr.heap.size∧∀ r∈rows,Wys wr r.1 r.2∧∃ b c,r.1=.slice (some ⟨b,0,none⟩) r.2.length c∧b≠w.heap.size+1
theorem Gmw.start (w:World) (L:List Wy) (ty:TypeId):Gmw w ((w.alloc (.cells (wcls L).toArray ty)).alloc (.map #[] 0)) 0 (.map []) [(.slice (some ⟨w.heap.size,0,none⟩) L.length L.length,L)]:=by
  have h1:=z0b w (.cells (wcls L).toArray ty);have hs:(w.alloc (.cells (wcls L).toArray ty)).heap.size=w.heap.size+1:=by simp
  refine ⟨?_,h1.alloc h1.size _,by simp,fun r hr=>?_⟩
  · rw [← hs];exact World.ownsMap_made _ _ _ _
  · obtain rfl:=List.mem_singleton.1 hr;exact ⟨(x7f w L ty).below (z0b _ _),_,_,rfl,by omega⟩
theorem Gmw.add {w wr:World} {n:Nat} {D:DataW Value} {rows:List (Value × List Wy)} (h:Gmw w wr n D rows) (L:List Wy) (ty:TypeId) :
    Gmw w (wr.alloc (.cells (wcls L).toArray ty)) n D ((.slice (some ⟨wr.heap.size,0,none⟩) L.length L.length,L)::rows):=by
  obtain ⟨h1,h2,h3,h4⟩:=h;refine ⟨h1.alloc _,h2.alloc h2.size _,by simp; omega,fun r hr=>?_⟩
  rcases List.mem_cons.1 hr with rfl | hr
  · exact ⟨x7f wr L ty,_,_,rfl,by omega⟩
  · obtain ⟨k1,k2⟩:=h4 r hr;exact ⟨k1.below (z0b _ _),k2⟩
theorem Gmw.set {w wr w1:World} {n m:Nat} {D D':DataW Value} {rows:List (Value × List Wy)} (h:Gmw w wr n D rows) (ho:w1.ownsMap Tryz.prog 3 hE (w.heap.size+1) m D') (hg:wr.grownBy w1 (some (w.heap.size+1))):Gmw w w1 m D' rows:=by
  obtain ⟨h1,h2,h3,h4⟩:=h;refine ⟨ho,h2.grown hg h2.size (fun k hk=>by injection hk with hk; omega),Nat.le_trans h3 hg.size,fun r hr=>?_⟩;obtain ⟨k1,b,c,k2,k3⟩:=h4 r hr;refine ⟨k1.grown hg (fun p c' e=>?_),b,c,k2,k3⟩;rw [k2] at e;injection e with e1 _ _;injection e1 with e1;rw [← e1];exact k3
theorem Gmw.ins {w wr:World} {n:Nat} {D:DataW Value} {rows:List (Value × List Wy)} (h:Gmw w wr n D rows) (hn:n<maxLen) (k:Int) (hk:(Lit.int .i64 k).wf=true) (v:Value) :
    ∃ w1,(Instr.mapUpdate 151 (.map (some (w.heap.size+1))) (.int .i64 k) v).run Tryz.prog wr=.ok () w1∧Gmw w w1 (n+1) (D.put (.int .i64 k) (.held v)) rows:=by
  obtain ⟨w1,h1,h2,h3⟩:=h.1.update lawI Tryz.underlying151 hn (keyI k hk) (ps:=[]) (show hE v=some (.held v,[]) from rfl);exact ⟨w1,h1,h.set h2 h3⟩
theorem ways_any (w:World) :
    Calls Tryz.prog 121 #[] w fun e w'=>∃ b v1 v6 v4,e=.returned (.map (some b))∧(∃ D,w'.ownsMap Tryz.prog 3 hE b 4 D∧WD (wyF v1 v6 v4) D)∧
      Wys w' v1 [(1,190)]∧Wys w' v6 [(2,190),(3,190)]∧Wys w' v4 [(4,190),(5,191)]∧Below w.heap.size w w':=by
  have hmm:=@run_makeMap Tryz.prog;have G0:=(Gmw.start w [(4,190),(5,191)] 154).add [(1,190)] 154;rw [show ((w.alloc (.cells (wcls [(4,190),(5,191)]).toArray 154)).alloc (.map #[] 0)).heap.size=w.heap.size+1+1 by simp] at G0;obtain ⟨w1,r1,G1⟩:=G0.ins (by decide) 1 (by decide) (.slice (some ⟨w.heap.size+1+1,0,none⟩) 1 1);obtain ⟨w2,r2,G2⟩:=(G1.add [(2,190),(3,190)] 154).ins (by decide) 6 (by decide) (.slice (some ⟨w1.heap.size,0,none⟩) 2 2);obtain ⟨w3,r3,G3⟩:=G2.ins (by decide) 4 (by decide) (.slice (some ⟨w.heap.size,0,none⟩) 2 2);obtain ⟨w4,r4,G4⟩:=G3.ins (by decide) 10 (by decide) (.slice (some ⟨w.heap.size,0,none⟩) 2 2)
  change (Instr.mapUpdate 151 (.map (some (w.heap.size+1))) (.int .i64 1) (.slice (some ⟨w.heap.size+1+1,0,none⟩) 1 1)).run Tryz.prog
    (((w.alloc (.cells #[.int .i64 4,.func (.func 190) #[] #[],.int .i64 5,.func (.func 191) #[] #[]] 154)).alloc (.map #[] 0)).alloc (.cells #[.int .i64 1,.func (.func 190) #[] #[]] 154))=_ at r1
  change (Instr.mapUpdate 151 (.map (some (w.heap.size+1))) (.int .i64 6) (.slice (some ⟨w1.heap.size,0,none⟩) 2 2)).run Tryz.prog
    (w1.alloc (.cells #[.int .i64 2,.func (.func 190) #[] #[],.int .i64 3,.func (.func 190) #[] #[]] 154))=_ at r2
  have HG:=Lib.hid G4;clear G0 G1 G2 G3 G4
  go_enter Tryz.func121,Tryz.ntmps121
  go_wp2_with fail;go_ret;obtain ⟨h1,h2,-,h4⟩:=HG.out;refine ⟨_,.slice (some ⟨w.heap.size+1+1,0,none⟩) 1 1,.slice (some ⟨w1.heap.size,0,none⟩) 2 2,.slice (some ⟨w.heap.size,0,none⟩) 2 2,rfl,⟨_,h1,wd_all _ _ _⟩,?_,?_,?_,h2⟩
  · exact (h4 _ (List.mem_cons_of_mem _ (List.mem_cons_self ..))).1
  · exact (h4 _ (List.mem_cons_self ..)).1
  · exact (h4 _ (List.mem_cons_of_mem _ (List.mem_cons_of_mem _ (List.mem_cons_self ..)))).1
end Me
namespace Me
open Go Go.RowKit Rw YtpingbiibbmcaaaGreatDoor.So Se Do
def In64 (n:Int):Prop:=-9223372036854775808≤n∧n≤9223372036854775807
def txC:Array Value:=#[.string ⟨#[]⟩,.string ⟨#[100,111]⟩,.string ⟨#[108,101,102,116]⟩,.string ⟨#[114,105,103,104,116]⟩,.string ⟨#[103,111]⟩,.string ⟨#[115,116,111,112]⟩]
def Tx (w:World):Prop:=w.var? Tryz.prog "redress/move.texts"=some txC∧Lib.TabIs Tryz.prog w "internal/strconv.uint64pow10" .u64 Lib.pow10Tab
end Me
namespace St
open Go Go.RowKit Rw YtpingbiibbmcaaaGreatDoor.So Se Do Sp Me
theorem nds_nil (w:World):Nds w (.slice none 0 0) []:=⟨rfl,none,0,rfl,Nat.le_refl _,fun _=>⟨rfl,rfl⟩,fun h=>absurd h (Nat.lt_irrefl 0)⟩
end St
end Go.Proofs.YtpingbiibbmcaaaGreatDoor
namespace Go.Proofs.YtpingbiibbmcaaaGreatDoor.Ru
open Go Go.RowKit Go.ChangeShapes Go.WideShapes Rw Me
set_option maxRecDepth 100000
theorem in64_wf {n:Int} (h:(Lit.int .i64 n).wf=true):In64 n:=by
  have hmin:IntKind.i64.min=-9223372036854775808:=rfl;have hmax:IntKind.i64.max=9223372036854775807:=rfl;simp only [Lit.wf,Bool.and_eq_true,decide_eq_true_eq] at h;unfold In64;omega
theorem bInt:Tryz.prog.bytesOf 3=8:=by kernel_rfl
theorem cInt1:Tryz.prog.cellsOf 3=1:=by kernel_rfl
section
variable {H:Type} {enc:TypeId × Value→H} {W:World} {base:Nat} {v:Value} {d:DataW H} {p:List MemPlace}
def numsD (l:List Int) (d:DataW H):Prop:=(l=[]∧d=.nil)∨∃ r:List Int,d=.slice (lits .i64 l) (lits .i64 r)
theorem x2a {l:List Int} (hd:numsD l d) (h:(d.weights Tryz.prog 23).all (·≤reachBytes)=true):l.length≤17592186044416:=by
  rcases hd with ⟨rfl,_⟩ | ⟨r,rfl⟩
  · exact Nat.zero_le _
  · rw [DataW.weights,Tryz.underlying23] at h;simp only [List.all_cons,List.all_append,Bool.and_eq_true,bInt] at h;have h1:=h.1;simp [reachBytes,lits] at h1;omega
theorem y3k (hok:Value.okWide Tryz.prog W .any base 23 v) (h:DataW.Trod enc Tryz.prog W 0 (fun _=>true) true 23 v d p):∃ l:List Int,Ints W v l∧(∀ z∈l,In64 z)∧numsD l d:=by
  obtain ⟨a,len,cap,rfl⟩:=okWide_slice Tryz.underlying23 hok;obtain ⟨fuel,hf⟩:=h
  rcases open_ints Tryz.underlying23 Tryz.underlying3 cInt1 hf with ⟨hcs,hx⟩ | ⟨x,l,c,zs,hcs,_,hl,hm,hz,hx,hcell,hwz⟩
  · simp [Value.cells] at hcs;obtain ⟨rfl,rfl,rfl⟩:=hcs;exact ⟨[],⟨rfl,none,0,rfl,Nat.le_refl _,fun _=>⟨rfl,rfl⟩,fun h=>absurd h (by simp)⟩,(fun _ h=>by cases h),.inl ⟨rfl,(Prod.mk.inj hx).1⟩⟩
  · simp [Value.cells] at hcs;obtain ⟨rfl,rfl,rfl⟩:=hcs;have hz':zs.length=cap:=by simpa using hz
    have hlen:(zs.take len).length=len:=by simp; omega
    refine ⟨zs.take len,⟨by simp,some x,cap,by rw [hlen],by omega,fun h=>(by cases h),fun h0=>?_⟩,fun n hn=>in64_wf (hwz n (List.mem_of_mem_take hn)),.inr ⟨zs.drop len,(Prod.mk.inj hx).1⟩⟩;rw [hlen] at h0;obtain ⟨b,off,spot⟩:=x;have hc:=hcell 0 (by omega);have hspot:spot=none:=by simpa [Addr.add] using World.cell?_spot hc
    subst hspot;refine ⟨b,off,rfl,fun j u hu=>?_⟩;rw [List.getElem?_map,Option.map_eq_some_iff] at hu;obtain ⟨n,hn',rfl⟩:=hu;obtain ⟨hj',rfl⟩:=List.getElem?_eq_some_iff.1 hn';rw [hlen] at hj';have:=hcell j (by omega);rw [Addr.add_lit] at this;rw [this,List.getElem_take];simp [List.getD,show j<zs.length by omega]
end
end Go.Proofs.YtpingbiibbmcaaaGreatDoor.Ru
namespace Go.Proofs.YtpingbiibbmcaaaGreatDoor
namespace Me
open Go Go.RowKit Go.Maps Go.WideMaps Rw YtpingbiibbmcaaaGreatDoor.So Se Do
def wyM (z:Int) (B:Wy→Bool) (L:List Wy):List Mv:=(L.filter B).map fun p=>⟨z,p.1⟩
theorem wyM_take {z:Int} {B:Wy→Bool} {L:List Wy} {k:Nat} (h:k<L.length):wyM z B (L.take (k+1))=if B L[k]=true then wyM z B (L.take k)++[⟨z,L[k].1⟩] else wyM z B (L.take k):=by
  unfold wyM;rw [List.take_succ_eq_append_getElem h,List.filter_append,List.map_append]
  cases hb:B L[k] <;> simp [hb]
def wyL (k:Int):List Wy:=if k=1 then [(1,190)] else if k=6 then [(2,190),(3,190)] else [(4,190),(5,191)]
theorem wyL_of {w:World} {v1 v6 v4:Value} (h1:Wys w v1 (wyL 1)) (h6:Wys w v6 (wyL 6)) (h4:Wys w v4 (wyL 4)) (k:Int) (hk:k=1∨k=6∨k=4∨k=10):Wys w (wyF v1 v6 v4 k) (wyL k):=by
  rcases hk with rfl | rfl | rfl | rfl
  · exact h1
  · exact h6
  · exact h4
  · exact h4
theorem wyL_in (k:Int):∀ p∈wyL k,p.2=190∨p.2=191:=by
  unfold wyL
  split
  · simp
  · split <;> simp
theorem wyL_len (k:Int):(wyL k).length≤2:=by
  unfold wyL
  split
  · simp
  · split <;> simp
def wyB (f:Bool) (p:Wy):Bool:=if p.2=190 then true else f
theorem wyL_hw (k z:Int) (f:Bool) (hk:k=1∨k=6∨k=4∨k=10):wyM z (wyB f) (wyL k)=hw k f z:=by
  rcases hk with rfl | rfl | rfl | rfl <;> cases f <;> rfl
theorem Wys.form {w:World} {v:Value} {l:List Wy} (h:Wys w v l) (hl:0<l.length) :
    ∃ b off cap,v=.slice (some ⟨b,off,none⟩) l.length cap∧l.length≤cap∧∀ k,(h:k<l.length)→w.cell? ⟨b,off+k*2,none⟩=some (.int .i64 l[k].1)∧w.cell? ⟨b,off+k*2+1,none⟩=some (.func (.func l[k].2) #[] #[]):=by
  obtain ⟨_,a,cap,rfl,hle,_,hcell⟩:=h;obtain ⟨b,off,rfl,hj⟩:=hcell hl;refine ⟨b,off,cap,rfl,hle,fun k hk=>?_⟩;obtain ⟨h1,h2⟩:=x7k l k hk;exact ⟨hj _ _ h1,by rw [Nat.add_assoc]; exact hj _ _ h2⟩
theorem z9v (v:Value) (l:List Nd) (z:Int) (w:World) (hv:Nds w v l) (hl:l.length≤1000) (hm:Nms l) (hz:z∈av l) :
    Calls Tryz.prog 68 #[v,.int .i64 z] w fun e w'=>∃ y,e=.returned y∧Mvs w' y (hw (kn l z) (fr l z) z)∧Below w.heap.size w w':=by
  have hk4:=av_kind hz;obtain ⟨z0,z1⟩:=av_in hz;obtain ⟨kz,rfl⟩:∃ k:Nat,z=k:=⟨z.toNat,by omega⟩
  have hkl:kz<l.length:=by omega
  have HF:Hid (∀ p∈wyL (kn l kz),∀ w1,Below w.heap.size w w1→Calls Tryz.prog p.2 #[v,.int .i64 (kz:Int)] w1 fun e w'=>e=.returned (.bool (wyB (fr l kz) p))∧Below w1.heap.size w1 w'):=Lib.hid fun p hp w1 hb=>by
    rcases wyL_in _ p hp with h | h
    · rw [h];obtain ⟨_,a,c,rfl,-⟩:=id hv;rw [show wyB (fr l kz) p=true from if_pos h];exact always_any _ _ w1 _ _ _ rfl
    · rw [h];rw [show wyB (fr l kz) p=fr l kz from if_neg (by rw [h]; decide)];exact freP_any v l kz w1 (hv.below hb) hl hm
  rw [← wyL_hw _ _ _ hk4]
  have HG:Hid (∀ p∈wyL (kn l kz),∀ args w,(callFunc p.2 args).run Tryz.prog w=.ok (.enter p.2 args) w):=Lib.hid fun p hp args w=>by
    rcases wyL_in _ p hp with h | h <;> rw [h] <;> simp [go_sem]
  have HW:Hid (∀ (w1:World) (v1 v6 v4:Value),Wys w1 v1 (wyL 1)→Wys w1 v6 (wyL 6)→Wys w1 v4 (wyL 4)→Wys w1 (wyF v1 v6 v4 (kn l kz)) (wyL (kn l kz))):=Lib.hid fun w1 v1 v6 v4 h1 h6 h4=>wyL_of h1 h6 h4 _ hk4
  have HLL:=wyL_len (kn l kz);have hkn:kn l kz=l[kz].k:=by unfold kn; rw [Int.toNat_natCast,List.getElem?_eq_getElem hkl]
  have hwf:(Lit.int .i64 (kn l kz)).wf=true:=by rcases hk4 with h | h | h | h <;> rw [h] <;> decide
  rcases hv.form with ⟨h0,_⟩ | ⟨b,off,c,rfl,hc,hat⟩
  · rw [h0] at hkl; simp at hkl
  have e0:=(hat kz hkl).1;rw [← hkn] at e0;obtain ⟨kk,hkk⟩:∃ kk,kn l kz=kk:=⟨_,rfl⟩
  rw [hkk] at HF HG HW HLL hwf e0;obtain ⟨L,hL⟩:∃ L,wyL kk=L:=⟨_,rfl⟩
  rw [hkk,hL];rw [hL] at HF HG HW HLL;obtain ⟨B,hB⟩:∃ B,wyB (fr l kz)=B:=⟨_,rfl⟩
  rw [hB] at HF ⊢;have hbl:b<w.heap.size:=Ap.z0a e0;have HWF:=Lib.hid hwf;have HE0:=Lib.hid e0;obtain ⟨n,hn⟩:∃ n,l.length=n:=⟨_,rfl⟩
  rw [hn] at hkl hl HF hc ⊢;clear hv hm hz hk4 z0 z1 hkn hat hkk hL hB hn hwf hc
  go_enter Tryz.func68,Tryz.ntmps68
  go_upto_region 2 with fail
  go_cut [14,15,16] (fun s14 s15 s16 wx=>∃ (a:Option Addr) (c':Nat) (wq:World),wq=wx∧s14=.slice a L.length c'∧s15=.int .i64 L.length∧s16=.int .i64 0∧Wys wq (.slice a L.length c') L∧Below w.heap.size w wq)
  case first=>
    clear HF HG
    go_region_with (first
      | (go_at_call 121
         (with_reducible refine (ways_any _).mono ?_)
         rintro e w1 ⟨bm,v1,v6,v4,rfl,⟨D,hD,hd⟩,h1,h6,h4,hb1⟩;have B1:=Lib.hid ((Below.refl w.heap.size w).drew.trans hb1);have hlook:=look hD hd kk HWF.out;have hws:=HW.out _ _ _ _ h1 h6 h4;obtain ⟨vr,hvr⟩:∃ vr,wyF v1 v6 v4 kk=vr:=⟨_,rfl⟩
         rw [hvr] at hlook hws;have WS:=Lib.hid hws;obtain ⟨_,ar,cr,rfl,-⟩:=hws;have c0:w1.cell? ⟨b,off+kz*3,none⟩=some (.int .i64 kk):=by rw [B1.out.cell (p:=⟨b,off+kz*3,none⟩) hbl]; exact HE0.out
         clear hD hd h1 h6 h4 hb1 hvr)
      | fail)
    all_goals go_wp2_with fail
    all_goals go_meet
    all_goals exact ⟨_,_,_,rfl,rfl,rfl,rfl,WS.out,B1.out⟩
  case rest=>
    obtain ⟨ar,cr,wq,rfl,rfl,rfl,rfl,hws,hbel⟩:=hcut;have WS:=Lib.hid hws;have BB:=Lib.hid hbel;clear hws hbel HW HWF HE0 e0;go_wp2_with fail
    go_loopw [5,16] (fun s i wr=>∃ (k:Nat) (a:Option Addr) (m cc:Nat) (os:List Mv),k≤L.length∧m≤k∧i=.int .i64 k∧s=.slice a m cc∧Hid (os.length=m)∧Hid (wyM kz B (L.take k)=os)∧Hid (GotM wq.heap.size wr (.slice a m cc) os)∧Hid (Below w.heap.size w wr)∧Hid (Below wq.heap.size wq wr)) (fun _ i _=>L.length-(intOf i).toNat)
    case atStart=>exact ⟨0,none,0,0,[],Nat.zero_le _,Nat.le_refl _,rfl,rfl,Lib.hid rfl,Lib.hid rfl,Lib.hid (GotM.start (Nat.le_refl _)),BB,Lib.hid (Below.refl _ _)⟩
    case round=>
      obtain ⟨k,a,m,cc,os,hk,hmk,rfl,rfl,HL,HO,HM,HD,HQ⟩:=hrel
      by_cases hlt:k<L.length
      · obtain ⟨bq,oq,cq,eq,-,hc⟩:=(WS.out.below HQ.out).form (by omega);obtain ⟨f1,f2⟩:=hc k hlt;injection eq with e1 _ e3;subst e1;subst e3;have HFk:=Lib.hid (HF.out _ (List.getElem_mem hlt));have eg:=HG.out _ (List.getElem_mem hlt);have HT:=Lib.hid (wyM_take (z:=(kz:Int)) (B:=B) hlt);obtain ⟨p,hp⟩:∃ p,L[k]=p:=⟨_,rfl⟩
        rw [hp] at f1 f2 HFk eg HT;obtain ⟨ph,pf⟩:=p;simp only at f1 f2 eg;obtain ⟨q,hq⟩:∃ q,B (ph,pf)=q:=⟨_,rfl⟩
        rw [hq] at HFk HT;have DW:=Lib.hid (HD.out.trans ((z0b wr (.cells #[.int .i64 ph,.func (.func pf) #[] #[]] 154)).mono HD.out.size));have GW:=Lib.hid (HM.out.below (z0b wr (.cells #[.int .i64 ph,.func (.func pf) #[] #[]] 154)));have QW:=Lib.hid (HQ.out.trans ((z0b wr (.cells #[.int .i64 ph,.func (.func pf) #[] #[]] 154)).mono HQ.out.size));have HC:=Lib.hid (HFk.out _ DW.out)
        have C7:Hid (∀ w2,Below (wr.alloc (.cells #[.int .i64 ph,.func (.func pf) #[] #[]] 154)).heap.size (wr.alloc (.cells #[.int .i64 ph,.func (.func pf) #[] #[]] 154)) w2→w2.cell? ⟨wr.heap.size,0,none⟩=some (.int .i64 ph)):=Lib.hid fun w2 hb=>by
          rw [hb.cell (p:=⟨wr.heap.size,0,none⟩) (by simp)];simp [go_sem]
        clear hc hp hq
        cases q with
        | true=>
          have HX:Hid (wyM kz B (L.take (k+1))=os++[⟨kz,ph⟩]):=by
            show _=_
            rw [HT.out,if_pos rfl,HO.out]
          go_wp2_with fail;refine HC.out.mono ?_;rintro e w2 ⟨rfl,hb2⟩;have c7:=C7.out _ hb2;have D2:=Lib.hid (DW.out.trans (hb2.mono DW.out.size));have Q2:=Lib.hid (QW.out.trans (hb2.mono QW.out.size));obtain ⟨v',w3,hrun,hgot,hb3⟩:=(GW.out.below hb2).new [⟨kz,ph⟩] (by rw [HL.out]; show m+1≤1000000; omega)
          obtain ⟨a',c',rfl⟩:∃ a' c',v'=.slice a' (m+1) c':=by
            obtain ⟨_,a',c',e',-⟩:=hgot.mvs;rw [List.length_append,HL.out] at e';exact ⟨a',c',e'⟩
          have HL':Hid ((os++[(⟨kz,ph⟩:Mv)]).length=m+1):=by
            show _=_
            rw [List.length_append,HL.out]
            rfl
          change (Builtin.append_ #[61,61] 61 #[.slice a m cc,.slice (some ⟨w2.heap.size,0,none⟩) 1 1]).run Tryz.prog (w2.alloc (.cells #[.int .i64 (kz:Int),.int .i64 ph] 71))=_ at hrun;have R:=Lib.hid hrun;have HG':=Lib.hid hgot;have D3:=Lib.hid (D2.out.trans (hb3.mono BB.out.size));have Q3:=Lib.hid (Q2.out.trans hb3);clear hrun hgot hb2 hb3;go_wp2_with (at_builtin; refine Ap.wpList_append_run (by rfl) (.tmp 25) (.tmp 30) _ _ rfl _ _ rfl rfl _ w3 R.out ?_)
          go_roundw
          case rel=>exact ⟨k+1,a',m+1,c',os++[⟨kz,ph⟩],by omega,by omega,by go_num,rfl,HL',HX,HG',D3,Q3⟩
          case measure=>simp [intOf]; omega
        | false=>
          have HX:Hid (wyM kz B (L.take (k+1))=os):=by
            show _=_
            rw [HT.out,if_neg (by decide),HO.out]
          go_wp2_with fail;refine HC.out.mono ?_;rintro e w2 ⟨rfl,hb2⟩;have D2:=Lib.hid (DW.out.trans (hb2.mono DW.out.size));have Q2:=Lib.hid (QW.out.trans (hb2.mono QW.out.size));have G2:=Lib.hid (GW.out.below hb2);clear hb2;go_wp2_with fail
          go_roundw
          case rel=>exact ⟨k+1,a,m,cc,os,by omega,by omega,by go_num,rfl,HL,HX,G2,D2,Q2⟩
          case measure=>simp [intOf]; omega
      · have HZ:Hid (wyM kz B L=os):=by
          have:=HO.out
          rwa [List.take_of_length_le (by omega)] at this
        go_wp2_with fail;go_ret;exact ⟨_,rfl,by rw [HZ.out]; exact HM.out.mvs,HD.out⟩
end Me
namespace Me
open Go Go.RowKit Rw YtpingbiibbmcaaaGreatDoor.So Se Do
def RTx (mp mh:Int) (s:ByteArray) (k:Nat) (v:Value) (_w':World):Prop:=match k with
  | 0=>v=.bool true
  | 1=>v=.bool true
  | 2=>v=.agg #[.int .i64 mp,.int .i64 mh]
  | 3=>v=.string s
  | 4=>v=.agg #[.int .i64 mp,.int .i64 mh]
  | 5=>v=.string s
  | 6=>v=.bool true
  | 7=>v=.bool true
  | 8=>v=.bool true
  | _=>True
def RPk (n0 c0:Nat) (a0:Option Addr) (xp xh mp mh:Int) (y:Bool) (k:Nat) (v:Value) (_w':World):Prop:=match k with
  | 0=>v=.bool true
  | 1=>v=.bool true
  | 2=>v=.agg #[.int .i64 xp,.int .i64 xh]
  | 3=>v=.agg #[.int .i64 xp,.int .i64 xh]
  | 4=>v=.bool true
  | 5=>v=.bool true
  | 6=>v=.bool true
  | 7=>v=.int .i64 0
  | 8=>v=.int .i64 0
  | 9=>v=.bool true
  | 10=>v=.bool true
  | 11=>v=.bool true
  | 12=>v=.slice a0 n0 c0
  | 13=>v=.agg #[.int .i64 mp,.int .i64 mh]
  | 14=>v=.bool y
  | 15=>v=.slice a0 n0 c0
  | 16=>v=.agg #[.int .i64 mp,.int .i64 mh]
  | 17=>v=.bool y
  | 18=>v=.bool true
  | 19=>v=.bool true
  | 20=>v=.bool true
  | 21=>v=.int .i64 0
  | 22=>v=.bool false
  | 23=>v=.bool false
  | 24=>v=.slice a0 n0 c0
  | 25=>v=.agg #[.int .i64 xp,.int .i64 xh]
  | 26=>v=.bool true
  | 27=>v=.bool true
  | 28=>v=.bool true
  | 29=>v=.bool true
  | _=>True
def RPn (n0 c0:Nat) (a0:Option Addr) (xp xh mp mh:Int) (y:Bool) (k:Nat) (v:Value) (_w':World):Prop:=match k with
  | 0=>v=.bool true
  | 1=>v=.bool true
  | 2=>v=.agg #[.int .i64 xp,.int .i64 xh]
  | 3=>v=.agg #[.int .i64 xp,.int .i64 xh]
  | 4=>v=.bool true
  | 5=>v=.bool true
  | 6=>v=.bool true
  | 7=>v=.int .i64 120
  | 8=>v=.int .i64 120
  | 9=>v=.bool true
  | 10=>v=.bool true
  | 11=>v=.bool true
  | 12=>v=.slice a0 n0 c0
  | 13=>v=.agg #[.int .i64 mp,.int .i64 mh]
  | 14=>v=.bool y
  | 15=>v=.slice a0 n0 c0
  | 16=>v=.agg #[.int .i64 mp,.int .i64 mh]
  | 17=>v=.bool y
  | 18=>v=.bool true
  | 19=>v=.bool true
  | 20=>v=.bool true
  | 21=>v=.int .i64 120
  | 22=>v=.bool true
  | 23=>v=.bool true
  | 24=>v=undef
  | 25=>v=undef
  | 26=>v=undef
  | 27=>v=.bool true
  | 28=>v=.bool true
  | 29=>v=.bool true
  | _=>True
end Me
namespace St
open Go Go.RowKit Rw YtpingbiibbmcaaaGreatDoor.So Se Do Sp Me

end St
namespace Me
open Go Go.RowKit Rw YtpingbiibbmcaaaGreatDoor.So Se Do
abbrev tA:Tm:=.par (.act ⟨#[97]⟩) .yield
abbrev tO:Tm:=.over 1
def WL:List Mv:=[⟨1,1⟩,⟨2,4⟩,⟨2,5⟩]
theorem gO:Goes tO:=⟨by decide +kernel,by decide,by decide⟩
theorem nA:Nf tA:=⟨trivial,trivial,rfl,rfl⟩
theorem enO:enR (flat tO)=[]:=by
  unfold enR;rw [show av (flat tO)=[] from x7a gO trivial]
  rfl
def RAl (bL:Nat) (k:Nat) (v:Value) (w':World):Prop:=match k with
  | 0=>v=.slice (some ⟨bL,0,none⟩) 3 3
  | 1=>Mvs w' v WL
  | 2=>v=.slice (some ⟨bL+1,0,none⟩) 3 3
  | 3=>v=.bool true
  | 4=>v=.bool true
  | 5=>v=.slice (some ⟨bL,0,none⟩) 3 3
  | 6=>v=.slice (some ⟨bL+1,0,none⟩) 3 3
  | 7=>v=.pointer (some ⟨bL+1,4,none⟩)
  | 8=>v=.agg #[.int .i64 2,.int .i64 5]
  | 9=>v=.bool true
  | 10=>v=.bool true
  | 11=>v=.bool true
  | 12=>v=.slice (some ⟨bL,0,none⟩) 3 3
  | 13=>v=.agg #[.int .i64 1,.int .i64 5]
  | 14=>v=.bool false
  | 15=>v=.bool true
  | 16=>v=.bool true
  | 17=>v=.bool true
  | 18=>v=.agg #[.int .i64 2,.int .i64 4]
  | 19=>v=.slice (some ⟨bL+1,0,none⟩) 3 3
  | 20=>v=.pointer (some ⟨bL+1,2,none⟩)
  | 21=>v=.agg #[.int .i64 2,.int .i64 4]
  | 22=>v=.bool true
  | 23=>v=.bool true
  | 24=>v=.bool true
  | 25=>v=.int .i64 0
  | 26=>v=.bool true
  | 27=>v=.bool true
  | 28=>v=.bool true
  | 29=>v=.agg #[.int .i64 2,.int .i64 5]
  | 30=>v=.slice (some ⟨bL+1,0,none⟩) 3 3
  | 31=>v=.pointer (some ⟨bL+1,4,none⟩)
  | 32=>v=.agg #[.int .i64 2,.int .i64 5]
  | 33=>v=.bool true
  | 34=>v=.bool true
  | 35=>v=.bool true
  | 36=>v=.int .i64 120
  | 37=>v=.bool true
  | 38=>v=.bool true
  | 39=>v=.bool true
  | 40=>v=.agg #[.int .i64 2,.int .i64 4]
  | 41=>v=.string ⟨#[103,111,32,50]⟩
  | 42=>v=.bool true
  | 43=>v=.bool true
  | 44=>v=.bool true
  | 45=>v=.agg #[.int .i64 0,.int .i64 9]
  | 46=>v=.string ⟨#[]⟩
  | 47=>v=.bool true
  | 48=>v=.bool true
  | 49=>v=.bool true
  | _=>True
theorem flat_tk {α β:Type} {f:α→List β} {l:List α} {k:Nat} (h:k<l.length):(l.take (k+1)).flatMap f=(l.take k).flatMap f++f l[k]:=by
  rw [List.take_succ_eq_append_getElem h,List.flatMap_append];simp
theorem z2i (v:Value) (l:List Nd) (w:World) (hv:Nds w v l) (hl:l.length≤1000) (hm:Nms l) :
    Calls Tryz.prog 34 #[v] w fun e w'=>∃ y,e=.returned y∧Mvs w' y (enR l)∧Below w.heap.size w w':=by
  have HA:=Lib.hid (y4v v l w hv hl hm);have HM:=Lib.hid (fun z (hz:z∈av l) w1 (hb:Below w.heap.size w w1)=>z9v v l z w1 (hv.below hb) hl hm hz);have HW:Hid (∀ z∈av l,(hw (kn l z) (fr l z) z).length≤2):=Lib.hid fun z _=>v2c _ _ _
  have hvl:(av l).length≤1000:=Nat.le_trans (x3o l) hl;unfold enR;obtain ⟨f,hf⟩:∃ f:Int→List Mv,(fun z=>hw (kn l z) (fr l z) z)=f:=⟨_,rfl⟩
  have hfz:∀ z,hw (kn l z) (fr l z) z=f z:=fun z=>congrFun hf z
  simp only [hfz] at HM HW;rw [hf];obtain ⟨_,a0,c0,rfl,-⟩:=id hv;generalize av l=V at HA HM HW hvl ⊢;clear hv hm hf hfz
  go_enter Tryz.func34,Tryz.ntmps34
  go_wp2_with fail;refine HA.out.mono ?_;rintro e w1 ⟨y,rfl,hi,hb1⟩;have D1:=Lib.hid hb1;have I1:=Lib.hid hi;obtain ⟨_,ay,cy,rfl,-⟩:=id hi;clear hb1 hi;go_wp2_with fail
  go_loopw [3,9] (fun s i wr=>∃ (k:Nat) (a:Option Addr) (m cc:Nat) (os:List Mv),k≤V.length∧m≤2*k∧i=.int .i64 k∧s=.slice a m cc∧Hid (os.length=m)∧Hid ((V.take k).flatMap f=os)∧Hid (GotM w1.heap.size wr (.slice a m cc) os)∧Hid (Below w1.heap.size w1 wr)) (fun _ i _=>V.length-(intOf i).toNat)
  case atStart=>exact ⟨0,none,0,0,[],Nat.zero_le _,Nat.zero_le _,rfl,rfl,Lib.hid rfl,Lib.hid rfl,Lib.hid (GotM.start (Nat.le_refl _)),Lib.hid (Below.refl _ _)⟩
  case round=>
    obtain ⟨k,a,m,cc,os,hk,hmk,rfl,rfl,HL,HO,HG,HD⟩:=hrel
    by_cases hlt:k<V.length
    · rcases (I1.out.below HD.out).form with ⟨h0,_⟩ | ⟨bq,oq,cq,eq,_,hat⟩
      · rw [h0] at hlt; simp at hlt
      have e1:=hat k hlt;injection eq with q1 _ q3;subst q1;subst q3;have DW:=Lib.hid (D1.out.trans (HD.out.mono D1.out.size));have HMk:=Lib.hid (HM.out _ (List.getElem_mem hlt) wr DW.out);have HWk:=Lib.hid (HW.out _ (List.getElem_mem hlt));have HT:=Lib.hid (flat_tk (f:=f) hlt);obtain ⟨z,hz⟩:∃ z,V[k]=z:=⟨_,rfl⟩
      rw [hz] at e1 HMk HWk HT;obtain ⟨R,hR⟩:∃ R,f z=R:=⟨_,rfl⟩
      rw [hR] at HMk HWk HT;clear hat hz hR;go_wp2_with fail;refine HMk.out.mono ?_;rintro e w2 ⟨y2,rfl,hy2,hb2⟩;have hwl:R.length≤2:=HWk.out;obtain ⟨v',w3,hrun,hgot,hb3⟩:=(HG.out.below hb2).row hy2 (by rw [HL.out]; omega);have D3:=Lib.hid ((HD.out.trans (hb2.mono HD.out.size)).trans hb3);obtain ⟨r,hr⟩:∃ r,R.length=r:=⟨_,rfl⟩
      obtain ⟨a',c',rfl⟩:∃ a' c',v'=.slice a' (m+r) c':=by
        obtain ⟨_,a',c',e',-⟩:=hgot.mvs;rw [List.length_append,HL.out,hr] at e';exact ⟨a',c',e'⟩
      have HX:Hid ((V.take (k+1)).flatMap f=os++R):=by
        show _=_
        rw [HT.out,HO.out]
      have HL':Hid ((os++R).length=m+r):=by
        show _=_
        rw [List.length_append,HL.out,hr]
      have HRL:Hid (r≤2):=Lib.hid (by omega);have HRUN:=Lib.hid hrun;have HG':=Lib.hid hgot;obtain ⟨_,ay2,cy2,rfl,-⟩:=id hy2;clear hrun hgot hb2 hb3 hwl hy2;rw [hr] at HRUN;have HR:=Lib.hid hr;rw [hr];clear hr;go_wp2_with (at_builtin; refine Ap.wpList_append_run (by rfl) (.tmp 13) (.tmp 16) _ _ rfl _ _ rfl rfl _ w3 HRUN.out ?_)
      go_roundw
      case rel=>exact ⟨k+1,a',m+r,c',os++R,by omega,by have:=HRL.out; omega,by go_num,rfl,HL',HX,HG',D3⟩
      case measure=>simp [intOf]; omega
    · have HZ:Hid (V.flatMap f=os):=by
        have:=HO.out
        rwa [List.take_of_length_le (by omega)] at this
      go_wp2_with fail;go_ret;exact ⟨_,rfl,by rw [HZ.out]; exact HG.out.mvs,D1.out.trans (HD.out.mono D1.out.size)⟩
end Me
end Go.Proofs.YtpingbiibbmcaaaGreatDoor
