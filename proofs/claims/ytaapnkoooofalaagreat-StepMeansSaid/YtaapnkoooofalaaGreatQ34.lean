/- Laws that the last text leans on. -/
import Derived.Test.YtaapnkoooofalaaGreatQ33
import Derived.Lib.LaidTab
import Derived.Laws.EntriesVeiled

set_option maxRecDepth 20000
set_option maxHeartbeats 4000000
namespace Go.Proofs.YtaapnkoooofalaaGreat
namespace St
open Go Go.RowKit Rw So Se Do Sp Me
def RNx (b off n c p bM:Nat) (hh:Int) (nm:ByteArray) (U R Z:List Nd) (k:Nat) (v:Value) (w':World):Prop:=match k with
  | 0=>v=.slice (some ⟨b,off,none⟩) n c
  | 1=>v=.pointer (some ⟨bM,0,none⟩)
  | 2=>v=.int .i64 (p:Int)
  | 3=>v=.slice (some ⟨b,off,none⟩) n c
  | 4=>v=.pointer (some ⟨bM,0,none⟩)
  | 5=>v=.int .i64 (p:Int)
  | 6=>v=.slice (some ⟨b,off+p*3,none⟩) (n-p) (c-p)
  | 7=>v=.pointer (some ⟨bM,1,none⟩)
  | 8=>v=.int .i64 hh
  | 9=>Nds w' v U
  | 10=>Nds w' v R
  | 11=>Nds w' v Z
  | 12=>v=.string nm
  | 13=>Nds w' v Z
  | 14=>v=.string nm
  | 15=>v=.int .i64 0
  | _=>True
def RRf (b off n c p bM:Nat) (U R Z:List Nd) (k:Nat) (v:Value) (w':World):Prop:=match k with
  | 0=>v=.slice (some ⟨b,off,none⟩) n c
  | 1=>v=.pointer (some ⟨bM,0,none⟩)
  | 2=>v=.int .i64 (p:Int)
  | 3=>Nds w' v U
  | 4=>Nds w' v R
  | 5=>Nds w' v Z
  | 6=>Nds w' v Z
  | 7=>v=.int .i64 0
  | _=>True
end St
namespace Me
open Go Go.RowKit Go.Maps Go.WideMaps Rw So Se Do
abbrev Wy:=Int × Nat
def wcls:List Wy→List Value
  | []=>[]
  | p::l=>.int .i64 p.1::.func (.func p.2) #[] #[]::wcls l
theorem y9s:∀ l:List Wy,(wcls l).length=l.length*2
  | []=>rfl
  | p::l=>by simp [wcls,y9s l]; omega
theorem x5f:∀ (l:List Wy) (k:Nat) (h:k<l.length),(wcls l)[k*2]?=some (.int .i64 l[k].1)∧(wcls l)[k*2+1]?=some (.func (.func l[k].2) #[] #[])
  | [],k,h=>by simp at h
  | x::l,0,_=>⟨rfl,rfl⟩
  | x::l,k+1,h=>by
    have:=x5f l k (by simpa using h)
    simpa [wcls,show (k+1)*2=k*2+1+1 by omega] using this
def Wys (w:World) (v:Value) (l:List Wy):Prop:=Ap.Rd w 2 v l.length (wcls l)
theorem Wys.below {w w':World} {v:Value} {l:List Wy} (h:Wys w v l) (hb:Below w.heap.size w w'):Wys w' v l:=Ap.Rd.below h hb
theorem x4z (w:World) (l:List Wy) (ty:TypeId):Wys (w.alloc (.cells (wcls l).toArray ty)) (.slice (some ⟨w.heap.size,0,none⟩) l.length l.length) l:=by
  refine ⟨y9s l,some ⟨w.heap.size,0,none⟩,l.length,rfl,Nat.le_refl _,fun h=>(by cases h),fun _=>⟨w.heap.size,0,rfl,fun j u hu=>?_⟩⟩;rw [Nat.zero_add,World.cell?_alloc_new]
  simpa using hu
theorem Wys.grown {w w':World} {b:Nat} {v:Value} {l:List Wy} (h:Wys w v l) (hg:w.grownBy w' (some b)) (hb:∀ p c,v=.slice (some p) l.length c→p.block≠b):Wys w' v l:=by
  obtain ⟨hn,a,cap,rfl,hle,h0,hcell⟩:=h;refine ⟨hn,a,cap,rfl,hle,h0,fun hp=>?_⟩;obtain ⟨c,off,rfl,hj⟩:=hcell hp;refine ⟨c,off,rfl,fun j u hu=>?_⟩;have hc:=hj j u hu;exact hg.cell hc (fun e=>hb _ _ rfl (Option.some.inj e))
def wyF (v1 v6 v4:Value) (k:Int):Value:=if k=1 then v1 else if k=6 then v6 else if k=4∨k=10 then v4 else .slice none 0 0
theorem wd_all (v1 v6 v4:Value):WD (wyF v1 v6 v4) (((((DataW.map []).put (.int .i64 1) (.held v1)).put (.int .i64 6) (.held v6)).put (.int .i64 4) (.held v4)).put (.int .i64 10) (.held v4)):=by
  intro k;have m0:IsMap (DataW.map []:DataW Value):=isMap_empty;have m1:=m0.put (.int .i64 1) (.held v1);have m2:=m1.put (.int .i64 6) (.held v6);have m3:=m2.put (.int .i64 4) (.held v4);have ne:∀ {a b:Int},a≠b→(Lit.int .i64 a)≠.int .i64 b:=fun h e=>h (by injection e)
  unfold wyF
  by_cases h10:k=10
  · subst h10;rw [atKey_put_same m3 (by simp [WideAt.IsKeyLit])]
    rfl
  · rw [atKey_put_other (ne h10)]
    by_cases h4:k=4
    · subst h4;rw [atKey_put_same m2 (by simp [WideAt.IsKeyLit])]
      rfl
    · rw [atKey_put_other (ne h4)]
      by_cases h6:k=6
      · subst h6;rw [atKey_put_same m1 (by simp [WideAt.IsKeyLit])]
        rfl
      · rw [atKey_put_other (ne h6)]
        by_cases h1:k=1
        · subst h1;rw [atKey_put_same m0 (by simp [WideAt.IsKeyLit])]
          rfl
        · rw [atKey_put_other (ne h1),if_neg h1,if_neg h6,if_neg (by omega)]
          rfl
theorem always_any (v:Value) (z:Int) (w:World) (n c:Nat) (a:Option Addr) (hv:v=.slice a n c):Calls Tryz.prog 100 #[v,.int .i64 z] w fun e w'=>e=.returned (.bool true)∧Below w.heap.size w w':=by
  subst hv
  go_enter Tryz.func100,Tryz.ntmps100
  go_wp2_with fail;go_ret;exact ⟨rfl,Below.refl _ _⟩
def Gmw (w wr:World) (n:Nat) (D:DataW Value) (rows:List (Value × List Wy)):Prop:=
  wr.ownsMap Tryz.prog 3 hE (w.heap.size+1) n D∧Below w.heap.size w wr∧w.heap.size+2≤wr.heap.size∧∀ r∈rows,Wys wr r.1 r.2∧∃ b c,r.1=.slice (some ⟨b,0,none⟩) r.2.length c∧b≠w.heap.size+1
theorem Gmw.start (w:World) (L:List Wy) (ty:TypeId):Gmw w ((w.alloc (.cells (wcls L).toArray ty)).alloc (.map #[] 0)) 0 (.map []) [(.slice (some ⟨w.heap.size,0,none⟩) L.length L.length,L)]:=by
  have h1:=z0f w (.cells (wcls L).toArray ty);have hs:(w.alloc (.cells (wcls L).toArray ty)).heap.size=w.heap.size+1:=by simp
  refine ⟨?_,h1.alloc h1.size _,by simp,fun r hr=>?_⟩
  · rw [← hs];exact World.ownsMap_made _ _ _ _
  · obtain rfl:=List.mem_singleton.1 hr;exact ⟨(x4z w L ty).below (z0f _ _),_,_,rfl,by omega⟩
theorem Gmw.add {w wr:World} {n:Nat} {D:DataW Value} {rows:List (Value × List Wy)} (h:Gmw w wr n D rows) (L:List Wy) (ty:TypeId) :
    Gmw w (wr.alloc (.cells (wcls L).toArray ty)) n D ((.slice (some ⟨wr.heap.size,0,none⟩) L.length L.length,L)::rows):=by
  obtain ⟨h1,h2,h3,h4⟩:=h;refine ⟨h1.alloc _,h2.alloc h2.size _,by simp; omega,fun r hr=>?_⟩
  rcases List.mem_cons.1 hr with rfl | hr
  · exact ⟨x4z wr L ty,_,_,rfl,by omega⟩
  · obtain ⟨k1,k2⟩:=h4 r hr;exact ⟨k1.below (z0f _ _),k2⟩
theorem Gmw.set {w wr w1:World} {n m:Nat} {D D':DataW Value} {rows:List (Value × List Wy)} (h:Gmw w wr n D rows) (ho:w1.ownsMap Tryz.prog 3 hE (w.heap.size+1) m D') (hg:wr.grownBy w1 (some (w.heap.size+1))):Gmw w w1 m D' rows:=by
  obtain ⟨h1,h2,h3,h4⟩:=h;refine ⟨ho,h2.grown hg h2.size (fun k hk=>by injection hk with hk; omega),Nat.le_trans h3 hg.size,fun r hr=>?_⟩;obtain ⟨k1,b,c,k2,k3⟩:=h4 r hr;refine ⟨k1.grown hg (fun p c' e=>?_),b,c,k2,k3⟩;rw [k2] at e;injection e with e1 _ _;injection e1 with e1;rw [← e1];exact k3
theorem Gmw.ins {w wr:World} {n:Nat} {D:DataW Value} {rows:List (Value × List Wy)} (h:Gmw w wr n D rows) (hn:n<maxLen) (k:Int) (hk:(Lit.int .i64 k).wf=true) (v:Value) :
    ∃ w1,(Instr.mapUpdate 87 (.map (some (w.heap.size+1))) (.int .i64 k) v).run Tryz.prog wr=.ok () w1∧Gmw w w1 (n+1) (D.put (.int .i64 k) (.held v)) rows:=by
  obtain ⟨w1,h1,h2,h3⟩:=h.1.update lawI Tryz.underlying87 hn (keyI k hk) (ps:=[]) (show hE v=some (.held v,[]) from rfl);exact ⟨w1,h1,h.set h2 h3⟩
theorem ways_any (w:World) :
    Calls Tryz.prog 68 #[] w fun e w'=>∃ b v1 v6 v4,e=.returned (.map (some b))∧(∃ D,w'.ownsMap Tryz.prog 3 hE b 4 D∧WD (wyF v1 v6 v4) D)∧
      Wys w' v1 [(1,100)]∧Wys w' v6 [(2,100),(3,100)]∧Wys w' v4 [(4,100),(5,101)]∧Below w.heap.size w w':=by
  have hmm:=@run_makeMap Tryz.prog;have G0:=(Gmw.start w [(4,100),(5,101)] 91).add [(1,100)] 91;rw [show ((w.alloc (.cells (wcls [(4,100),(5,101)]).toArray 91)).alloc (.map #[] 0)).heap.size=w.heap.size+1+1 by simp] at G0;obtain ⟨w1,r1,G1⟩:=G0.ins (by decide) 1 (by decide) (.slice (some ⟨w.heap.size+1+1,0,none⟩) 1 1);obtain ⟨w2,r2,G2⟩:=(G1.add [(2,100),(3,100)] 91).ins (by decide) 6 (by decide) (.slice (some ⟨w1.heap.size,0,none⟩) 2 2);obtain ⟨w3,r3,G3⟩:=G2.ins (by decide) 4 (by decide) (.slice (some ⟨w.heap.size,0,none⟩) 2 2);obtain ⟨w4,r4,G4⟩:=G3.ins (by decide) 10 (by decide) (.slice (some ⟨w.heap.size,0,none⟩) 2 2)
  change (Instr.mapUpdate 87 (.map (some (w.heap.size+1))) (.int .i64 1) (.slice (some ⟨w.heap.size+1+1,0,none⟩) 1 1)).run Tryz.prog
    (((w.alloc (.cells #[.int .i64 4,.func (.func 100) #[] #[],.int .i64 5,.func (.func 101) #[] #[]] 91)).alloc (.map #[] 0)).alloc (.cells #[.int .i64 1,.func (.func 100) #[] #[]] 91))=_ at r1
  change (Instr.mapUpdate 87 (.map (some (w.heap.size+1))) (.int .i64 6) (.slice (some ⟨w1.heap.size,0,none⟩) 2 2)).run Tryz.prog
    (w1.alloc (.cells #[.int .i64 2,.func (.func 100) #[] #[],.int .i64 3,.func (.func 100) #[] #[]] 91))=_ at r2
  have HG:=Lib.hid G4;clear G0 G1 G2 G3 G4
  go_enter Tryz.func68,Tryz.ntmps68
  go_wp2_with fail;go_ret;obtain ⟨h1,h2,-,h4⟩:=HG.out;refine ⟨_,.slice (some ⟨w.heap.size+1+1,0,none⟩) 1 1,.slice (some ⟨w1.heap.size,0,none⟩) 2 2,.slice (some ⟨w.heap.size,0,none⟩) 2 2,rfl,⟨_,h1,wd_all _ _ _⟩,?_,?_,?_,h2⟩
  · exact (h4 _ (List.mem_cons_of_mem _ (List.mem_cons_self ..))).1
  · exact (h4 _ (List.mem_cons_self ..)).1
  · exact (h4 _ (List.mem_cons_of_mem _ (List.mem_cons_of_mem _ (List.mem_cons_self ..)))).1
end Me
namespace Me
open Go Go.RowKit Rw So Se Do
def txC:Array Value:=#[.string ⟨#[]⟩,.string ⟨#[100,111]⟩,.string ⟨#[108,101,102,116]⟩,.string ⟨#[114,105,103,104,116]⟩,.string ⟨#[103,111]⟩,.string ⟨#[115,116,111,112]⟩]
def Tx (w:World):Prop:=w.var? Tryz.prog "redress/move.texts"=some txC∧Lib.TabIs Tryz.prog w "internal/strconv.uint64pow10" .u64 Lib.pow10Tab
end Me
namespace St
open Go Go.RowKit Rw So Se Do Sp Me
theorem nds_nil (w:World):Nds w (.slice none 0 0) []:=⟨rfl,none,0,rfl,Nat.le_refl _,fun _=>⟨rfl,rfl⟩,fun h=>absurd h (Nat.lt_irrefl 0)⟩
end St
end Go.Proofs.YtaapnkoooofalaaGreat
namespace Go.Proofs.YtaapnkoooofalaaGreat.Me
set_option maxRecDepth 100000
open Go Go.RowKit Go.ChangeShapes Go.WideShapes Rw
section
variable {H:Type} {enc:TypeId × Value→H} {W:World} {base:Nat} {v:Value} {d:DataW H} {p:List MemPlace}
end
end Go.Proofs.YtaapnkoooofalaaGreat.Me
namespace Go.Proofs.YtaapnkoooofalaaGreat
namespace Me
open Go Go.RowKit Go.Maps Go.WideMaps Rw So Se Do
def wyM (z:Int) (B:Wy→Bool) (L:List Wy):List Mv:=(L.filter B).map fun p=>⟨z,p.1⟩
theorem wyM_take {z:Int} {B:Wy→Bool} {L:List Wy} {k:Nat} (h:k<L.length):wyM z B (L.take (k+1))=if B L[k]=true then wyM z B (L.take k)++[⟨z,L[k].1⟩] else wyM z B (L.take k):=by
  unfold wyM;rw [List.take_succ_eq_append_getElem h,List.filter_append,List.map_append]
  cases hb:B L[k] <;> simp [hb]
def wyL (k:Int):List Wy:=if k=1 then [(1,100)] else if k=6 then [(2,100),(3,100)] else [(4,100),(5,101)]
theorem wyL_of {w:World} {v1 v6 v4:Value} (h1:Wys w v1 (wyL 1)) (h6:Wys w v6 (wyL 6)) (h4:Wys w v4 (wyL 4)) (k:Int) (hk:k=1∨k=6∨k=4∨k=10):Wys w (wyF v1 v6 v4 k) (wyL k):=by
  rcases hk with rfl | rfl | rfl | rfl
  · exact h1
  · exact h6
  · exact h4
  · exact h4
theorem wyL_in (k:Int):∀ p∈wyL k,p.2=100∨p.2=101:=by
  unfold wyL
  split
  · simp
  · split <;> simp
theorem wyL_len (k:Int):(wyL k).length≤2:=by
  unfold wyL
  split
  · simp
  · split <;> simp
def wyB (f:Bool) (p:Wy):Bool:=if p.2=100 then true else f
theorem wyL_hw (k z:Int) (f:Bool) (hk:k=1∨k=6∨k=4∨k=10):wyM z (wyB f) (wyL k)=hw k f z:=by
  rcases hk with rfl | rfl | rfl | rfl <;> cases f <;> rfl
theorem Wys.form {w:World} {v:Value} {l:List Wy} (h:Wys w v l) (hl:0<l.length) :
    ∃ b off cap,v=.slice (some ⟨b,off,none⟩) l.length cap∧l.length≤cap∧∀ k,(h:k<l.length)→w.cell? ⟨b,off+k*2,none⟩=some (.int .i64 l[k].1)∧w.cell? ⟨b,off+k*2+1,none⟩=some (.func (.func l[k].2) #[] #[]):=by
  obtain ⟨_,a,cap,rfl,hle,_,hcell⟩:=h;obtain ⟨b,off,rfl,hj⟩:=hcell hl;refine ⟨b,off,cap,rfl,hle,fun k hk=>?_⟩;obtain ⟨h1,h2⟩:=x5f l k hk;exact ⟨hj _ _ h1,by rw [Nat.add_assoc]; exact hj _ _ h2⟩
theorem z9l (v:Value) (l:List Nd) (z:Int) (w:World) (hv:Nds w v l) (hl:l.length≤1000) (hm:Nms l) (hz:z∈av l) :
    Calls Tryz.prog 40 #[v,.int .i64 z] w fun e w'=>∃ y,e=.returned y∧Mvs w' y (hw (kn l z) (fr l z) z)∧Below w.heap.size w w':=by
  have hk4:=av_kind hz;obtain ⟨z0,z1⟩:=av_in hz;obtain ⟨kz,rfl⟩:∃ k:Nat,z=k:=⟨z.toNat,by omega⟩
  have hkl:kz<l.length:=by omega
  have HF:Hid (∀ p∈wyL (kn l kz),∀ w1,Below w.heap.size w w1→Calls Tryz.prog p.2 #[v,.int .i64 (kz:Int)] w1 fun e w'=>e=.returned (.bool (wyB (fr l kz) p))∧Below w1.heap.size w1 w'):=Lib.hid fun p hp w1 hb=>by
    rcases wyL_in _ p hp with h | h
    · rw [h];obtain ⟨_,a,c,rfl,-⟩:=id hv;rw [show wyB (fr l kz) p=true from if_pos h];exact always_any _ _ w1 _ _ _ rfl
    · rw [h];rw [show wyB (fr l kz) p=fr l kz from if_neg (by rw [h]; decide)];exact x1g v l kz w1 (hv.below hb) hl hm
  rw [← wyL_hw _ _ _ hk4]
  have HG:Hid (∀ p∈wyL (kn l kz),∀ args w,(callFunc p.2 args).run Tryz.prog w=.ok (.enter p.2 args) w):=Lib.hid fun p hp args w=>by
    rcases wyL_in _ p hp with h | h <;> rw [h] <;> simp [go_sem]
  have HW:Hid (∀ (w1:World) (v1 v6 v4:Value),Wys w1 v1 (wyL 1)→Wys w1 v6 (wyL 6)→Wys w1 v4 (wyL 4)→Wys w1 (wyF v1 v6 v4 (kn l kz)) (wyL (kn l kz))):=Lib.hid fun w1 v1 v6 v4 h1 h6 h4=>wyL_of h1 h6 h4 _ hk4
  have HLL:=wyL_len (kn l kz);have hkn:kn l kz=l[kz].k:=by unfold kn; rw [Int.toNat_natCast,List.getElem?_eq_getElem hkl]
  have hwf:(Lit.int .i64 (kn l kz)).wf=true:=by rcases hk4 with h | h | h | h <;> rw [h] <;> decide
  rcases hv.form with ⟨h0,_⟩ | ⟨b,off,c,rfl,hc,hat⟩
  · rw [h0] at hkl; simp at hkl
  have e0:=(hat kz hkl).1;rw [← hkn] at e0;obtain ⟨kk,hkk⟩:∃ kk,kn l kz=kk:=⟨_,rfl⟩
  rw [hkk] at HF HG HW HLL hwf e0;obtain ⟨L,hL⟩:∃ L,wyL kk=L:=⟨_,rfl⟩
  rw [hkk,hL];rw [hL] at HF HG HW HLL;obtain ⟨B,hB⟩:∃ B,wyB (fr l kz)=B:=⟨_,rfl⟩
  rw [hB] at HF ⊢;have hbl:b<w.heap.size:=Ap.z0a e0;have HWF:=Lib.hid hwf;have HE0:=Lib.hid e0;obtain ⟨n,hn⟩:∃ n,l.length=n:=⟨_,rfl⟩
  rw [hn] at hkl hl HF hc ⊢;clear hv hm hz hk4 z0 z1 hkn hat hkk hL hB hn hwf hc
  go_enter Tryz.func40,Tryz.ntmps40
  go_upto_region 2 with fail
  go_cut [14,15,16] (fun s14 s15 s16 wx=>∃ (a:Option Addr) (c':Nat) (wq:World),wq=wx∧s14=.slice a L.length c'∧s15=.int .i64 L.length∧s16=.int .i64 0∧Wys wq (.slice a L.length c') L∧Below w.heap.size w wq)
  case first=>
    clear HF HG
    go_region_with (first
      | (go_at_call 68
         (with_reducible refine (ways_any _).mono ?_)
         rintro e w1 ⟨bm,v1,v6,v4,rfl,⟨D,hD,hd⟩,h1,h6,h4,hb1⟩;have B1:=Lib.hid ((Below.refl w.heap.size w).drew.trans hb1);have hlook:=look hD hd kk HWF.out;have hws:=HW.out _ _ _ _ h1 h6 h4;obtain ⟨vr,hvr⟩:∃ vr,wyF v1 v6 v4 kk=vr:=⟨_,rfl⟩
         rw [hvr] at hlook hws;have WS:=Lib.hid hws;obtain ⟨_,ar,cr,rfl,-⟩:=hws;have c0:w1.cell? ⟨b,off+kz*3,none⟩=some (.int .i64 kk):=by rw [B1.out.cell (p:=⟨b,off+kz*3,none⟩) hbl]; exact HE0.out
         clear hD hd h1 h6 h4 hb1 hvr)
      | fail)
    all_goals go_wp2_with fail
    all_goals go_meet
    all_goals exact ⟨_,_,_,rfl,rfl,rfl,rfl,WS.out,B1.out⟩
  case rest=>
    obtain ⟨ar,cr,wq,rfl,rfl,rfl,rfl,hws,hbel⟩:=hcut;have WS:=Lib.hid hws;have BB:=Lib.hid hbel;clear hws hbel HW HWF HE0 e0;go_wp2_with fail
    go_loopw [5,16] (fun s i wr=>∃ (k:Nat) (a:Option Addr) (m cc:Nat) (os:List Mv),k≤L.length∧m≤k∧i=.int .i64 k∧s=.slice a m cc∧Hid (os.length=m)∧Hid (wyM kz B (L.take k)=os)∧Hid (GotM wq.heap.size wr (.slice a m cc) os)∧Hid (Below w.heap.size w wr)∧Hid (Below wq.heap.size wq wr)) (fun _ i _=>L.length-(intOf i).toNat)
    case atStart=>exact ⟨0,none,0,0,[],Nat.zero_le _,Nat.le_refl _,rfl,rfl,Lib.hid rfl,Lib.hid rfl,Lib.hid (GotM.start (Nat.le_refl _)),BB,Lib.hid (Below.refl _ _)⟩
    case round=>
      obtain ⟨k,a,m,cc,os,hk,hmk,rfl,rfl,HL,HO,HM,HD,HQ⟩:=hrel
      by_cases hlt:k<L.length
      · obtain ⟨bq,oq,cq,eq,-,hc⟩:=(WS.out.below HQ.out).form (by omega);obtain ⟨f1,f2⟩:=hc k hlt;injection eq with e1 _ e3;subst e1;subst e3;have HFk:=Lib.hid (HF.out _ (List.getElem_mem hlt));have eg:=HG.out _ (List.getElem_mem hlt);have HT:=Lib.hid (wyM_take (z:=(kz:Int)) (B:=B) hlt);obtain ⟨p,hp⟩:∃ p,L[k]=p:=⟨_,rfl⟩
        rw [hp] at f1 f2 HFk eg HT;obtain ⟨ph,pf⟩:=p;simp only at f1 f2 eg;obtain ⟨q,hq⟩:∃ q,B (ph,pf)=q:=⟨_,rfl⟩
        rw [hq] at HFk HT;have DW:=Lib.hid (HD.out.trans ((z0f wr (.cells #[.int .i64 ph,.func (.func pf) #[] #[]] 91)).mono HD.out.size));have GW:=Lib.hid (HM.out.below (z0f wr (.cells #[.int .i64 ph,.func (.func pf) #[] #[]] 91)));have QW:=Lib.hid (HQ.out.trans ((z0f wr (.cells #[.int .i64 ph,.func (.func pf) #[] #[]] 91)).mono HQ.out.size));have HC:=Lib.hid (HFk.out _ DW.out)
        have C7:Hid (∀ w2,Below (wr.alloc (.cells #[.int .i64 ph,.func (.func pf) #[] #[]] 91)).heap.size (wr.alloc (.cells #[.int .i64 ph,.func (.func pf) #[] #[]] 91)) w2→w2.cell? ⟨wr.heap.size,0,none⟩=some (.int .i64 ph)):=Lib.hid fun w2 hb=>by
          rw [hb.cell (p:=⟨wr.heap.size,0,none⟩) (by simp)];simp [go_sem]
        clear hc hp hq
        cases q with
        | true=>
          have HX:Hid (wyM kz B (L.take (k+1))=os++[⟨kz,ph⟩]):=by
            show _=_
            rw [HT.out,if_pos rfl,HO.out]
          go_wp2_with fail;refine HC.out.mono ?_;rintro e w2 ⟨rfl,hb2⟩;have c7:=C7.out _ hb2;have D2:=Lib.hid (DW.out.trans (hb2.mono DW.out.size));have Q2:=Lib.hid (QW.out.trans (hb2.mono QW.out.size));obtain ⟨v',w3,hrun,hgot,hb3⟩:=(GW.out.below hb2).new [⟨kz,ph⟩] (by rw [HL.out]; show m+1≤1000000; omega)
          obtain ⟨a',c',rfl⟩:∃ a' c',v'=.slice a' (m+1) c':=by
            obtain ⟨_,a',c',e',-⟩:=hgot.mvs;rw [List.length_append,HL.out] at e';exact ⟨a',c',e'⟩
          have HL':Hid ((os++[(⟨kz,ph⟩:Mv)]).length=m+1):=by
            show _=_
            rw [List.length_append,HL.out]
            rfl
          change (Builtin.append_ #[38,38] 38 #[.slice a m cc,.slice (some ⟨w2.heap.size,0,none⟩) 1 1]).run Tryz.prog (w2.alloc (.cells #[.int .i64 (kz:Int),.int .i64 ph] 24))=_ at hrun;have R:=Lib.hid hrun;have HG':=Lib.hid hgot;have D3:=Lib.hid (D2.out.trans (hb3.mono BB.out.size));have Q3:=Lib.hid (Q2.out.trans hb3);clear hrun hgot hb2 hb3;go_wp2_with (at_builtin; refine Ap.wpList_append_run (by rfl) (.tmp 25) (.tmp 30) _ _ rfl _ _ rfl rfl _ w3 R.out ?_)
          go_roundw
          case rel=>exact ⟨k+1,a',m+1,c',os++[⟨kz,ph⟩],by omega,by omega,by go_num,rfl,HL',HX,HG',D3,Q3⟩
          case measure=>simp [intOf]; omega
        | false=>
          have HX:Hid (wyM kz B (L.take (k+1))=os):=by
            show _=_
            rw [HT.out,if_neg (by decide),HO.out]
          go_wp2_with fail;refine HC.out.mono ?_;rintro e w2 ⟨rfl,hb2⟩;have D2:=Lib.hid (DW.out.trans (hb2.mono DW.out.size));have Q2:=Lib.hid (QW.out.trans (hb2.mono QW.out.size));have G2:=Lib.hid (GW.out.below hb2);clear hb2;go_wp2_with fail
          go_roundw
          case rel=>exact ⟨k+1,a,m,cc,os,by omega,by omega,by go_num,rfl,HL,HX,G2,D2,Q2⟩
          case measure=>simp [intOf]; omega
      · have HZ:Hid (wyM kz B L=os):=by
          have:=HO.out
          rwa [List.take_of_length_le (by omega)] at this
        go_wp2_with fail;go_ret;exact ⟨_,rfl,by rw [HZ.out]; exact HM.out.mvs,HD.out⟩
end Me
namespace Me
open Go Go.RowKit Rw So Se Do
def RTx (mp mh:Int) (s:ByteArray) (k:Nat) (v:Value) (_w':World):Prop:=match k with
  | 0=>v=.bool true
  | 1=>v=.bool true
  | 2=>v=.agg #[.int .i64 mp,.int .i64 mh]
  | 3=>v=.string s
  | 4=>v=.agg #[.int .i64 mp,.int .i64 mh]
  | 5=>v=.string s
  | 6=>v=.bool true
  | 7=>v=.bool true
  | 8=>v=.bool true
  | _=>True
def RPk (n0 c0:Nat) (a0:Option Addr) (xp xh mp mh:Int) (y:Bool) (k:Nat) (v:Value) (_w':World):Prop:=match k with
  | 0=>v=.bool true
  | 1=>v=.bool true
  | 2=>v=.agg #[.int .i64 xp,.int .i64 xh]
  | 3=>v=.agg #[.int .i64 xp,.int .i64 xh]
  | 4=>v=.bool true
  | 5=>v=.bool true
  | 6=>v=.bool true
  | 7=>v=.int .i64 0
  | 8=>v=.int .i64 0
  | 9=>v=.bool true
  | 10=>v=.bool true
  | 11=>v=.bool true
  | 12=>v=.slice a0 n0 c0
  | 13=>v=.agg #[.int .i64 mp,.int .i64 mh]
  | 14=>v=.bool y
  | 15=>v=.slice a0 n0 c0
  | 16=>v=.agg #[.int .i64 mp,.int .i64 mh]
  | 17=>v=.bool y
  | 18=>v=.bool true
  | 19=>v=.bool true
  | 20=>v=.bool true
  | 21=>v=.int .i64 0
  | 22=>v=.bool false
  | 23=>v=.bool false
  | 24=>v=.slice a0 n0 c0
  | 25=>v=.agg #[.int .i64 xp,.int .i64 xh]
  | 26=>v=.bool true
  | 27=>v=.bool true
  | 28=>v=.bool true
  | 29=>v=.bool true
  | _=>True
def RPn (n0 c0:Nat) (a0:Option Addr) (xp xh mp mh:Int) (y:Bool) (k:Nat) (v:Value) (_w':World):Prop:=match k with
  | 0=>v=.bool true
  | 1=>v=.bool true
  | 2=>v=.agg #[.int .i64 xp,.int .i64 xh]
  | 3=>v=.agg #[.int .i64 xp,.int .i64 xh]
  | 4=>v=.bool true
  | 5=>v=.bool true
  | 6=>v=.bool true
  | 7=>v=.int .i64 120
  | 8=>v=.int .i64 120
  | 9=>v=.bool true
  | 10=>v=.bool true
  | 11=>v=.bool true
  | 12=>v=.slice a0 n0 c0
  | 13=>v=.agg #[.int .i64 mp,.int .i64 mh]
  | 14=>v=.bool y
  | 15=>v=.slice a0 n0 c0
  | 16=>v=.agg #[.int .i64 mp,.int .i64 mh]
  | 17=>v=.bool y
  | 18=>v=.bool true
  | 19=>v=.bool true
  | 20=>v=.bool true
  | 21=>v=.int .i64 120
  | 22=>v=.bool true
  | 23=>v=.bool true
  | 24=>v=undef
  | 25=>v=undef
  | 26=>v=undef
  | 27=>v=.bool true
  | 28=>v=.bool true
  | 29=>v=.bool true
  | _=>True
end Me
namespace St
open Go Go.RowKit Rw So Se Do Sp Me
structure Con:Prop where
  put:∀ (v vx:Value) (l x:List Nd) (z:Int) (w:World),Nds w v l→Nds w vx x→l.length≤1000→x.length≤1000→Calls Tryz.prog 23 #[v,.int .i64 z,vx] w fun e w'=>∃ y,e=.returned y∧w'.ownsRow w.heap.size 36 3 y (putR l z x).length (cls (putR l z x))∧Below w.heap.size w w'
  nx:∀ (v:Value) (l:List Nd) (m:Mv) (w:World),Nds w v l→l.length≤1000→Nms l→Calls Tryz.prog 7 #[v,mvV m] w fun e w'=>∃ y,e=.returned (.tuple #[y,.string (nxS l m),.int .i64 (nxE l m)])∧Nds w' y (nxL l m)∧Below w.heap.size w w'
  rf:∀ (v:Value) (l:List Nd) (m:Mv) (w:World),Nds w v l→l.length≤1000→Nms l→Calls Tryz.prog 9 #[v,mvV m] w fun e w'=>∃ y,e=.returned (.tuple #[y,.int .i64 (rfE l m)])∧Nds w' y (rfL l m)∧Below w.heap.size w w'
def Alive:Prop:=∀ w:World,Calls Tryz.prog 6 #[] w fun e w'=>e=.returned (.bool true)∧Below w.heap.size w w'
theorem few_any (v:Value) (l:List Nd) (w:World) (h:Nds w v l) :
    Calls Tryz.prog 5 #[v] w fun e w'=>e=.returned (.bool (Do.fewB l))∧w=w':=by
  have hr:Do.fewB l=(decide (l.length≤100)&&decide (depth l≤24)):=rfl;rw [hr]
  by_cases h1:l.length≤100
  · have HD:=Lib.hid (x4c v l w h (by omega));obtain ⟨d,hd⟩:∃ d,depth l=d:=⟨_,rfl⟩
    rw [hd] at HD ⊢;rw [decide_eq_true h1,Bool.true_and];obtain ⟨_,a,cap,rfl,-⟩:=h;clear hr hd
    go_enter Tryz.func5,Tryz.ntmps5
    go_wp2_with fail;refine HD.out.mono ?_;rintro e w' ⟨rfl,rfl⟩;go_wp2_with fail;go_ret;exact ⟨ret_bool (decide_eq_decide.2 (by omega)),rfl⟩
  · rw [decide_eq_false h1,Bool.false_and];obtain ⟨_,a,cap,rfl,-⟩:=h;have h2:¬ (l.length:Int)≤100:=by omega
    clear hr
    go_enter Tryz.func5,Tryz.ntmps5
    go_wp2_with fail;go_ret;exact ⟨rfl,rfl⟩
end St
end Go.Proofs.YtaapnkoooofalaaGreat
namespace Go.Proofs.YtaapnkoooofalaaGreat.St
set_option maxRecDepth 100000
open Go Go.RowKit Go.ChangeShapes Go.WideShapes Rw Me
section
variable {H:Type} {enc:TypeId × Value→H} {W:World} {base:Nat} {v:Value} {d:DataW H} {p:List MemPlace}
end
end Go.Proofs.YtaapnkoooofalaaGreat.St
namespace Go.Proofs.YtaapnkoooofalaaGreat
namespace Me
open Go Go.RowKit Rw So Se Do
theorem flat_tk {α β:Type} {f:α→List β} {l:List α} {k:Nat} (h:k<l.length):(l.take (k+1)).flatMap f=(l.take k).flatMap f++f l[k]:=by
  rw [List.take_succ_eq_append_getElem h,List.flatMap_append];simp
theorem y6c (v:Value) (l:List Nd) (w:World) (hv:Nds w v l) (hl:l.length≤1000) (hm:Nms l) :
    Calls Tryz.prog 15 #[v] w fun e w'=>∃ y,e=.returned y∧Mvs w' y (enR l)∧Below w.heap.size w w':=by
  have HA:=Lib.hid (z8h v l w hv hl hm);have HM:=Lib.hid (fun z (hz:z∈av l) w1 (hb:Below w.heap.size w w1)=>z9l v l z w1 (hv.below hb) hl hm hz);have HW:Hid (∀ z∈av l,(hw (kn l z) (fr l z) z).length≤2):=Lib.hid fun z _=>hw_len _ _ _
  have hvl:(av l).length≤1000:=Nat.le_trans (v1j l) hl;unfold enR;obtain ⟨f,hf⟩:∃ f:Int→List Mv,(fun z=>hw (kn l z) (fr l z) z)=f:=⟨_,rfl⟩
  have hfz:∀ z,hw (kn l z) (fr l z) z=f z:=fun z=>congrFun hf z
  simp only [hfz] at HM HW;rw [hf];obtain ⟨_,a0,c0,rfl,-⟩:=id hv;generalize av l=V at HA HM HW hvl ⊢;clear hv hm hf hfz
  go_enter Tryz.func15,Tryz.ntmps15
  go_wp2_with fail;refine HA.out.mono ?_;rintro e w1 ⟨y,rfl,hi,hb1⟩;have D1:=Lib.hid hb1;have I1:=Lib.hid hi;obtain ⟨_,ay,cy,rfl,-⟩:=id hi;clear hb1 hi;go_wp2_with fail
  go_loopw [3,9] (fun s i wr=>∃ (k:Nat) (a:Option Addr) (m cc:Nat) (os:List Mv),k≤V.length∧m≤2*k∧i=.int .i64 k∧s=.slice a m cc∧Hid (os.length=m)∧Hid ((V.take k).flatMap f=os)∧Hid (GotM w1.heap.size wr (.slice a m cc) os)∧Hid (Below w1.heap.size w1 wr)) (fun _ i _=>V.length-(intOf i).toNat)
  case atStart=>exact ⟨0,none,0,0,[],Nat.zero_le _,Nat.zero_le _,rfl,rfl,Lib.hid rfl,Lib.hid rfl,Lib.hid (GotM.start (Nat.le_refl _)),Lib.hid (Below.refl _ _)⟩
  case round=>
    obtain ⟨k,a,m,cc,os,hk,hmk,rfl,rfl,HL,HO,HG,HD⟩:=hrel
    by_cases hlt:k<V.length
    · rcases (I1.out.below HD.out).form with ⟨h0,_⟩ | ⟨bq,oq,cq,eq,_,hat⟩
      · rw [h0] at hlt; simp at hlt
      have e1:=hat k hlt;injection eq with q1 _ q3;subst q1;subst q3;have DW:=Lib.hid (D1.out.trans (HD.out.mono D1.out.size));have HMk:=Lib.hid (HM.out _ (List.getElem_mem hlt) wr DW.out);have HWk:=Lib.hid (HW.out _ (List.getElem_mem hlt));have HT:=Lib.hid (flat_tk (f:=f) hlt);obtain ⟨z,hz⟩:∃ z,V[k]=z:=⟨_,rfl⟩
      rw [hz] at e1 HMk HWk HT;obtain ⟨R,hR⟩:∃ R,f z=R:=⟨_,rfl⟩
      rw [hR] at HMk HWk HT;clear hat hz hR;go_wp2_with fail;refine HMk.out.mono ?_;rintro e w2 ⟨y2,rfl,hy2,hb2⟩;have hwl:R.length≤2:=HWk.out;obtain ⟨v',w3,hrun,hgot,hb3⟩:=(HG.out.below hb2).row hy2 (by rw [HL.out]; omega);have D3:=Lib.hid ((HD.out.trans (hb2.mono HD.out.size)).trans hb3);obtain ⟨r,hr⟩:∃ r,R.length=r:=⟨_,rfl⟩
      obtain ⟨a',c',rfl⟩:∃ a' c',v'=.slice a' (m+r) c':=by
        obtain ⟨_,a',c',e',-⟩:=hgot.mvs;rw [List.length_append,HL.out,hr] at e';exact ⟨a',c',e'⟩
      have HX:Hid ((V.take (k+1)).flatMap f=os++R):=by
        show _=_
        rw [HT.out,HO.out]
      have HL':Hid ((os++R).length=m+r):=by
        show _=_
        rw [List.length_append,HL.out,hr]
      have HRL:Hid (r≤2):=Lib.hid (by omega);have HRUN:=Lib.hid hrun;have HG':=Lib.hid hgot;obtain ⟨_,ay2,cy2,rfl,-⟩:=id hy2;clear hrun hgot hb2 hb3 hwl hy2;rw [hr] at HRUN;have HR:=Lib.hid hr;rw [hr];clear hr;go_wp2_with (at_builtin; refine Ap.wpList_append_run (by rfl) (.tmp 13) (.tmp 16) _ _ rfl _ _ rfl rfl _ w3 HRUN.out ?_)
      go_roundw
      case rel=>exact ⟨k+1,a',m+r,c',os++R,by omega,by have:=HRL.out; omega,by go_num,rfl,HL',HX,HG',D3⟩
      case measure=>simp [intOf]; omega
    · have HZ:Hid (V.flatMap f=os):=by
        have:=HO.out
        rwa [List.take_of_length_le (by omega)] at this
      go_wp2_with fail;go_ret;exact ⟨_,rfl,by rw [HZ.out]; exact HG.out.mvs,D1.out.trans (HD.out.mono D1.out.size)⟩
abbrev tA:Tm:=.par (.act ⟨#[97]⟩) .yield
def WL:List Mv:=[⟨1,1⟩,⟨2,4⟩,⟨2,5⟩]
theorem gA:Goes tA:=⟨by decide +kernel,by decide,by decide⟩
theorem nA:Nf tA:=⟨trivial,trivial,rfl,rfl⟩
def RAl (bL:Nat) (k:Nat) (v:Value) (w':World):Prop:=match k with
  | 0=>v=.slice (some ⟨bL,0,none⟩) 3 3
  | 1=>Mvs w' v WL
  | 2=>v=.slice (some ⟨bL+1,0,none⟩) 3 3
  | 3=>v=.bool true
  | 4=>v=.bool true
  | 5=>v=.slice (some ⟨bL,0,none⟩) 3 3
  | 6=>v=.slice (some ⟨bL+1,0,none⟩) 3 3
  | 7=>v=.pointer (some ⟨bL+1,4,none⟩)
  | 8=>v=.agg #[.int .i64 2,.int .i64 5]
  | 9=>v=.bool true
  | 10=>v=.bool true
  | 11=>v=.bool true
  | 12=>v=.slice (some ⟨bL,0,none⟩) 3 3
  | 13=>v=.agg #[.int .i64 1,.int .i64 5]
  | 14=>v=.bool false
  | 15=>v=.bool true
  | 16=>v=.bool true
  | 17=>v=.bool true
  | 18=>v=.agg #[.int .i64 2,.int .i64 4]
  | 19=>v=.slice (some ⟨bL+1,0,none⟩) 3 3
  | 20=>v=.pointer (some ⟨bL+1,2,none⟩)
  | 21=>v=.agg #[.int .i64 2,.int .i64 4]
  | 22=>v=.bool true
  | 23=>v=.bool true
  | 24=>v=.bool true
  | 25=>v=.int .i64 0
  | 26=>v=.bool true
  | 27=>v=.bool true
  | 28=>v=.bool true
  | 29=>v=.agg #[.int .i64 2,.int .i64 5]
  | 30=>v=.slice (some ⟨bL+1,0,none⟩) 3 3
  | 31=>v=.pointer (some ⟨bL+1,4,none⟩)
  | 32=>v=.agg #[.int .i64 2,.int .i64 5]
  | 33=>v=.bool true
  | 34=>v=.bool true
  | 35=>v=.bool true
  | 36=>v=.int .i64 120
  | 37=>v=.bool true
  | 38=>v=.bool true
  | 39=>v=.bool true
  | 40=>v=.agg #[.int .i64 2,.int .i64 4]
  | 41=>v=.string ⟨#[103,111,32,50]⟩
  | 42=>v=.bool true
  | 43=>v=.bool true
  | 44=>v=.bool true
  | 45=>v=.agg #[.int .i64 0,.int .i64 9]
  | 46=>v=.string ⟨#[]⟩
  | 47=>v=.bool true
  | 48=>v=.bool true
  | 49=>v=.bool true
  | _=>True
theorem step0 {w0 w:World} (xp xh:Int) (D:Below w0.heap.size w0 w):Below w0.heap.size w0 (w.alloc (.cells #[.int .i64 xp,.int .i64 xh] 24))∧Bm (w.alloc (.cells #[.int .i64 xp,.int .i64 xh] 24)) w.heap.size ⟨xp,xh⟩:=
  ⟨D.trans ((z0f w _).mono D.size),Bm.new w ⟨xp,xh⟩⟩
end Me
end Go.Proofs.YtaapnkoooofalaaGreat
