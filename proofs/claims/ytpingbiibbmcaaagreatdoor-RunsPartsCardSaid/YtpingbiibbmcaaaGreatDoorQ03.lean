/- Laws that the last text leans on. -/
import Derived.ArgAppend
import Derived.Deep.AppendSrc
import Derived.Deep.Upon
import Derived.Maps.AppendAt
import Derived.Test.YtpingbiibbmcaaaGreatDoorQ02
import Derived.TacticsIn
import Derived.OrdersIn

namespace Go.Proofs.YtpingbiibbmcaaaGreatDoor
namespace Ap
open Go Go.RowKit
def Rd (w:World) (size:Nat) (v:Value) (n:Nat) (cs:List Value):Prop:=
  cs.length=n*size∧∃ a cap,v=.slice a n cap∧n≤cap∧(a=none→n=0∧cap=0)∧
    (0<n→∃ b off,a=some ⟨b,off,none⟩∧∀ j u,cs[j]?=some u→w.cell? ⟨b,off+j,none⟩=some u)
theorem z0a {w:World} {p:Addr} {u:Value} (h:w.cell? p=some u):p.block<w.heap.size:=
  Nat.lt_of_not_le fun hle=>by
    simp only [World.cell?] at h;rw [Array.getElem?_eq_none hle] at h
    cases h
theorem Rd.below {w w':World} {size n:Nat} {v:Value} {cs:List Value} (h:Rd w size v n cs) (hb:Below w.heap.size w w'):Rd w' size v n cs:=by
  obtain ⟨hl,a,cap,hv,hc,hn,hcell⟩:=h;refine ⟨hl,a,cap,hv,hc,hn,fun h0=>?_⟩;obtain ⟨b,off,ha,hj⟩:=hcell h0;refine ⟨b,off,ha,fun j u hu=>?_⟩;have:=hj j u hu;rw [hb.cell (z0a this)];exact this
theorem Rd.owned {w:World} {base size n:Nat} {e:TypeId} {v:Value} {cs:List Value} (h:w.ownsRow base e size v n cs):Rd w size v n cs:=by
  obtain ⟨hl,⟨rfl,rfl⟩ | ⟨g,cap,cur,rfl,_,hg,hnc,_,hcs,ht⟩⟩:=h
  · exact ⟨hl,none,0,rfl,Nat.le_refl _,fun _=>⟨rfl,rfl⟩,fun h=>absurd h (by omega)⟩
  · refine ⟨hl,some ⟨g,0,none⟩,cap,rfl,hnc,fun h=>(by cases h),fun _=>⟨g,0,rfl,fun j u hu=>?_⟩⟩
    have hj:j<n*size:=by
      rw [← hl];exact (List.getElem?_eq_some_iff.1 hu).1
    rw [← ht,List.getElem?_take_of_lt hj] at hu;simp only [World.cell?,hg,Nat.zero_add]
    simpa using hu
theorem Rd.src {P:Program} {w:World} {size n:Nat} {t e:TypeId} {v:Value} {cs:List Value} (ht:P.underlying t=some (.slice e)) (h:Rd w size v n cs) (h1:∀ u∈cs,u.oneCell'=true) :
    Src P size t v n cs w:=by
  obtain ⟨hl,a,cap,rfl,hc,hn,hcell⟩:=h
  cases a with
  | none=>
    obtain ⟨rfl,rfl⟩:=hn rfl;obtain rfl:cs=[]:=List.eq_nil_of_length_eq_zero (by simpa using hl);exact Src.ofNil w ht 0
  | some ad=>
    refine Src.ofSlice w ht ad n cap cs hl (fun j u hu=>?_) h1
    by_cases h0:0<n
    · obtain ⟨b,off,ha,hj⟩:=hcell h0
      cases ha
      rw [Addr.add_lit];exact hj j u hu
    · obtain rfl:n=0:=by omega
      obtain rfl:cs=[]:=List.eq_nil_of_length_eq_zero (by simpa using hl)
      cases hu
theorem z9d {P:Program} {w:World} {t ty e:TypeId} {i:TypeInfo} {z:Value} {size bytes:Nat} (ht:P.underlying t=some (.slice e)) (hi:P.info? e=some i) (hz:i.zero=some z)
    (hsize:i.size=size) (hby:i.bytes=bytes) (hzs:z.cells.size=size) (hsz:0<size) {a:Option Addr} {n m:Nat} {x:Value} {cs ds:List Value} (hs:Rd w size (.slice a n n) n cs) (hx:Rd w size x m ds) (h1:∀ u∈ds,u.oneCell'=true)
    (h63:n+m≤maxLen) (hbytes:(n+m)*bytes≤140737488355328) :
    ∃ v' w',(Builtin.append_ #[t,t] ty #[.slice a n n,x]).run P w=.ok v' w'∧Rd w' size v' (n+m) (cs++ds)∧Below w.heap.size w w':=by
  by_cases h0:m=0
  · subst h0;obtain rfl:ds=[]:=List.eq_nil_of_length_eq_zero (by simpa using hx.1);exact ⟨_,_,run_append_nothing w t t ty e i ht hi a n n (Nat.le_refl _) x (by rw [hsize]; exact hx.src ht h1),by simpa using hs,Below.refl _ _⟩
  · obtain ⟨hl,a1,c1,rfl,hc,hn,hcell⟩:=hx;obtain ⟨b1,o1,rfl,hj⟩:=hcell (by omega);have hj':∀ j u,ds[j]?=some u→w.cell? (Addr.add ⟨b1,o1,none⟩ j)=some u:=fun j u hu=>by rw [Addr.add_lit]; exact hj j u hu
    cases a with
    | none=>
      obtain ⟨hl0,a',cap',hv,hc',hn',_⟩:=hs
      cases hv
      obtain ⟨rfl,_⟩:=hn' rfl;obtain rfl:cs=[]:=List.eq_nil_of_length_eq_zero (by simpa using hl0);obtain ⟨v',w',hrun,hown,hg,_⟩:=run_append_own (P:=P) w w.heap.size t ty e i z size bytes ht hi hz hsize hby hzs hsz (.slice none 0 0) 0 [] ⟨by simp,.inl ⟨rfl,rfl⟩⟩ ⟨b1,o1,none⟩ m c1 ds hl hj' h1 h63 hbytes (Nat.le_refl _);exact ⟨v',w',hrun,Rd.owned hown,(Below.refl _ _).grown hg (Nat.le_refl _) (fun k hk=>by cases hk)⟩
    | some ad=>
      obtain ⟨hl0,a',cap',hv,hc',hn',hcell0⟩:=hs
      cases hv
      have holds:∀ j u,cs[j]?=some u→w.cell? (ad.add j)=some u:=fun j u hu=>by
        by_cases h00:0<n
        · obtain ⟨b,off,ha,hj0⟩:=hcell0 h00
          cases ha
          rw [Addr.add_lit];exact hj0 j u hu
        · obtain rfl:n=0:=by omega
          obtain rfl:cs=[]:=List.eq_nil_of_length_eq_zero (by simpa using hl0)
          cases hu
      obtain ⟨v',w',hrun,hown,hg⟩:=run_append_arg_grows (P:=P) w t ty e i z size bytes ht hi hz hsize hby hzs hsz ad n n cs hl0 holds ⟨b1,o1,none⟩ m c1 ds hl hj' (by omega) h63 hbytes;exact ⟨v',w',hrun,Rd.owned hown,(Below.refl _ _).grown hg (Nat.le_refl _) (fun k hk=>by cases hk)⟩
theorem own_below {w w':World} {base size n:Nat} {e:TypeId} {v:Value} {xs:List Value} (h:w.ownsRow base e size v n xs) (hb:Below w.heap.size w w'):w'.ownsRow base e size v n xs:=by
  obtain ⟨hl,h | ⟨g,cap,cur,hv,hg,hh,h1,h2,h3,h4⟩⟩:=h
  · exact ⟨hl,.inl h⟩
  · refine ⟨hl,.inr ⟨g,cap,cur,hv,hg,?_,h1,h2,h3,h4⟩⟩;rw [hb.block g]
    · exact hh
    · exact Nat.lt_of_not_le fun hle=>by
        rw [Array.getElem?_eq_none hle] at hh
        cases hh
theorem z3e {w:World} {base base' size n:Nat} {e:TypeId} {v:Value} {xs:List Value} (h:w.ownsRow base e size v n xs) (hb:base'≤base):w.ownsRow base' e size v n xs:=by
  obtain ⟨hl,h | ⟨g,cap,cur,hv,hg,hr⟩⟩:=h
  · exact ⟨hl,.inl h⟩
  · exact ⟨hl,.inr ⟨g,cap,cur,hv,Nat.le_trans hb hg,hr⟩⟩
def Fresh (w:World) (v v':Value):Prop:=v'.ownBlock=v.ownBlock∨∃ k,v'.ownBlock=some k∧w.heap.size≤k
def RdO (ok:Nat→Prop) (w:World) (size:Nat) (v:Value) (n:Nat) (cs:List Value):Prop:=
  cs.length=n*size∧∃ a cap,v=.slice a n cap∧n≤cap∧(a=none→n=0∧cap=0)∧
    (0<n→∃ b off,a=some ⟨b,off,none⟩∧ok b∧b<w.heap.size∧∀ j u,cs[j]?=some u→w.cell? ⟨b,off+j,none⟩=some u)
theorem RdO.rd {ok:Nat→Prop} {w:World} {size n:Nat} {v:Value} {cs:List Value} (h:RdO ok w size v n cs):Rd w size v n cs:=by
  obtain ⟨hl,a,cap,hv,hc,hn,hcell⟩:=h;refine ⟨hl,a,cap,hv,hc,hn,fun h0=>?_⟩;obtain ⟨b,off,ha,_,_,hj⟩:=hcell h0;exact ⟨b,off,ha,hj⟩
theorem RdO.imp {ok ok':Nat→Prop} {w:World} {size n:Nat} {v:Value} {cs:List Value} (h:RdO ok w size v n cs) (hi:∀ b,b<w.heap.size→ok b→ok' b):RdO ok' w size v n cs:=by
  obtain ⟨hl,a,cap,hv,hc,hn,hcell⟩:=h;refine ⟨hl,a,cap,hv,hc,hn,fun h0=>?_⟩;obtain ⟨b,off,ha,ho,hb,hj⟩:=hcell h0;exact ⟨b,off,ha,hi b hb ho,hb,hj⟩
theorem RdO.below {ok:Nat→Prop} {w w':World} {size n:Nat} {v:Value} {cs:List Value} (h:RdO ok w size v n cs) (hb:Below w.heap.size w w'):RdO ok w' size v n cs:=by
  obtain ⟨hl,a,cap,hv,hc,hn,hcell⟩:=h;refine ⟨hl,a,cap,hv,hc,hn,fun h0=>?_⟩;obtain ⟨b,off,ha,hne,hlt,hj⟩:=hcell h0;exact ⟨b,off,ha,hne,Nat.lt_of_lt_of_le hlt hb.size,fun j u hu=>by rw [hb.cell (p:=⟨b,off+j,none⟩) hlt]; exact hj j u hu⟩
theorem RdO.grow {ok:Nat→Prop} {w w':World} {v v' x:Value} {size n:Nat} {cs:List Value} (h:RdO (fun b=>ok b∧some b≠v.ownBlock) w size x n cs) (hg:w.grownBy w' v.ownBlock) (hf:Fresh w v v') :
    RdO (fun b=>ok b∧some b≠v'.ownBlock) w' size x n cs:=by
  obtain ⟨hl,a,cap,hv,hc,hn,hcell⟩:=h;refine ⟨hl,a,cap,hv,hc,hn,fun h0=>?_⟩;obtain ⟨b,off,ha,hne,hlt,hj⟩:=hcell h0;refine ⟨b,off,ha,⟨hne.1,?_⟩,Nat.lt_of_lt_of_le hlt hg.size,fun j u hu=>by rw [World.cell?_of_block (w:=w) (a:=⟨b,off+j,none⟩) (hg.block b hlt hne.2)]; exact hj j u hu⟩
  rcases hf with hf | ⟨k,hk,hlk⟩
  · rw [hf]; exact hne.2
  · rw [hk];intro e
    cases e
    omega
theorem RdO.fresh {w:World} {base size n:Nat} {e:TypeId} {v:Value} {cs:List Value} (h:w.ownsRow base e size v n cs):RdO (fun b=>base≤b) w size v n cs:=by
  obtain ⟨hl,⟨rfl,rfl⟩ | ⟨g',cap,cur,rfl,hb,hh,hnc,hcm,hcs,ht⟩⟩:=h
  · exact ⟨hl,none,0,rfl,Nat.le_refl _,fun _=>⟨rfl,rfl⟩,fun h=>absurd h (by omega)⟩
  · refine ⟨hl,some ⟨g',0,none⟩,cap,rfl,hnc,fun h=>(by cases h),fun _=>⟨g',0,rfl,hb,?_,fun j u hu=>?_⟩⟩
    · exact Nat.lt_of_not_le fun hle=>by
        rw [Array.getElem?_eq_none hle] at hh
        cases hh
    · have hj:j<n*size:=by
        rw [← hl];exact (List.getElem?_eq_some_iff.1 hu).1
      rw [← ht,List.getElem?_take_of_lt hj] at hu;simp only [World.cell?,hh,Nat.zero_add]
      simpa using hu
theorem RdO.of {w:World} {size n:Nat} {v:Value} {cs:List Value} (hs:0<size) (h:Rd w size v n cs):RdO (fun _=>True) w size v n cs:=by
  obtain ⟨hl,a,cap,hv,hc,hn,hcell⟩:=h;refine ⟨hl,a,cap,hv,hc,hn,fun h0=>?_⟩;obtain ⟨b,off,ha,hj⟩:=hcell h0;have hpos:0<cs.length:=by rw [hl]; exact Nat.mul_pos h0 hs
  exact ⟨b,off,ha,trivial,z0a (hj 0 _ (List.getElem?_eq_getElem hpos)),hj⟩
theorem y6b {w:World} {base size n:Nat} {e:TypeId} {v:Value} {xs:List Value} (h:w.ownsRow base e size v n xs):∀ k,v.ownBlock=some k→k<w.heap.size:=by
  obtain ⟨hl,⟨rfl,_⟩ | ⟨g,cap,cur,rfl,hg,hh,_⟩⟩:=h
  · intro k hk; cases hk
  · intro k hk
    cases hk
    exact Nat.lt_of_not_le fun hle=>by
      rw [Array.getElem?_eq_none hle] at hh
      cases hh
theorem z1f {P:Program} {w:World} {t ty e:TypeId} {i:TypeInfo} {z:Value} {size bytes:Nat} (ht:P.underlying t=some (.slice e)) (hi:P.info? e=some i) (hz:i.zero=some z)
    (hsize:i.size=size) (hby:i.bytes=bytes) (hzs:z.cells.size=size) (hsz:0<size) {base n:Nat} {v:Value} {xs:List Value} (hown:w.ownsRow base e size v n xs) (hbase:base≤w.heap.size)
    (cs:Array Value) (hcs:cs.size=size) (h1:∀ u∈cs.toList,u.oneCell'=true) (h63:n+1≤maxLen) (hbytes:(n+1)*bytes≤140737488355328) :
    ∃ v' w',(Builtin.append_ #[t,t] ty #[v,.slice (some ⟨w.heap.size,0,none⟩) 1 1]).run P (w.alloc (.cells cs e))=.ok v' w'∧w'.ownsRow base e size v' (n+1) (xs++cs.toList)∧w.grownBy w' v.ownBlock∧Below base w w'∧Fresh w v v':=by
  have hown':(w.alloc (.cells cs e)).ownsRow base e size v n xs:=own_below hown ((Below.refl _ _).alloc (Nat.le_refl _) _)
  obtain ⟨v',w',hrun,h2,h3,_,h5⟩:=run_append_own_at (P:=P) (w.alloc (.cells cs e)) base t ty e i z size bytes ht hi hz hsize hby hzs hsz v n xs hown' ⟨w.heap.size,0,none⟩ 1 1 cs.toList (by simpa using hcs)
    (fun j u hu=>by
      rw [Addr.add_lit]
      simpa using hu) h1 h63 hbytes (by simp; omega)
  have hg:w.grownBy w' v.ownBlock:=⟨h3.os,h3.tape,h3.output,Nat.le_trans (by simp) h3.size,fun k hk hne=>by rw [h3.block k (by simp; omega) hne]; exact Below.heap_alloc w _ k hk⟩
  refine ⟨v',w',hrun,h2,hg,(Below.refl _ _).grown hg hbase fun k hk=>?_,h5.imp id fun h=>⟨_,h,by simp⟩⟩;obtain ⟨_,⟨rfl,_⟩ | ⟨g,cap,cur,rfl,hg',_⟩⟩:=hown
  · cases hk
  · cases hk
    exact hg'
theorem z0t {P:Program} {w:World} {t ty e:TypeId} {i:TypeInfo} {z:Value} {size bytes:Nat} (ht:P.underlying t=some (.slice e)) (hi:P.info? e=some i) (hz:i.zero=some z)
    (hsize:i.size=size) (hby:i.bytes=bytes) (hzs:z.cells.size=size) (hsz:0<size) {base n m:Nat} {v x:Value} {xs ds:List Value} (hown:w.ownsRow base e size v n xs) (hbase:base≤w.heap.size)
    (hx:Rd w size x m ds) (h1:∀ u∈ds,u.oneCell'=true) (h63:n+m≤maxLen) (hbytes:(n+m)*bytes≤140737488355328) :
    ∃ v' w',(Builtin.append_ #[t,t] ty #[v,x]).run P w=.ok v' w'∧w'.ownsRow base e size v' (n+m) (xs++ds)∧w.grownBy w' v.ownBlock∧Below base w w'∧Fresh w v v':=by
  by_cases h0:m=0
  · subst h0;obtain rfl:ds=[]:=List.eq_nil_of_length_eq_zero (by simpa using hx.1)
    have hv:∃ a k c,v=.slice a k c∧k≤c:=by
      obtain ⟨_,⟨rfl,_⟩ | ⟨g,cap,cur,rfl,_,_,hc,_⟩⟩:=hown
      · exact ⟨none,0,0,rfl,Nat.le_refl _⟩
      · exact ⟨_,_,_,rfl,hc⟩
    obtain ⟨a,k,c,rfl,hkc⟩:=hv;exact ⟨_,_,run_append_nothing w t t ty e i ht hi a k c hkc x (by rw [hsize]; exact hx.src ht h1),by simpa using hown,⟨rfl,rfl,rfl,Nat.le_refl _,fun _ _ _=>rfl⟩,Below.refl _ _,.inl rfl⟩
  · obtain ⟨hl,a1,c1,rfl,hc,hn,hcell⟩:=hx;obtain ⟨b1,o1,rfl,hj⟩:=hcell (by omega);obtain ⟨v',w',hrun,h2,h3,_,h5⟩:=run_append_own_at (P:=P) w base t ty e i z size bytes ht hi hz hsize hby hzs hsz v n xs hown ⟨b1,o1,none⟩ m c1 ds hl (fun j u hu=>by rw [Addr.add_lit]; exact hj j u hu) h1 h63 hbytes hbase;refine ⟨v',w',hrun,h2,h3,(Below.refl _ _).grown h3 hbase fun k hk=>?_,h5.imp id fun h=>⟨_,h,Nat.le_refl _⟩⟩;obtain ⟨_,⟨rfl,_⟩ | ⟨g,cap,cur,rfl,hg',_⟩⟩:=hown
    · cases hk
    · cases hk
      exact hg'
theorem wpList_append_run {P:Program} {w:World} {ops:Array Oper} {rest:List Oper} {o:Oper} {a:Act} {Q:Exit→Act→World→Prop} (hw:Region.wanted o (yielded ops a.tmps)=true) (s x:Operand) (t tx:TypeId)
    (ho:o.op=.call { callee:=.builtin .append,args:=#[s,x],argTypes:=#[t,tx] }) (vs vx:Value) (hs:a.eval s=vs) (hx:a.eval x=vx) (v':Value) (w':World) (hrun:(Builtin.append_ #[t,tx] o.type #[vs,vx]).run P w=.ok v' w')
    (h:wpList P ops Q rest (a.put o.dst v') w'):wpList P ops Q (o::rest) a w:=by
  refine wpList_step fun K hK=>?_
  rw [if_pos hw];unfold Oper.wp;simp [execOp,ho,resolve,invoke,builtin,hs,hx,hrun,Result.andThen];exact hK _ _ h
end Ap
namespace Sg
open Go Go.RowKit
def isB (s:Int):Bool:=s==1||s==2||s==3
def both (a b:Int):Int:=
  if isB a&&isB b then (if a==2||b==2 then 2 else if a==3||b==3 then 3 else 1) else 0
def all (e:Int):List Int→Int
  | []=>e
  | x::r=>all (both e x) r
def txt (s:Int):ByteArray:=if s==1 then ⟨#[111,107]⟩ else if s==2 then ⟨#[33]⟩ else if s==3 then ⟨#[63]⟩ else ⟨#[]⟩
theorem z7t (s:Int):s=1∨s=2∨s=3∨(¬ s=1∧¬ s=2∧¬ s=3):=by omega
theorem y0c {s:Int} (h:¬ s=1∧¬ s=2∧¬ s=3):isB s=false:=by simp [isB,h]
theorem v1p {s:Int} (h:isB s=true):s=1∨s=2∨s=3:=by simpa [isB,or_assoc] using h
theorem y7o {a b:Int} (h:isB a=false):both a b=0:=by simp [both,h]
theorem y7n {a b:Int} (h:isB b=false):both a b=0:=by simp [both,h]
theorem all_append (e:Int) (l m:List Int):all e (l++m)=all (all e l) m:=by
  induction l generalizing e with
  | nil=>rfl
  | cons y r ih=>exact ih _
end Sg
namespace Tr
open Go
def ls (x y:ByteArray):Bool:=Op.bytesLess x.toList y.toList
theorem y7p:∀ x:List UInt8,Op.bytesLess x x=false
  | []=>rfl
  | a::x=>by simp [Op.bytesLess,y7p x]
theorem x3m:∀ x y z:List UInt8,Op.bytesLess x y=true→Op.bytesLess y z=true→Op.bytesLess x z=true
  | [],y,z,h1,h2=>by
    cases y <;> cases z <;> simp_all [Op.bytesLess]
  | a::x,y,z,h1,h2=>by
    cases y with
    | nil=>simp [Op.bytesLess] at h1
    | cons b y=>
      cases z with
      | nil=>simp [Op.bytesLess] at h2
      | cons c z=>
        simp only [Op.bytesLess,Bool.or_eq_true,decide_eq_true_eq,Bool.and_eq_true,beq_iff_eq] at h1 h2 ⊢
        rcases h1 with h1 | ⟨rfl,h1⟩
        · rcases h2 with h2 | ⟨rfl,h2⟩
          · exact .inl (UInt8.lt_trans h1 h2)
          · exact .inl h1
        · rcases h2 with h2 | ⟨rfl,h2⟩
          · exact .inl h2
          · exact .inr ⟨rfl,x3m x y z h1 h2⟩
theorem bl_tri:∀ x y:List UInt8,Op.bytesLess x y=false→Op.bytesLess y x=false→x=y
  | [],[],_,_=>rfl
  | [],_::_,h,_=>by simp [Op.bytesLess] at h
  | _::_,[],_,h=>by simp [Op.bytesLess] at h
  | a::x,b::y,h1,h2=>by
    simp only [Op.bytesLess,Bool.or_eq_false_iff,decide_eq_false_iff_not,Bool.and_eq_false_iff,beq_eq_false_iff_ne] at h1 h2;obtain ⟨h1,h1'⟩:=h1;obtain ⟨h2,h2'⟩:=h2
    have e:a=b:=by
      rw [UInt8.lt_iff_toNat_lt] at h1 h2;exact UInt8.toNat_inj.1 (by omega)
    subst e;rw [bl_tri x y (h1'.resolve_left (fun h=>h rfl)) (h2'.resolve_left (fun h=>h rfl))]
theorem toList_inj {x y:ByteArray} (h:x.toList=y.toList):x=y:=by
  rw [ByteArray.toList_eq,ByteArray.toList_eq] at h
  cases x; cases y
  simp at h;rw [h]
theorem z6d (x:ByteArray):ls x x=false:=y7p _
theorem x2g {x y z:ByteArray} (h1:ls x y=true) (h2:ls y z=true):ls x z=true:=x3m _ _ _ h1 h2
theorem x2f {x y:ByteArray} (h1:ls x y=false) (h2:ls y x=false):x=y:=toList_inj (bl_tri _ _ h1 h2)
theorem ls_asymm {x y:ByteArray} (h:ls x y=true):ls y x=false:=by
  cases h2:ls y x with
  | false=>rfl
  | true=>
    have:=x2g h h2;rw [z6d] at this
    cases this
def row:List ByteArray→List ByteArray→Int
  | x::a,y::b=>if ls x y then -1 else if ls y x then 1 else row a b
  | a,b=>(a.length:Int)-b.length
theorem z4i (b:List ByteArray):row [] b=- (b.length:Int):=by simp [row]
theorem z2f (a:List ByteArray):row a []=(a.length:Int):=by cases a <;> simp [row]
theorem z4x (x y:ByteArray) (a b:List ByteArray):row (x::a) (y::b)=if ls x y then -1 else if ls y x then 1 else row a b:=rfl
theorem x1p:∀ a:List ByteArray,row a a=0
  | []=>rfl
  | x::a=>by rw [z4x,z6d]; exact x1p a
theorem y3a:∀ a b:List ByteArray,row a b=0→a=b
  | [],b,h=>by
    rw [z4i] at h;exact (List.eq_nil_of_length_eq_zero (by omega)).symm
  | x::a,[],h=>by
    rw [z2f] at h;simp at h;omega
  | x::a,y::b,h=>by
    rw [z4x] at h
    cases h1:ls x y with
    | true=>simp [h1] at h
    | false=>
      cases h2:ls y x with
      | true=>simp [h1,h2] at h
      | false=>
        simp [h1,h2] at h;rw [x2f h1 h2,y3a a b h]
theorem z8a:∀ a b:List ByteArray,row a b<0↔0<row b a
  | [],b=>by rw [z4i,z2f]; omega
  | x::a,[]=>by rw [z4i,z2f]; omega
  | x::a,y::b=>by
    rw [z4x,z4x]
    cases h1:ls x y with
    | true=>simp [ls_asymm h1]
    | false=>
      cases h2:ls y x with
      | true=>simp
      | false=>simpa using z8a a b
theorem y5w:∀ a b c:List ByteArray,row a b<0→row b c<0→row a c<0
  | [],b,c,h1,h2=>by
    rw [z4i] at h1 ⊢
    cases c with
    | nil=>rw [z2f] at h2; omega
    | cons z c=>simp
  | x::a,[],c,h1,h2=>by rw [z2f] at h1; omega
  | x::a,y::b,[],h1,h2=>by rw [z2f] at h2; omega
  | x::a,y::b,z::c,h1,h2=>by
    rw [z4x] at h1 h2 ⊢
    cases hxy:ls x y with
    | true=>
      cases hyz:ls y z with
      | true=>simp [x2g hxy hyz]
      | false=>
        cases hzy:ls z y with
        | true=>simp [hyz,hzy] at h2
        | false=>rw [← x2f hyz hzy,hxy]; simp
    | false=>
      cases hyx:ls y x with
      | true=>simp [hxy,hyx] at h1
      | false=>
        obtain rfl:=x2f hxy hyx
        cases hyz:ls x z with
        | true=>simp
        | false=>
          cases hzy:ls z x with
          | true=>simp [hyz,hzy] at h2
          | false=>
            simp [hxy] at h1;simp [hyz,hzy] at h2
            simpa using y5w a b c h1 h2
structure Tr where
  a:List ByteArray
  e:Int
def cmp (p q:Tr):Int:=
  if row p.a q.a<0 then -1 else if 0<row p.a q.a then 1 else if p.e<q.e then -1 else if q.e<p.e then 1 else 0
theorem y7k (p q:Tr):-1≤cmp p q∧cmp p q≤1:=by unfold cmp; repeat' split; all_goals omega
theorem z3g (p:Tr):cmp p p=0:=by simp [cmp,x1p]
theorem z5r {p q:Tr} (h:cmp p q=0):p=q:=by
  unfold cmp at h;have h1:¬ row p.a q.a<0:=fun hh=>by rw [if_pos hh] at h; omega
  rw [if_neg h1] at h;have h2:¬ 0<row p.a q.a:=fun hh=>by rw [if_pos hh] at h; omega
  rw [if_neg h2] at h;have h3:¬ p.e<q.e:=fun hh=>by rw [if_pos hh] at h; omega
  rw [if_neg h3] at h;have h4:¬ q.e<p.e:=fun hh=>by rw [if_pos hh] at h; omega
  cases p; cases q
  simp only [Tr.mk.injEq];exact ⟨y3a _ _ (by simp at h1 h2 ⊢; omega),by simp at h3 h4 ⊢; omega⟩
theorem z5h (p q:Tr):cmp q p=- cmp p q:=by
  have h1:=z8a p.a q.a;have h2:=z8a q.a p.a;unfold cmp
  by_cases a1:row p.a q.a<0
  · have:=h1.1 a1;rw [if_pos a1,if_neg (by omega),if_pos this]; rfl
  · rw [if_neg a1]
    by_cases a2:0<row p.a q.a
    · rw [if_pos a2,if_pos (h2.2 a2)]
    · rw [if_neg a2,if_neg (fun hh=>a2 (h2.1 hh)),if_neg (fun hh=>a1 (h1.2 hh))]
      by_cases a3:p.e<q.e
      · rw [if_pos a3,if_neg (by omega),if_pos a3]; rfl
      · rw [if_neg a3]
        by_cases a4:q.e<p.e
        · rw [if_pos a4,if_pos a4,if_neg a3]
        · rw [if_neg a4,if_neg a4,if_neg a3]; rfl
theorem x0r {p q:Tr}:cmp p q<0↔row p.a q.a<0∨(row p.a q.a=0∧p.e<q.e):=by
  unfold cmp
  repeat' split
  all_goals omega
theorem z2x {p q r:Tr} (h1:cmp p q<0) (h2:cmp q r<0):cmp p r<0:=by
  rw [x0r] at h1 h2 ⊢
  rcases h1 with h1 | ⟨h1,e1⟩
  · rcases h2 with h2 | ⟨h2,e2⟩
    · exact .inl (y5w _ _ _ h1 h2)
    · rw [← y3a _ _ h2]; exact .inl h1
  · rw [y3a _ _ h1]
    rcases h2 with h2 | ⟨h2,e2⟩
    · exact .inl h2
    · exact .inr ⟨h2,by omega⟩
def Up (l:List Tr):Prop:=l.Pairwise fun p q=>cmp p q<0
theorem x7l:∀ l m:List Tr,Up l→Up m→(∀ t,t∈l↔t∈m)→l=m
  | [],[],_,_,_=>rfl
  | [],q::m,_,_,h=>absurd ((h q).2 (by simp)) (by simp)
  | p::l,[],_,_,h=>absurd ((h p).1 (by simp)) (by simp)
  | p::l,q::m,hl,hm,h=>by
    have hl':=List.pairwise_cons.1 hl;have hm':=List.pairwise_cons.1 hm
    have e:p=q:=by
      have h1:=(h p).1 (by simp);have h2:=(h q).2 (by simp)
      rcases List.mem_cons.1 h1 with h1 | h1
      · exact h1
      · rcases List.mem_cons.1 h2 with h2 | h2
        · exact h2.symm
        · have a:=hl'.1 q h2;have b:=hm'.1 p h1;have:=z2x a b;rw [z3g] at this;omega
    subst e;rw [x7l l m hl'.2 hm'.2 fun t=>?_]
    constructor
    · intro ht
      rcases List.mem_cons.1 ((h t).1 (List.mem_cons_of_mem _ ht)) with rfl | ht'
      · have:=hl'.1 t ht;rw [z3g] at this;omega
      · exact ht'
    · intro ht
      rcases List.mem_cons.1 ((h t).2 (List.mem_cons_of_mem _ ht)) with rfl | ht'
      · have:=hm'.1 t ht;rw [z3g] at this;omega
      · exact ht'
def ins (t:Tr):List Tr→List Tr
  | []=>[t]
  | p::l=>if cmp t p<0 then t::p::l else if 0<cmp t p then p::ins t l else p::l
theorem y9j (t u:Tr):∀ l:List Tr,u∈ins t l↔u=t∨u∈l
  | []=>by simp [ins]
  | p::l=>by
    unfold ins
    split
    · simp
    · split
      · simp only [List.mem_cons,y9j t u l]
        constructor
        · rintro (h | h | h) <;> simp [h]
        · rintro (h | h | h) <;> simp [h]
      · have e:t=p:=z5r (by have:=y7k t p; omega);subst e;simp
theorem up_ins (t:Tr):∀ l:List Tr,Up l→Up (ins t l)
  | [],_=>by simp [ins,Up]
  | p::l,h=>by
    have h':=List.pairwise_cons.1 h;unfold ins
    split
    · rename_i h1
      refine List.pairwise_cons.2 ⟨fun u hu=>?_,h⟩
      rcases List.mem_cons.1 hu with rfl | hu
      · exact h1
      · exact z2x h1 (h'.1 u hu)
    · split
      · rename_i h1 h2
        refine List.pairwise_cons.2 ⟨fun u hu=>?_,up_ins t l h'.2⟩
        rcases (y9j t u l).1 hu with rfl | hu
        · have:=z5h u p; omega
        · exact h'.1 u hu
      · exact h
def norm:List Tr→List Tr
  | []=>[]
  | t::l=>ins t (norm l)
theorem z8o:∀ l:List Tr,Up (norm l)
  | []=>List.Pairwise.nil
  | t::l=>up_ins t _ (z8o l)
theorem z0s (u:Tr):∀ l:List Tr,u∈norm l↔u∈l
  | []=>by simp [norm]
  | t::l=>by simp [norm,y9j,z0s u l]
theorem y9e {l r:List Tr} (hr:Up r) (h:∀ t,t∈r↔t∈l):r=norm l:=
  x7l _ _ hr (z8o l) fun t=>(h t).trans (z0s t l).symm
theorem x5n {l m:List Tr} (h:∀ t,t∈l↔t∈m):norm l=norm m:=
  y9e (z8o l) fun t=>(z0s t l).trans (h t)
theorem y1s (t:Tr):∀ l:List Tr,(ins t l).length≤l.length+1
  | []=>by simp [ins]
  | p::l=>by
    unfold ins
    split
    · simp
    · split
      · simp; exact y1s t l
      · simp
theorem z2w:∀ l:List Tr,(norm l).length≤l.length
  | []=>Nat.le_refl _
  | t::l=>by have:=y1s t (norm l); have:=z2w l; simp [norm]; omega
def mg:Nat→List Tr→List Tr→List Tr
  | 0,_,_=>[]
  | _+1,[],b=>b
  | _+1,a,[]=>a
  | n+1,x::a,y::b=>if cmp x y<0 then x::mg n a (y::b) else if cmp x y=0 then x::mg n a b else y::mg n (x::a) b
end Tr
end Go.Proofs.YtpingbiibbmcaaaGreatDoor
namespace Go.Proofs.YtpingbiibbmcaaaGreatDoor.Rq
open Go Go.RowKit Rg Ro
section
variable {P:Program} {ops:Array Oper} {Q:Exit→Act→World→Prop} {md:Region.Mode} {l n:Nat}
end
section
variable {P:Program} {ops:Array Oper} {Q:Exit→Act→World→Prop}
theorem any_inv {a:Act} {w:World} (J:List (Nat × Option Tmp)) (hJ:dsts ops=J) (he:Rg.early .any ops=true) (ho:once J=true)
    (G:(Nat→Bool)→(Nat→Value)→World→Prop) (h0:∀ us,puts a J us=a→G (fun k=>decide (ops.size≤k)) us w)
    (duties:Duties (Duty P ops Q G a J) ops.size) (done:∀ us w',G (fun _=>true) us w'→Q .normal (puts a J us) w'):wpAny P .any ops Q ops.size (Array.replicate ops.size false) a w:=by
  refine y5c (fun l a' w'=>∃ us,a'=puts a J us∧G (fun k=>l.getD k true) us w') he ?_ ?_ ops.size _ a _ (by simp) ?_ ?_
  · rintro l a' w' i hl ⟨us,rfl,hG⟩ hi;obtain ⟨hun,o,hoi,hall⟩:=mem_ready.1 hi;have hlt:i<ops.size:=(Array.getElem?_eq_some_iff.1 hoi).1;refine (Duties.at duties i hlt) o hoi _ us w' _ rfl hG hun (fun e hee hb=>?_) _ ?_
    · have:=hall e hee hb
      rcases Nat.lt_or_ge e.on l.size with h' | h'
      · simpa [Array.getElem?_eq_getElem h'] using this
      · simp [Array.getElem?_eq_none h'] at this
    · intro v w'' hG';refine ⟨upd us i v,y3c J a us ho ?_,?_⟩
      · rw [← hJ];unfold dsts;exact List.mem_map.2 ⟨i,List.mem_range.2 hlt,by simp [hoi]⟩
      · have hf:(fun k=>(l.setIfInBounds i true).getD k true)=upd (fun k=>l.getD k true) i true:=by
          funext k
          by_cases hk:k=i
          · subst hk;rw [upd_same];simp [hl,hlt]
          · rw [upd_ne _ _ hk,getD_set_ne true (Ne.symm hk)]
        rw [hf];exact hG'
  · rintro l a' w' hall ⟨us,rfl,hG⟩;refine done us w' ?_;have hf:(fun k=>l.getD k true)=fun _=>true:=funext hall
    rw [← hf];exact hG
  · unfold left;refine Nat.le_trans (List.countP_le_length) (by simp)
  · obtain ⟨us,hus⟩:=y3d J a ho;refine ⟨us,hus.symm,?_⟩
    have hf:(fun k=>(Array.replicate ops.size false).getD k true)=fun k=>decide (ops.size≤k):=by
      funext k
      rcases Nat.lt_or_ge k ops.size with h' | h'
      · simp [h']
      · simp [h']
    rw [hf];exact h0 us hus
structure Mid (pre:Nat→Nat→Bool) (Base:World→Prop) (R:Nat→Value→World→Prop) (N:Nat→World→Prop) (Pr:Nat→Value→Nat→Value→Prop) (a0:Act) (J:List (Nat × Option Tmp)) (f:Nat→Bool) (us:Nat→Value) (w:World):Prop where
  base:Base w
  fin:∀ k,f k=true→R k (us k) w
  not:∀ k,f k=false→N k w
  ord:∀ i k,f i=true→pre i k=true→f k=true
  slot:∀ k d,f k=false→(k,some d)∈J→d<a0.tmps.size→us k=a0.eval (.tmp d)
  pair:∀ i k,i≠k→f i=true→f k=true→i<J.length→k<J.length→Pr i (us i) k (us k)
def preOk (ops:Array Oper) (pre:Nat→Nat→Bool):Bool:=
  (List.range ops.size).all fun i=>(List.range ops.size).all fun k=>!pre i k||((ops[i]?).map fun o=>o.after.any fun e=>Region.binds .any e&&(decide (e.on=k)||pre e.on k)).getD false
theorem x4w {pre:Nat→Nat→Bool} (h:preOk ops pre=true) {i k:Nat} {o:Oper} (hi:ops[i]?=some o) (hk:k<ops.size) (hp:pre i k=true):∃ e∈o.after,Region.binds .any e=true∧(e.on=k∨pre e.on k=true):=by
  have hlt:i<ops.size:=(Array.getElem?_eq_some_iff.1 hi).1;have h1:=List.all_eq_true.1 (List.all_eq_true.1 h i (List.mem_range.2 hlt)) k (List.mem_range.2 hk);rw [hp,hi] at h1;simp only [Bool.not_true,Bool.false_or,Option.map_some,Option.getD_some,Array.any_eq_true,Bool.and_eq_true,Bool.or_eq_true,decide_eq_true_eq] at h1;obtain ⟨j,hj,hb,h2⟩:=h1;exact ⟨_,Array.getElem_mem hj,hb,h2⟩
def Step (P:Program) (ops:Array Oper) (Q:Exit→Act→World→Prop) (pre:Nat→Nat→Bool) (M:Nat→Nat→Prop) (Base:World→Prop) (R:Nat→Value→World→Prop) (N:Nat→World→Prop) (Pr:Nat→Value→Nat→Value→Prop) (a0:Act) (J:List (Nat × Option Tmp)) (i:Nat):Prop:=
  ∀ o,ops[i]?=some o→∀ (us:Nat→Value) (w:World) (a:Act),a=puts a0 J us→Base w→N i w→(∀ e∈o.after,Region.binds .any e=true→R e.on (us e.on) w)→(∀ k d,k=i∨pre k i=true→(k,some d)∈J→d<a0.tmps.size→us k=a0.eval (.tmp d))→
    ∀ K:Act→World→Prop,(∀ v w',R i v w'→Turn (M i) w w'→(∀ k u,k≠i→k<J.length→R k u w→(∀ e∈o.after,Region.binds .any e=true→e.on≠k→Pr e.on (us e.on) k u∧Pr k u e.on (us e.on))→Pr i v k u∧Pr k u i v)→K (a.put o.dst v) w')→wpOp P ops Q i K a w
theorem v4c {a:Act} {w:World} (J:List (Nat × Option Tmp)) (hJ:dsts ops=J) (he:Rg.early .any ops=true) (ho:once J=true) (pre:Nat→Nat→Bool) (hpre:preOk ops pre=true) (hps:∀ i k,pre i k=true→k<ops.size∧i<ops.size)
    (M:Nat→Nat→Prop) (Base:World→Prop) (R:Nat→Value→World→Prop) (N:Nat→World→Prop) (Pr:Nat→Value→Nat→Value→Prop)
    (hB:∀ i w w',Base w→Turn (M i) w w'→Base w') (hR:∀ i k v w w',i≠k→i<ops.size→pre k i=false→Base w→R k v w→Turn (M i) w w'→R k v w') (hN:∀ i k w w',i≠k→pre i k=false→Base w→N k w→Turn (M i) w w'→N k w')
    (h0:Base w) (hR0:∀ k v w,ops.size≤k→R k v w) (hN0:∀ k,k<ops.size→N k w)
    (steps:Duties (Step P ops Q pre M Base R N Pr a J) ops.size) (done:∀ us w',Base w'→(∀ k,R k (us k) w')→(∀ i k,i≠k→i<J.length→k<J.length→Pr i (us i) k (us k))→Q .normal (puts a J us) w'):wpAny P .any ops Q ops.size (Array.replicate ops.size false) a w:=by
  have hJl:J.length=ops.size:=by rw [← hJ]; unfold dsts; simp
  have hlift:∀ m,m≤ops.size→Duties (Step P ops Q pre M Base R N Pr a J) m→Duties (Duty P ops Q (Mid pre Base R N Pr a J) a J) m:=by
    intro m
    induction m with
    | zero=>exact fun _ _=>trivial
    | succ i ih=>
      intro hm hd;refine ⟨ih (by omega) hd.1,?_⟩;intro o hoi f us w' b hb g hf hdep K hK
      have hundone:∀ k,k=i∨pre k i=true→f k=false:=fun k hk=>by
        rcases hk with rfl | hk
        · exact hf
        · cases hfk:f k
          · rfl
          · have:=g.ord k i hfk hk;rw [hf] at this
            cases this
      refine hd.2 o hoi us w' b hb g.base (g.not i hf) (fun e he hbi=>g.fin _ (hdep e he hbi)) (fun k d hk hm hlt=>g.slot k d (hundone k hk) hm hlt) K fun v w2 hv ht hpr=>?_
      have hpi:∀ k,pre i k=true→f k=true:=fun k hk=>by
        obtain ⟨e,hee,hbi,h⟩:=x4w hpre hoi (hps i k hk).1 hk;have hfe:=hdep e hee hbi
        rcases h with h | h
        · rw [← h]; exact hfe
        · exact g.ord _ _ hfe h
      have hdp:∀ k,f k=true→k<J.length→∀ e∈o.after,Region.binds .any e=true→e.on≠k→Pr e.on (us e.on) k (us k)∧Pr k (us k) e.on (us e.on):=fun k hk hkl e hee hbi hne=>by
        have hel:e.on<J.length:=by have:=z7g he hoi e hee hbi; omega
        exact ⟨g.pair _ _ hne (hdep e hee hbi) hk hel hkl,g.pair _ _ (Ne.symm hne) hk (hdep e hee hbi) hkl hel⟩
      refine hK v w2 ⟨hB i _ _ g.base ht,fun k hk=>?_,fun k hk=>?_,fun j k hj hjk=>?_,fun k d hk hm hlt=>?_,fun j k hjk hj hk hjl hkl=>?_⟩
      · by_cases hki:k=i
        · subst hki; rw [upd_same]; exact hv
        · rw [upd_ne _ _ hki] at hk ⊢;refine hR i k _ _ _ (Ne.symm hki) (by omega) ?_ g.base (g.fin k hk) ht
          cases hp:pre k i
          · rfl
          · have:=g.ord k i hk hp;rw [hf] at this
            cases this
      · by_cases hki:k=i
        · subst hki; rw [upd_same] at hk; cases hk
        · rw [upd_ne _ _ hki] at hk;refine hN i k _ _ (Ne.symm hki) ?_ g.base (g.not k hk) ht
          cases hp:pre i k
          · rfl
          · have:=hpi k hp;rw [hk] at this
            cases this
      · by_cases hki:k=i
        · subst hki; rw [upd_same]
        · rw [upd_ne _ _ hki]
          by_cases hji:j=i
          · subst hji; exact hpi k hjk
          · rw [upd_ne _ _ hji] at hj; exact g.ord j k hj hjk
      · by_cases hki:k=i
        · subst hki; rw [upd_same] at hk; cases hk
        · rw [upd_ne _ _ hki] at hk ⊢;exact g.slot k d hk hm hlt
      · by_cases hji:j=i
        · subst hji;rw [upd_ne _ _ (Ne.symm hjk)] at hk;rw [upd_same,upd_ne _ _ (Ne.symm hjk)];exact (hpr k _ (Ne.symm hjk) hkl (g.fin k hk) (hdp k hk hkl)).1
        · rw [upd_ne _ _ hji] at hj ⊢
          by_cases hki:k=i
          · subst hki;rw [upd_same];exact (hpr j _ hji hjl (g.fin j hj) (hdp j hj hjl)).2
          · rw [upd_ne _ _ hki] at hk ⊢;exact g.pair j k hjk hj hk hjl hkl
  refine any_inv J hJ he ho (Mid pre Base R N Pr a J) (fun us hus=>⟨h0,fun k hk=>hR0 k _ _ (of_decide_eq_true hk),fun k hk=>hN0 k (Nat.lt_of_not_le (of_decide_eq_false hk)),fun i k hi hp=>?_,fun k d _ hm hlt=>?_,fun i k _ hi _ hil _=>?_⟩) (hlift _ (Nat.le_refl _) steps) (fun us w' g=>done us w' g.base (fun k=>g.fin k rfl) fun i k hik hi hk=>g.pair i k hik rfl rfl hi hk)
  · exact absurd (of_decide_eq_true hi) (Nat.not_le_of_lt (hps i k hp).2)
  · have:=z0h J a us ho hm hlt;rw [hus] at this;exact this.symm
  · have:=of_decide_eq_true hi;omega
def tab (t:List (List Nat)) (i k:Nat):Bool:=(t.getD i []).contains k
theorem tab_lt {t:List (List Nat)} {m:Nat} (h:(decide (t.length≤m)&&t.all fun r=>r.all fun k=>decide (k<m))=true) (i k:Nat) (hp:tab t i k=true):k<m∧i<m:=by
  rw [Bool.and_eq_true,decide_eq_true_eq] at h;unfold tab at hp
  have hi:i<t.length:=by
    rcases Nat.lt_or_ge i t.length with h' | h'
    · exact h'
    · simp [List.getElem?_eq_none h'] at hp
  have h1:=List.all_eq_true.1 h.2 t[i] (List.getElem_mem hi)
  have h2:k∈t[i]:=by
    simpa [List.getElem?_eq_getElem hi] using hp
  exact ⟨of_decide_eq_true (List.all_eq_true.1 h1 k h2),by omega⟩
theorem z8n {id:Nat} {a:Act} {w:World} (hm:P.follows .mixedOrders=true) (J:List (Nat × Option Tmp)) (hJ:dsts ops=J) (he:Rg.early .any ops=true) (ho:once J=true) (t:List (List Nat)) (hpre:preOk ops (tab t)=true) (hps:(decide (t.length≤ops.size)&&t.all fun r=>r.all fun k=>decide (k<ops.size))=true)
    (M:Nat→Nat→Prop) (Base:World→Prop) (R:Nat→Value→World→Prop) (N:Nat→World→Prop) (Pr:Nat→Value→Nat→Value→Prop)
    (hB:∀ i w w',Base w→Turn (M i) w w'→Base w') (hR:∀ i k v w w',i≠k→i<ops.size→tab t k i=false→Base w→R k v w→Turn (M i) w w'→R k v w') (hN:∀ i k w w',i≠k→tab t i k=false→Base w→N k w→Turn (M i) w w'→N k w')
    (h0:Base w.drew) (hR0:∀ k v w,ops.size≤k→R k v w) (hN0:∀ k,k<ops.size→N k w.drew)
    (steps:Duties (Step P ops Q (tab t) M Base R N Pr a J) ops.size) (done:∀ us w',Base w'→(∀ k,R k (us k) w')→(∀ i k,i≠k→i<J.length→k<J.length→Pr i (us i) k (us k))→Q .normal (puts a J us) w'):(Code.region id ops true).wp P Q a w:=
  wp_region_any hm (v4c J hJ he ho (tab t) hpre (fun i k=>tab_lt hps i k) M Base R N Pr hB hR hN h0 hR0 hN0 steps done)
end
theorem z7k {P:Program} {w:World} {o:Oper} {a:Act} {K:Act→World→Prop} {Q:Exit→Act→World→Prop} (s x:Operand) (t tx:TypeId)
    (ho:o.op=.call { callee:=.builtin .append,args:=#[s,x],argTypes:=#[t,tx] }) (vs vx:Value) (hs:a.eval s=vs) (hx:a.eval x=vx) (v':Value) (w':World) (hrun:(Builtin.append_ #[t,tx] o.type #[vs,vx]).run P w=.ok v' w')
    (h:K (a.put o.dst v') w'):o.wp P a w K Q:=by
  unfold Oper.wp;simp [execOp,ho,resolve,invoke,builtin,hs,hx,hrun,Result.andThen];exact h
end Go.Proofs.YtpingbiibbmcaaaGreatDoor.Rq
namespace Go.Proofs.YtpingbiibbmcaaaGreatDoor
namespace Mn
open Go Tr
structure Pr where
  p:Tr
  q:Tr
def pcmp (x y:Pr):Int:=if cmp x.p y.p=0 then cmp x.q y.q else cmp x.p y.p
theorem pcmp_bd (x y:Pr):-1≤pcmp x y∧pcmp x y≤1:=by
  have h1:=y7k x.p y.p;have h2:=y7k x.q y.q;unfold pcmp
  split <;> omega
theorem z9m (x:Pr):pcmp x x=0:=by simp [pcmp,z3g]
theorem pcmp_eq0 {x y:Pr} (h:pcmp x y=0):x=y:=by
  unfold pcmp at h
  split at h
  · rename_i h1
    cases x; cases y
    simp only [Pr.mk.injEq];exact ⟨z5r h1,z5r h⟩
  · rename_i h1
    exact absurd h h1
theorem x9r (x y:Pr):pcmp y x=- pcmp x y:=by
  have h1:=z5h x.p y.p;have h2:=z5h x.q y.q;unfold pcmp
  by_cases h:cmp x.p y.p=0
  · rw [if_pos h,if_pos (by omega)]; exact h2
  · rw [if_neg h,if_neg (by omega)]; exact h1
theorem pcmp_neg {x y:Pr}:pcmp x y<0↔cmp x.p y.p<0∨(x.p=y.p∧cmp x.q y.q<0):=by
  unfold pcmp
  split
  · rename_i h
    have e:=z5r h;rw [h]
    constructor
    · intro h2; exact .inr ⟨e,h2⟩
    · rintro (h2 | ⟨_,h2⟩)
      · omega
      · exact h2
  · rename_i h
    constructor
    · intro h2; exact .inl h2
    · rintro (h2 | ⟨h2,_⟩)
      · exact h2
      · rw [h2,z3g] at h; exact absurd rfl h
theorem y1l {x y z:Pr} (h1:pcmp x y<0) (h2:pcmp y z<0):pcmp x z<0:=by
  rw [pcmp_neg] at h1 h2 ⊢
  rcases h1 with h1 | ⟨e1,h1⟩
  · rcases h2 with h2 | ⟨e2,h2⟩
    · exact .inl (z2x h1 h2)
    · rw [← e2]; exact .inl h1
  · rw [e1]
    rcases h2 with h2 | ⟨e2,h2⟩
    · exact .inl h2
    · exact .inr ⟨e2,z2x h1 h2⟩
def PUp (l:List Pr):Prop:=l.Pairwise fun p q=>pcmp p q<0
theorem x1r:∀ l m:List Pr,PUp l→PUp m→(∀ t,t∈l↔t∈m)→l=m
  | [],[],_,_,_=>rfl
  | [],q::m,_,_,h=>absurd ((h q).2 (by simp)) (by simp)
  | p::l,[],_,_,h=>absurd ((h p).1 (by simp)) (by simp)
  | p::l,q::m,hl,hm,h=>by
    have hl':=List.pairwise_cons.1 hl;have hm':=List.pairwise_cons.1 hm
    have e:p=q:=by
      have h1:=(h p).1 (by simp);have h2:=(h q).2 (by simp)
      rcases List.mem_cons.1 h1 with h1 | h1
      · exact h1
      · rcases List.mem_cons.1 h2 with h2 | h2
        · exact h2.symm
        · have a:=hl'.1 q h2;have b:=hm'.1 p h1;have:=y1l a b;rw [z9m] at this;omega
    subst e;rw [x1r l m hl'.2 hm'.2 fun t=>?_]
    constructor
    · intro ht
      rcases List.mem_cons.1 ((h t).1 (List.mem_cons_of_mem _ ht)) with rfl | ht'
      · have:=hl'.1 t ht;rw [z9m] at this;omega
      · exact ht'
    · intro ht
      rcases List.mem_cons.1 ((h t).2 (List.mem_cons_of_mem _ ht)) with rfl | ht'
      · have:=hm'.1 t ht;rw [z9m] at this;omega
      · exact ht'
def pins (t:Pr):List Pr→List Pr
  | []=>[t]
  | p::l=>if pcmp t p<0 then t::p::l else if 0<pcmp t p then p::pins t l else p::l
theorem y3f (t u:Pr):∀ l:List Pr,u∈pins t l↔u=t∨u∈l
  | []=>by simp [pins]
  | p::l=>by
    unfold pins
    split
    · simp
    · split
      · simp only [List.mem_cons,y3f t u l]
        constructor
        · rintro (h | h | h) <;> simp [h]
        · rintro (h | h | h) <;> simp [h]
      · have e:t=p:=pcmp_eq0 (by have:=pcmp_bd t p; omega);subst e;simp
theorem x9a (t:Pr):∀ l:List Pr,PUp l→PUp (pins t l)
  | [],_=>by simp [pins,PUp]
  | p::l,h=>by
    have h':=List.pairwise_cons.1 h;unfold pins
    split
    · rename_i h1
      refine List.pairwise_cons.2 ⟨fun u hu=>?_,h⟩
      rcases List.mem_cons.1 hu with rfl | hu
      · exact h1
      · exact y1l h1 (h'.1 u hu)
    · split
      · rename_i h1 h2
        refine List.pairwise_cons.2 ⟨fun u hu=>?_,x9a t l h'.2⟩
        rcases (y3f t u l).1 hu with rfl | hu
        · have:=x9r u p; omega
        · exact h'.1 u hu
      · exact h
def pnorm:List Pr→List Pr
  | []=>[]
  | t::l=>pins t (pnorm l)
theorem z3c:∀ l:List Pr,PUp (pnorm l)
  | []=>List.Pairwise.nil
  | t::l=>x9a t _ (z3c l)
theorem z0l (u:Pr):∀ l:List Pr,u∈pnorm l↔u∈l
  | []=>by simp [pnorm]
  | t::l=>by simp [pnorm,y3f,z0l u l]
theorem pnorm_eq {l r:List Pr} (hr:PUp r) (h:∀ t,t∈r↔t∈l):r=pnorm l:=
  x1r _ _ hr (z3c l) fun t=>(h t).trans (z0l t l).symm
theorem z3v {l m:List Pr} (h:∀ t,t∈l↔t∈m):pnorm l=pnorm m:=
  pnorm_eq (z3c l) fun t=>(z0l t l).trans (h t)
theorem z9k (t:Pr):∀ l:List Pr,(pins t l).length≤l.length+1
  | []=>by simp [pins]
  | p::l=>by
    unfold pins
    split
    · simp
    · split
      · simp; exact z9k t l
      · simp
theorem z1t:∀ l:List Pr,(pnorm l).length≤l.length
  | []=>Nat.le_refl _
  | t::l=>by have:=z9k t (pnorm l); have:=z1t l; simp [pnorm]; omega
end Mn
end Go.Proofs.YtpingbiibbmcaaaGreatDoor
