/- Laws that the last text leans on. -/
import Derived.Test.YtpingbiibbmcaaaGreatDoorQ38
import Derived.Test.YtpingbiibbmcaaaGreatDoorQ35
import Derived.Shelf.Strings.BuilderK

set_option maxRecDepth 20000
set_option maxHeartbeats 8000000
namespace Go.Proofs.YtpingbiibbmcaaaGreatDoor
namespace Tr
open Go Go.RowKit
theorem has1_any (v1 v2:Value) (p q:Tr) (b0:Nat) (w:World) (h1:Strs w v1 p.a) (h2:Strs w v2 q.a) (e0:w.cell? ⟨b0,0,none⟩=some v2) (e1:w.cell? ⟨b0,1,none⟩=some (.int .i64 q.e)) (hl:p.a.length≤1000000000000) (hm:q.a.length≤1000000000000) :
    Calls Tryz.prog 64 #[.agg #[v1,.int .i64 p.e],.pointer (some ⟨b0,0,none⟩)] w fun e w'=>e=.returned (.bool (cmp p q==0))∧Below w.heap.size w w':=by
  have H1:=Lib.hid (fun x=>h1.below ((Below.refl _ _).alloc (Nat.le_refl _) x));have H2:=Lib.hid (fun x=>h2.below ((Below.refl _ _).alloc (Nat.le_refl _) x));have hb0:b0<w.heap.size:=Ap.z0a e0;obtain ⟨_,a1,c1,rfl,-⟩:=h1;obtain ⟨_,a2,c2,rfl,-⟩:=h2;have HB:Hid (∀ x n os,Below w.heap.size w (Go.Sort.grow ((w.alloc x).drewN n) os)):=Lib.hid fun x n os=>((Below.refl _ _).alloc (Nat.le_refl _) _).trans ((below_grow _ n os).mono (by simp))
  have A:=Lib.hid (fun w ha hb=>z2y (.slice a1 p.a.length c1) (.slice a2 q.a.length c2) p q w ha hb hl hm)
  cases hc:cmp p q==0 with
  | true=>
    have hc':cmp p q=0:=by simpa using hc
    rw [hc'] at A;clear hc hc'
    go_enter Tryz.func64,Tryz.ntmps64
    go_wp2_with (go_at_call 62; refine (A.out _ (H1.out _) (H2.out _)).mono ?_; rintro e w' ⟨rfl,n,os,rfl⟩);go_ret;exact ⟨rfl,HB.out _ n os⟩
  | false=>
    have hc':cmp p q≠0:=by simpa using hc
    generalize cmp p q=c at A hc' ⊢;clear hc
    go_enter Tryz.func64,Tryz.ntmps64
    go_wp2_with (go_at_call 62; refine (A.out _ (H1.out _) (H2.out _)).mono ?_; rintro e w' ⟨rfl,n,os,rfl⟩);go_ret;exact ⟨by simp [hc'],HB.out _ n os⟩
structure Es (w:World) where
  v:Value
  t:Tr
  hs:Strs w v t.a
  hl:t.a.length≤1000000000000
instance (w:World):Inhabited (Es w):=⟨⟨.slice none 0 0,⟨[],0⟩,⟨rfl,none,0,rfl,Nat.le_refl _,fun _=>⟨rfl,rfl⟩,fun h=>absurd h (Nat.lt_irrefl _)⟩,by simp⟩⟩
def encE {w:World} (x:Es w):List Value:=[x.v,.int .i64 x.t.e]
theorem idx_empty (a:Option Addr) (c:Nat) (fv:Value) (w:World):Calls Tryz.prog 115 #[.slice a 0 c,fv] w fun e w'=>e=.returned (.int .i64 (-1))∧w'=w:=by
  go_enter Tryz.func115,Tryz.ntmps115
  go_wp2_with fail;refine Go.wp_loop_rounds 1 ?_;rw [rounds_succ];go_wp2_with fail;go_ret;exact ⟨rfl,rfl⟩
theorem y1a (a:Option Addr) (c:Nat) (fv:Value) (w:World):Calls Tryz.prog 63 #[.slice a 0 c,fv] w fun e w'=>e=.returned (.bool false)∧w'=w:=by
  go_enter Tryz.func63,Tryz.ntmps63
  go_wp2_with (go_at_call 115; refine (idx_empty _ _ _ _).mono ?_; rintro e w' ⟨rfl,rfl⟩);go_ret;exact ⟨rfl,rfl⟩
theorem es_of {w:World}:∀ {cs:List Value} {l:List Tr},TrCells w cs l→(∀ t∈l,t.a.length≤1000000000000)→∃ els:List (Es w),els.map (·.t)=l∧∀ j (h:j<els.length),cs[j*2]?=some els[j].v∧cs[j*2+1]?=some (.int .i64 els[j].t.e)
  | [],[],_,_=>⟨[],rfl,fun j h=>by simp at h⟩
  | a::e::cs,t::l,h,hl=>by
    obtain ⟨els,h1,h2⟩:=es_of h.2.2 fun u hu=>hl u (by simp [hu])
    refine ⟨⟨a,t,h.1,hl t (by simp)⟩::els,by simp [h1],fun j hj=>?_⟩
    cases j with
    | zero=>exact ⟨rfl,by simp [h.2.1]⟩
    | succ j=>
      have:=h2 j (by simpa using hj);rw [show (j+1)*2=j*2+1+1 by omega]
      simpa using this
  | [],_::_,h,_=>h.elim
  | [_],[],h,_=>h.elim
  | [_],_::_,h,_=>h.elim
  | _::_::_,[],h,_=>h.elim
theorem contains_any (x v:Value) (l:List Tr) (t:Tr) (b0:Nat) (w:World) (hx:Trs w x l) (hv:Strs w v t.a) (e0:w.cell? ⟨b0,0,none⟩=some v) (e1:w.cell? ⟨b0,1,none⟩=some (.int .i64 t.e)) (hlen:l.length≤1000000000000) (hl:∀ t∈l,t.a.length≤1000000000000) (ht:t.a.length≤1000000000000) :
    Calls Tryz.prog 63 #[x,.func (.func 64) #[] #[.pointer (some ⟨b0,0,none⟩)]] w fun e w'=>e=.returned (.bool (l.any fun u=>cmp u t==0))∧Below w.heap.size w w':=by
  obtain ⟨cs,⟨hcl,a,c,rfl,hcap,hn,hcell⟩,htc⟩:=hx
  by_cases h0:0<l.length
  · obtain ⟨b,off,rfl,hj⟩:=hcell h0;obtain ⟨els,h1,h2⟩:=es_of htc hl;have hel:els.length=l.length:=by rw [← h1,List.length_map]
    have hb0:b0<w.heap.size:=Ap.z0a e0;have hbl:b<w.heap.size:=Ap.z0a (hj 0 _ (h2 0 (by omega)).1);have eg:∀ args w,(callFunc 64 args).run Tryz.prog w=.ok (.enter 64 args) w:=enters_of Tryz.func64 (by kernel_rfl) rfl
    have hcon:=AnyQ.slices_ContainsFunc Tryz.laysCoT 2 Tryz.isAgg33 Tryz.sizeOf33 (encE (w:=w)) (fun _=>rfl) (fun x=>cmp x.t t==0) 64 #[.pointer (some ⟨b0,0,none⟩)] eg b off l.length c els w
      (fun W x hW=>(has1_any x.v v x.t t b0 W (x.hs.below hW) (hv.below hW) (by rw [hW.cell (p:=⟨b0,0,none⟩) hb0]; exact e0) (by rw [hW.cell (p:=⟨b0,1,none⟩) hb0]; exact e1) x.hl ht).mono fun e w' ⟨he,hb⟩=>⟨he,hW.trans (hb.mono hW.size)⟩)
      (by omega) (by omega) hbl
      (fun j hj' i u hu=>by
        have e:els[j]! = els[j]:=getElem!_pos els j hj';rw [e] at hu;have h3:=h2 j hj'
        match i,hu with
        | 0,hu=>
          simp [encE] at hu;rw [← hu];exact hj _ _ h3.1
        | 1,hu=>
          simp [encE] at hu;rw [← hu];exact hj _ _ h3.2
        | i+2,hu=>simp [encE] at hu)
    change Calls Tryz.prog 63 _ _ _ at hcon;refine hcon.mono fun e w' ⟨he,hb⟩=>⟨?_,hb⟩
    rw [he,← hel,List.take_length,← h1,List.any_map]
    rfl
  · obtain rfl:l=[]:=List.eq_nil_of_length_eq_zero (by omega);exact (y1a a c _ w).mono fun e w' ⟨he,hw⟩=>⟨he,hw ▸ Below.refl _ _⟩
theorem hasT_any (x v:Value) (l:List Tr) (t:Tr) (w:World) (hx:Trs w x l) (hv:Strs w v t.a) (hlen:l.length≤1000000000000) (hl:∀ t∈l,t.a.length≤1000000000000) (ht:t.a.length≤1000000000000) :
    Calls Tryz.prog 32 #[x,.agg #[v,.int .i64 t.e]] w fun e w'=>e=.returned (.bool (l.any fun u=>cmp u t==0))∧Below w.heap.size w w':=by
  have hb0:∀ o,Below w.heap.size w (w.alloc o):=fun o=>(Below.refl _ _).alloc (Nat.le_refl _) o
  have HC:=Lib.hid (fun ty=>contains_any x v l t w.heap.size (w.alloc (.cells #[v,.int .i64 t.e] ty)) (hx.below (hb0 _)) (hv.below (hb0 _)) (v3s _ _ _ _) (v3r _ _ _ _) hlen hl ht);have HB:=Lib.hid hb0;obtain ⟨_,⟨_,a,c,rfl,_⟩,_⟩:=hx;obtain ⟨_,a',c',rfl,_⟩:=hv;generalize (l.any fun u=>cmp u t==0)=r at HC ⊢;clear hb0 hl
  go_enter Tryz.func32,Tryz.ntmps32
  go_wp2_with (go_at_call 63; refine (HC.out _).mono ?_; rintro e w' ⟨rfl,hb'⟩);go_ret;exact ⟨rfl,(HB.out _).trans (hb'.mono (HB.out _).size)⟩
theorem str_ne {x y:ByteArray} (h:y≠x):(y.toList==x.toList)=false:=by
  rw [beq_eq_false_iff_ne];exact fun e=>h (toList_inj e)
end Tr
end Go.Proofs.YtpingbiibbmcaaaGreatDoor
namespace Go.Proofs.YtpingbiibbmcaaaGreatDoor.Tr
open Go Go.RowKit
set_option maxRecDepth 20000
def Suf (A B:List ByteArray) (n:Nat) (q:Rst):Prop:=q.1 <:+ A∧q.2 <:+ B∧q.1.length+q.2.length=n
end Go.Proofs.YtpingbiibbmcaaaGreatDoor.Tr
namespace Go.Proofs.YtpingbiibbmcaaaGreatDoor.Tr
open Go Go.RowKit
set_option maxRecDepth 20000
def Dn (w:World) (D n:Nat) (dl:List ByteArray):Prop:=
  ∃ cur:Array Value,w.heap[D]?=some (.cells cur 9 (0,0))∧cur.size=n∧dl.length≤n∧∀ j (h:j<dl.length),cur[j]?=some (.string dl[j])
def Fr (D R0:Nat) (w w':World) (rv rv':Value):Prop:=
  (w'.os=w.os∧w'.tape=w.tape∧w'.output=w.output∧w.heap.size≤w'.heap.size)∧(∀ b,b<w.heap.size→b≠R0→b≠D→some b≠rv.ownBlock→w'.heap[b]?=w.heap[b]?)∧(rv'.ownBlock=rv.ownBlock∨∃ k,rv'.ownBlock=some k∧w.heap.size≤k)
def Ok (D R0:Nat) (rv:Value) (b:Nat):Prop:=b≠R0∧b≠D∧some b≠rv.ownBlock
def Env (L0 M0 R0 n:Nat) (w:World):Prop:=
  w.cell? ⟨L0,0,none⟩=some (.int .i64 n)∧w.cell? ⟨M0,0,none⟩=some (.func (.func 305) #[] #[.pointer (some ⟨L0,0,none⟩),.pointer (some ⟨M0,0,none⟩),.pointer (some ⟨R0,0,none⟩)])
def OkB (base D R0:Nat) (rv:Value) (b:Nat):Prop:=base≤b∧Ok D R0 rv b
def Acc (base D R0:Nat) (w:World) (rv:Value) (acc:List (List ByteArray)):Prop:=
  w.cell? ⟨R0,0,none⟩=some rv∧w.frozen? ⟨R0,0,none⟩=false∧∃ cs,w.ownsRow base 26 1 rv acc.length cs∧RwO (OkB base D R0 rv) w cs acc
structure Fix (base D L0 M0 R0:Nat) (rv:Value):Prop where
  lm:Ok D R0 rv L0∧Ok D R0 rv M0
  rd:R0≠D
  rr:some R0≠rv.ownBlock
  dr:some D≠rv.ownBlock
  br:base≤R0
  bd:base≤D
structure In (base D L0 M0 R0 n k:Nat) (A B:List ByteArray) (w:World) (rv lv:Value) (dl:List ByteArray) (left:List Rst) (acc:List (List ByteArray)):Prop where
  env:Env L0 M0 R0 n w
  acc:Acc base D R0 w rv acc
  dn:Dn w D n dl
  fx:Fix base D L0 M0 R0 rv
  rs:Rss (Ok D R0 rv) w lv left
  suf:∀ q∈left,Suf A B k q
  ne:left≠[]
  few:left.length*2 ^ k≤1024
  len:dl.length+k=n
  n9:n≤9
  bs:base≤w.heap.size
end Go.Proofs.YtpingbiibbmcaaaGreatDoor.Tr
namespace Go.Proofs.YtpingbiibbmcaaaGreatDoor.Tr
open Go Go.RowKit
set_option maxRecDepth 20000
end Go.Proofs.YtpingbiibbmcaaaGreatDoor.Tr
namespace Go.Proofs.YtpingbiibbmcaaaGreatDoor
namespace Tr
open Go Go.RowKit
def OutB (base D L0 M0 R0 n k:Nat) (left:List Rst) (w:World) (rv:Value) (dl:List ByteArray) (acc:List (List ByteArray)) (w':World):Prop:=
  ∃ rv' L,Good k left L∧Acc base D R0 w' rv' (acc++L.map (dl++·))∧Dn w' D n dl∧Fr D R0 w w' rv rv'∧Fix base D L0 M0 R0 rv'∧L.length≤9 ^ k
end Tr
end Go.Proofs.YtpingbiibbmcaaaGreatDoor
namespace Go.Proofs.YtpingbiibbmcaaaGreatDoor.Tr
open Go Go.RowKit
set_option maxRecDepth 20000
def RwsF (base:Nat) (w:World) (v:Value) (rs:List (List ByteArray)):Prop:=∃ cs,Ap.Rd w 1 v rs.length cs∧RwO (fun b=>base≤b) w cs rs
end Go.Proofs.YtpingbiibbmcaaaGreatDoor.Tr
namespace Go.Proofs.YtpingbiibbmcaaaGreatDoor.Tr
open Go Go.RowKit
set_option maxRecDepth 20000
end Go.Proofs.YtpingbiibbmcaaaGreatDoor.Tr
namespace Go.Proofs.YtpingbiibbmcaaaGreatDoor
namespace Mn
open Go Go.RowKit Go.Sort Tr
theorem so_own {w:World} {base:Nat} {v:Value} {l:List ByteArray} (h:w.ownsRow base 9 1 v l.length (l.map .string)):StrsO (fun b=>base≤b) w v l:=Ap.RdO.fresh h
end Mn
namespace Mn
open Go Go.RowKit Tr

end Mn
namespace Mn
open Go Go.RowKit Go.Sort Tr
structure ElP (w:World) (g:Nat) where
  v:Value
  v':Value
  t:Pr
  hs:StrsO (fun b=>b≠g) w v t.p.a
  hs':StrsO (fun b=>b≠g) w v' t.q.a
  hl:t.p.a.length≤1000000
  hl':t.q.a.length≤1000000
instance (w:World) (g:Nat):Inhabited (ElP w g):=⟨⟨.slice none 0 0,.slice none 0 0,⟨⟨[],0⟩,⟨[],0⟩⟩,x8d _ _,x8d _ _,by simp,by simp⟩⟩
def ElP.qd {w:World} {g:Nat} (x:ElP w g):Qd:=⟨x.v,.int .i64 x.t.p.e,x.v',.int .i64 x.t.q.e⟩
def encP {w:World} {g:Nat} (x:ElP w g):List Value:=[x.v,.int .i64 x.t.p.e,x.v',.int .i64 x.t.q.e]
def cfP {w:World} {g:Nat} (x y:ElP w g):Int:=pcmp x.t y.t
theorem encP_one {w:World} {g:Nat} (x:ElP w g):∀ v∈encP x,v.oneCell'=true:=by
  intro v hv;simp only [encP,List.mem_cons,List.mem_nil_iff,or_false] at hv
  rcases hv with rfl | rfl | rfl | rfl
  · exact y5i x.hs
  · rfl
  · exact y5i x.hs'
  · rfl
theorem tr_ext {p q:Tr} (h1:p.a=q.a) (h2:p.e=q.e):p=q:=by
  cases p; cases q
  simp only at h1 h2;rw [h1,h2]
def PP (w:World) (g:Nat) (ys:List Qd) (ts:List Pr):Prop:=
  ys.length=ts.length∧∀ j (h:j<ts.length) (h':j<ys.length),StrsO (fun b=>b≠g) w ys[j].a ts[j].p.a∧ys[j].b=.int .i64 ts[j].p.e∧StrsO (fun b=>b≠g) w ys[j].c ts[j].q.a∧ys[j].d=.int .i64 ts[j].q.e
theorem compactP_nil (c:Nat) (w:World):Calls Tryz.prog 217 #[.slice none 0 c,.func (.func 218) #[] #[]] w fun e w'=>e=.returned (.slice none 0 c)∧w'=w:=by
  go_enter Tryz.func217,Tryz.ntmps217
  go_wp2_with fail;go_ret;exact ⟨rfl,rfl⟩
theorem sortP_nil (c:Nat) (fv:Value) (w:World):Calls Tryz.prog 215 #[.slice none 0 c,fv] w fun e w'=>e=.returned (.tuple #[])∧w'=w:=by
  have hcon:=AnyF.slices_SortFunc_none Tryz.laysSoP none c fv w;change Calls Tryz.prog 215 _ _ _ at hcon;exact hcon
end Mn
namespace Mn
open Go Go.RowKit Tr

end Mn
namespace Mn
open Go Go.RowKit Go.Sort Tr

end Mn
namespace Mn
open Go Go.RowKit Tr

end Mn
end Go.Proofs.YtpingbiibbmcaaaGreatDoor
namespace Go.Proofs.YtpingbiibbmcaaaGreatDoor.Mn
open Go Go.RowKit Tr
open Rw (Nd Nds)
set_option maxRecDepth 20000
section
variable (W0:World) (kv p0 p1 y0 y1:Value) (A1 A2:List Tr) (M MW:List Pr)
def R10 (f:Nat→Bool) (k:Nat) (v:Value) (w:World):Prop:=
  match k with
  | 0=>v=kv
  | 1=>v=p0
  | 2=>v=y0
  | 3=>f 8=false→TsO any w v A1∧∃ a c,v=.slice a A1.length c
  | 4=>v=kv
  | 5=>v=p1
  | 6=>v=y1
  | 7=>f 8=false→TsO any w v A2∧∃ a c,v=.slice a A2.length c
  | 8=>f 11=false→∃ a c cs,v=.slice a M.length c∧w.ownsRow W0.heap.size 128 4 (.slice a M.length c) M.length cs∧Cl (EP (Apart any (.slice a M.length c)) w) 4 M cs
  | 9=>v=.agg #[.slice none 0 0,.int .i64 3,.slice none 0 0,.int .i64 1]
  | 10=>f 11=false→∃ S,v=.slice (some ⟨S,0,none⟩) 1 1∧w.heap[S]?=some (.cells #[.slice none 0 0,.int .i64 3,.slice none 0 0,.int .i64 1] 128)
  | 11=>f 12=false→PsO any w v MW∧∃ a c,v=.slice a MW.length c
  | 12=>PsO any w v (pnorm MW)∧∃ a c,v=.slice a (pnorm MW).length c
  | 13=>PsO any w v (pnorm MW)∧∃ a c,v=.slice a (pnorm MW).length c
  | _=>True
structure G10 (f:Nat→Bool) (us:Nat→Value) (w:World):Prop where
  bel:Below W0.heap.size W0 w
  all:∀ k,f k=true→R10 W0 kv p0 p1 y0 y1 A1 A2 M MW f k (us k) w
  late:(f 12=true→f 11=true)∧(f 13=true→f 11=true)
variable {W0 kv p0 p1 y0 y1 A1 A2 M MW}
end
end Go.Proofs.YtpingbiibbmcaaaGreatDoor.Mn
namespace Go.Proofs.YtpingbiibbmcaaaGreatDoor
namespace Mn
open Go Go.RowKit Tr
open Rw (Nd Nds)
def BoxN (w:World) (b:Nat) (x:Nd):Prop:=w.cell? ⟨b,0,none⟩=some (.int .i64 x.k)∧w.cell? ⟨b,1,none⟩=some (.string x.n)∧w.cell? ⟨b,2,none⟩=some (.int .i64 x.s)
def AtR (w:World) (b off:Nat) (ls:List (List Nd)):Prop:=∀ i,(h:i<ls.length)→∃ a,w.cell? ⟨b,off+i,none⟩=some a∧Nds w a ls[i]
def PC (l:List Nd):Prop:=∀ (v:Value) (w:World),Nds w v l→Calls Tryz.prog 54 #[v] w (OutT any (Mt l) w)
def QC (l:List Nd):Prop:=∀ (v:Value) (w:World),Nds w v l→Calls Tryz.prog 101 #[v] w (OutP any (Mp l) w)
def RT (l:List Nd):Prop:=∀ (v:Value) (w:World),Nds w v l→Calls Tryz.prog 50 #[v] w (OutT none' (Mt l) w)
abbrev Fr (w:World) (b:Nat):Prop:=w.heap.size≤b





end Mn
namespace Ru
open Go Go.RowKit Rw YtpingbiibbmcaaaGreatDoor.So Se Tr Mn Do Sp Me St
theorem y6y (v:Value) (l:List Nd) (w:World) (hv:Nds w v l) (hl:l.length≤1000) (hm:Nms l):Calls Tryz.prog 47 #[v] w fun e w'=>e=.returned (.int .i64 (errR l))∧Below w.heap.size w w':=by
  have HO:=Lib.hid (Sx.y9b l false v w hv hl hm);have HST:=Lib.hid (fun w1 (hb:Below w.heap.size w w1)=>Do.y2y v l w1 (hv.below hb) hl hm);have HZ:=Lib.hid (fun w1 (hb:Below w.heap.size w w1)=>Mn.x8e v l w1 (hv.below hb) hl);have he:errR l=if onB l false&&setB l then (if smallB l then 0 else 70) else 1:=rfl
  rw [he];obtain ⟨_,a,c,rfl,-⟩:=hv;clear he hm
  cases ho:onB l false with
  | false=>
    rw [ho] at HO;clear HST HZ ho
    go_enter Tryz.func47,Tryz.ntmps47
    go_wp2_with fail;refine HO.out.mono ?_;rintro e w1 ⟨rfl,hb1⟩;have D1:=Lib.hid hb1;clear hb1;go_wp2_with fail;go_ret;exact ⟨rfl,D1.out⟩
  | true=>
    rw [ho] at HO;clear ho
    cases hs:setB l with
    | false=>
      rw [hs] at HST;clear HZ hs
      go_enter Tryz.func47,Tryz.ntmps47
      go_wp2_with fail;refine HO.out.mono ?_;rintro e w1 ⟨rfl,hb1⟩;have D1:=Lib.hid hb1;clear hb1;go_wp2_with fail;refine (HST.out _ D1.out).mono ?_;rintro e w2 ⟨rfl,hb2⟩;have D2:=Lib.hid (D1.out.trans (hb2.mono D1.out.size));clear hb2;go_wp2_with fail;go_ret;exact ⟨rfl,D2.out⟩
    | true=>
      rw [hs] at HST;clear hs;generalize smallB l=q at *
      go_enter Tryz.func47,Tryz.ntmps47
      go_wp2_with fail;refine HO.out.mono ?_;rintro e w1 ⟨rfl,hb1⟩;have D1:=Lib.hid hb1;clear hb1;go_wp2_with fail;refine (HST.out _ D1.out).mono ?_;rintro e w2 ⟨rfl,hb2⟩;have D2:=Lib.hid (D1.out.trans (hb2.mono D1.out.size));clear hb2;go_wp2_with fail;refine (HZ.out _ D2.out).mono ?_;rintro e w3 ⟨rfl,hb3⟩;have D3:=Lib.hid (D2.out.trans (hb3.mono D2.out.size));clear hb3
      cases q
      · go_wp2_with fail;go_ret;exact ⟨rfl,D3.out⟩
      · go_wp2_with fail;go_ret;exact ⟨rfl,D3.out⟩
theorem z4u (y a:Value) (r:Rn) (z:Int) (w:World) (hy:Nds w y r.l) (ha:Tr.Strs w a r.a) (hl:r.a.length≤100000):Calls Tryz.prog 14 #[.agg #[y,a,.int .i64 z]] w (TrP (trR r) (endB r.l) w):=by
  have HB:=Lib.hid (fun x z=>((Below.refl w.heap.size w).alloc (Nat.le_refl _) x).alloc (by simp) z);have HE:=Lib.hid (fun w1 (hb:Below w.heap.size w w1)=>Se.z7e y r.l w1 (hy.below hb));have HC:=Lib.hid (fun w1 (hb:Below w.heap.size w w1)=>z7i a r.a.length (r.a.map .string) w1 (Ap.Rd.below ha hb) (z4v _) (by omega))
  have he:Se.overB r.l=endB r.l∧(endB r.l=true→Se.overS r.l=sgn r.l):=by
    match r.l with
    | []=>exact ⟨rfl,fun h=>by cases h⟩
    | [x]=>
      have e1:endB [x]=(x.k==11):=Bool.true_and _;refine ⟨e1.symm,fun h=>?_⟩;rw [e1] at h
      show (if x.k==11 then x.s else 0)=x.s
      rw [if_pos h]
    | x::y::t=>exact ⟨rfl,fun h=>by
        have:endB (x::y::t)=false:=by unfold endB; simp
        rw [this] at h
        cases h⟩
  rw [he.1] at HE;obtain ⟨_,ya,yc,rfl,-⟩:=hy;obtain ⟨_,aa,ac,rfl,-⟩:=ha;unfold TrP trR
  cases hq:endB r.l with
  | true=>
    rw [hq,he.2 hq] at HE;rw [if_pos rfl];generalize sgn r.l=s at *;clear he hq
    go_enter Tryz.func14,Tryz.ntmps14
    go_wp2_with fail;refine (HE.out _ (HB.out _ _)).mono ?_;rintro e w1 ⟨rfl,hb1⟩;have q1:=kc (p:=⟨w.heap.size,1,none⟩) (u:=.slice aa r.a.length ac) hb1 (by simp [go_sem]);have q2:=kc (p:=⟨w.heap.size+1,0,none⟩) (u:=.slice none 0 0) hb1 (by simp [go_sem]);have q3:=kc (p:=⟨w.heap.size+1,1,none⟩) (u:=.int .i64 0) hb1 (by simp [go_sem]);have q4:=kf (p:=⟨w.heap.size+1,0,none⟩) hb1 (by simp [go_sem]) (by simp);have q5:=kf (p:=⟨w.heap.size+1,1,none⟩) hb1 (by simp [go_sem]) (by simp);have G:=Lib.hid ((hb1.block _ (by simp)).trans (new2 _ _ _));have D1:=Lib.hid ((HB.out _ _).trans (hb1.mono (HB.out _ _).size));clear hb1;go_wp2_with fail;refine (HC.out _ D1.out).mono ?_;rintro e w2 ⟨vc,rfl,hown,hb2⟩;have p2:=kc hb2 q2;have p3:=kc hb2 q3;have p4:=kf hb2 q4 (Ap.z0a q2);have p5:=kf hb2 q5 (Ap.z0a q3);have G2:=Lib.hid ((hb2.block _ (Ap.z0a q2)).trans G.out);have D2:=Lib.hid (D1.out.trans (hb2.mono D1.out.size));have S2:=Lib.hid (show Tr.Strs w2 vc r.a from Ap.Rd.owned hown);obtain ⟨_,va,vcc,rfl,-⟩:=Ap.Rd.owned hown;clear hb2 hown;go_wp2_with fail;obtain ⟨k0,k1⟩:=z8p (.slice va r.a.length vcc) (.int .i64 s) p2 p3;refine bodyPost_ret (v:=.tuple #[.agg #[.slice va r.a.length vcc,.int .i64 s],.bool true]) (by simp [results,Tryz.results14,go_sem,k0,k1]) rfl ⟨_,rfl,?_,?_⟩
    · exact z7x S2.out G2.out (by simp) (y2j _ _ _ _)
    · exact Rx.z0f (Rx.z0f D2.out _ _ _ (by omega)) _ _ _ (by omega)
  | false=>
    rw [hq] at HE;rw [if_neg (by decide)];generalize Se.overS r.l=s at *;clear he hq HC
    go_enter Tryz.func14,Tryz.ntmps14
    go_wp2_with fail;refine (HE.out _ (HB.out _ _)).mono ?_;rintro e w1 ⟨rfl,hb1⟩;have q2:=kc (p:=⟨w.heap.size+1,0,none⟩) (u:=.slice none 0 0) hb1 (by simp [go_sem]);have q3:=kc (p:=⟨w.heap.size+1,1,none⟩) (u:=.int .i64 0) hb1 (by simp [go_sem]);have q4:=kf (p:=⟨w.heap.size+1,0,none⟩) hb1 (by simp [go_sem]) (by simp);have q5:=kf (p:=⟨w.heap.size+1,1,none⟩) hb1 (by simp [go_sem]) (by simp);have D1:=Lib.hid ((HB.out _ _).trans (hb1.mono (HB.out _ _).size));clear hb1;go_wp2_with fail;obtain ⟨k0,k1⟩:=z8p (.slice none 0 0) (.int .i64 0) q2 q3;refine bodyPost_ret (v:=.tuple #[.agg #[.slice none 0 0,.int .i64 0],.bool false]) (by simp [results,Tryz.results14,go_sem,k0,k1]) rfl ⟨_,rfl,z7y _,?_⟩;exact Rx.z0f (Rx.z0f D1.out _ _ _ (by omega)) _ _ _ (by omega)
theorem trs_nil (w:World):Trs w (.slice none 0 0) []:=⟨[],⟨rfl,none,0,rfl,Nat.le_refl _,fun _=>⟨rfl,rfl⟩,fun h=>absurd h (Nat.lt_irrefl _)⟩,trivial⟩
end Ru
namespace Ru
open Go Go.RowKit Rw YtpingbiibbmcaaaGreatDoor.So Se Do Sp Me St
theorem y7l (l m:List UInt8):Lib.byteCells (l++m)=Lib.byteCells l++Lib.byteCells m:=by simp [Lib.byteCells]
theorem key_take {l:List Nd} {k:Nat} (h:k<l.length):keyL (l.take (k+1))=keyL (l.take k)++keyN l[k]:=by
  unfold keyL;rw [List.take_succ_eq_append_getElem h,List.flatMap_append];simp
theorem v1i {l:List Nd} (hl:∀ x∈l,x.n.size≤8):(keyL l).length≤10*l.length:=by
  induction l with
  | nil=>simp [keyL]
  | cons x l ih=>
    have h1:=hl x (List.mem_cons_self ..);have h2:=ih fun y hy=>hl y (List.mem_cons_of_mem _ hy)
    have:keyL (x::l)=keyN x++keyL l:=rfl;rw [this,List.length_append,List.length_cons];have:(keyN x).length=x.n.size+2:=by simp [keyN]
    omega
abbrev Bd (b:Nat) (l:List UInt8) (w:World):Prop:=Lib.IsBuilderF 159 5 b b (Lib.byteCells l) w
theorem wb_any (b:Nat) (l:List UInt8) (c:UInt8) (w:World) (h:Bd b l w) (hl:l.length+1≤1000000) (hb:b≤w.heap.size) :
    Calls Tryz.prog 139 #[.pointer (some ⟨b,0,none⟩),.int .u8 c.toNat] w fun e w'=>e=.returned .nilIface∧Bd b (l++[c]) w'∧Below b w w'∧Lib.OthersKept 5 (some b) w w':=by
  have:=Any.Builder_WriteByte_k lay167 bext b b (Lib.byteCells l) c.toNat w h (by rw [Lib.byteCells_length]; omega) hb;change Calls Tryz.prog 139 _ _ _ at this;refine this.mono fun e w' ⟨h1,h2,h3,h4⟩=>⟨h1,.inr ?_,h3,h4⟩
  rw [y7l];exact h2
theorem ws_any (b:Nat) (l:List UInt8) (s:ByteArray) (w:World) (h:Bd b l w) (hl:l.length+s.size≤1000000) (hb:b≤w.heap.size) :
    Calls Tryz.prog 124 #[.pointer (some ⟨b,0,none⟩),.string s] w fun e w'=>e=.returned (.tuple #[.int .i64 s.size,.nilIface])∧Bd b (l++s.data.toList) w'∧Below b w w'∧Lib.OthersKept 5 (some b) w w':=by
  have:=Any.Builder_WriteString_k lay166 bext b b (Lib.byteCells l) s w h (by rw [Lib.byteCells_length]; omega) hb;change Calls Tryz.prog 124 _ _ _ at this;refine this.mono fun e w' ⟨h1,h2,h3,h4⟩=>⟨h1,.inr ?_,h3,h4⟩
  rw [y7l];exact h2
theorem st_any (b:Nat) (l:List UInt8) (w:World) (h:Bd b l w) (hb:b≤w.heap.size) :
    Calls Tryz.prog 125 #[.pointer (some ⟨b,0,none⟩)] w fun e w'=>e=.returned (.string ⟨l.toArray⟩)∧Below b w w':=by
  have:=Any.Builder_String_any_k lay169 bext b b l w h hb;change Calls Tryz.prog 125 _ _ _ at this;exact this.mono fun e w' ⟨h1,h2,h3,h4⟩=>⟨h1,h3⟩
theorem rgt_name {x:Nd} (h:rgt x=true):x.n.size≤8:=by
  unfold rgt at h
  split at h
  · cases h
  · split at h
    · simp only [Bool.and_eq_true,decide_eq_true_eq] at h;exact h.1.1.2.2
    · split at h
      · simp only [Bool.and_eq_true,decide_eq_true_eq] at h;omega
      · simp only [Bool.and_eq_true,decide_eq_true_eq] at h;omega
theorem to8 {z:Int} (h:0≤z∧z≤14):IntKind.u8.wrap z=z∧(UInt8.ofNat z.toNat).toNat=z.toNat∧((z.toNat:Nat):Int)=z:=by
  refine ⟨?_,?_,by omega⟩
  · obtain ⟨n,rfl⟩:∃ n:Nat,z=n:=⟨z.toNat,by omega⟩
    have:n≤14:=by omega
    match n,this with
    | 0,_=>rfl
    | 1,_=>rfl
    | 2,_=>rfl
    | 3,_=>rfl
    | 4,_=>rfl
    | 5,_=>rfl
    | 6,_=>rfl
    | 7,_=>rfl
    | 8,_=>rfl
    | 9,_=>rfl
    | 10,_=>rfl
    | 11,_=>rfl
    | 12,_=>rfl
    | 13,_=>rfl
    | 14,_=>rfl
  · rw [UInt8.toNat_ofNat'];omega
theorem v1j (b off cap:Nat) (l:List Nd) (w:World) (hl:l.length≤1000) (hr:l.all rgt=true) (hat:At w b off l) :
    Calls Tryz.prog 81 #[.slice (some ⟨b,off,none⟩) l.length cap] w fun e w'=>e=.returned (.string (keyS l))∧Below w.heap.size w w':=by
  have HA:=Lib.hid hat;have hr':∀ x∈l,rgt x=true:=by rw [List.all_eq_true] at hr; exact hr
  have HR:=Lib.hid hr';clear hat hr
  go_enter Tryz.func81,Tryz.ntmps81
  go_wp2_with fail
  go_loopw [8] (fun i wr=>∃ k:Nat,k≤l.length∧i=.int .i64 k∧Hid (Bd w.heap.size (keyL (l.take k)) wr)∧Hid (Below w.heap.size w wr)∧w.heap.size<wr.heap.size) (fun i _=>l.length-(intOf i).toNat)
  case atStart=>exact ⟨0,Nat.zero_le _,rfl,Lib.hid (Lib.IsBuilderF.of (Lib.fresh_isBuilder _ _ w)),Lib.hid (Rw.z0b w _),by simp⟩
  case round=>
    obtain ⟨k,hk,rfl,HI,HB,hsz⟩:=hrel
    by_cases hlt:k<l.length
    · obtain ⟨e1,e2,e3⟩:=HA.out k hlt;have c1:wr.cell? ⟨b,off+k*3,none⟩=some (.int .i64 l[k].k):=by rw [HB.out.cell (Ap.z0a e1)]; exact e1
      have c2:wr.cell? ⟨b,off+k*3+1,none⟩=some (.string l[k].n):=by rw [HB.out.cell (Ap.z0a e2)]; exact e2
      have c3:wr.cell? ⟨b,off+k*3+2,none⟩=some (.int .i64 l[k].s):=by rw [HB.out.cell (Ap.z0a e3)]; exact e3
      obtain ⟨r1,r2,_⟩:=y3b (HR.out _ (List.getElem_mem hlt));have hn8:=rgt_name (HR.out _ (List.getElem_mem hlt))
      have hkl:(keyL (l.take k)).length≤10000:=by
        have:=v1i (l:=l.take k) fun x hx=>rgt_name (HR.out x (List.mem_of_mem_take hx))
        rw [List.length_take] at this;omega
      have HT:=Lib.hid (key_take hlt);obtain ⟨x,hx⟩:∃ x,l[k]=x:=⟨_,rfl⟩
      rw [hx] at c1 c2 c3 r1 r2 hn8 HT;obtain ⟨xk,xn,xs⟩:=x;simp only at c1 c2 c3 r1 r2 hn8;clear hx e1 e2 e3;obtain ⟨k1,k2,k3⟩:=to8 r1;obtain ⟨s1,s2,s3⟩:=to8 (z:=xs) ⟨r2.1,by omega⟩;have HKN:=Lib.hid (show keyN ⟨xk,xn,xs⟩=UInt8.ofNat xk.toNat::UInt8.ofNat xs.toNat::xn.data.toList from rfl);generalize keyL (l.take k)=q at *;obtain ⟨W0,hW0⟩:∃ W0,wr.alloc (.cells #[.int .i64 xk,.string xn,.int .i64 xs] 68)=W0:=⟨_,rfl⟩
      have g0:W0.heap[wr.heap.size]?=some (.cells #[.int .i64 xk,.string xn,.int .i64 xs] 68 (0,0)):=by rw [← hW0]; exact Rx.z6j wr _
      have B0:Below w.heap.size w W0:=by rw [← hW0]; exact HB.out.alloc (Nat.le_of_lt hsz) _
      have y0:w.heap.size<W0.heap.size:=by rw [← hW0]; simp; omega
      have z0:=Nat.le_of_lt y0;have I0:Bd w.heap.size q W0:=by rw [← hW0]; exact Lib.IsBuilderF.alloc HI.out _
      have o0:W0.cell? ⟨wr.heap.size,0,none⟩=some (.int .i64 xk):=by simp only [World.cell?,g0]; rfl
      have C0:=Lib.hid (wb_any w.heap.size q (UInt8.ofNat xk.toNat) W0 I0 (by omega) z0);rw [k2,k3] at C0;have G0:=Lib.hid g0;have BB0:=Lib.hid B0;clear HI g0 B0 I0;go_wp2_with fail;refine C0.out.mono ?_;rintro e w1 ⟨rfl,I1,b1,k1'⟩;have g1:=k1' _ _ G0.out (by simp; omega) (fun c fz e=>by injection e with e1 e2 e3; exact absurd e2 (by decide));have o1:w1.cell? ⟨wr.heap.size,2,none⟩=some (.int .i64 xs):=by simp only [World.cell?,g1]; rfl
      have C1:=Lib.hid (wb_any w.heap.size (q++[UInt8.ofNat xk.toNat]) (UInt8.ofNat xs.toNat) w1 I1 (by simp; omega) (Nat.le_trans z0 b1.size));rw [s2,s3] at C1;have G1:=Lib.hid g1;have BB1:=Lib.hid (BB0.out.trans b1);have y1:=Nat.lt_of_lt_of_le y0 b1.size;have z1:=Nat.le_of_lt y1;clear I1 g1 b1 k1' C0;go_wp2_with fail;refine C1.out.mono ?_;rintro e w2 ⟨rfl,I2,b2,k2'⟩;have g2:=k2' _ _ G1.out (by simp; omega) (fun c fz e=>by injection e with e1 e2 e3; exact absurd e2 (by decide));have o2:w2.cell? ⟨wr.heap.size,1,none⟩=some (.string xn):=by simp only [World.cell?,g2]; rfl
      have C2:=Lib.hid (ws_any w.heap.size (q++[UInt8.ofNat xk.toNat]++[UInt8.ofNat xs.toNat]) xn w2 I2 (by simp; omega) (Nat.le_trans z1 b2.size));have BB2:=Lib.hid (BB1.out.trans b2);have y2:=Nat.lt_of_lt_of_le y1 b2.size;clear I2 g2 b2 k2' C1;go_wp2_with fail;refine C2.out.mono ?_;rintro e w3 ⟨rfl,I3,b3,_⟩
      have I3':=Lib.hid (show Bd w.heap.size (keyL (l.take (k+1))) w3 by
        rw [HT.out,HKN.out]
        simpa using I3)
      have BB3:=Lib.hid (BB2.out.trans b3);have z3:=Nat.lt_of_lt_of_le y2 b3.size;clear I3 b3 C2;go_wp2_with fail
      go_roundw
      case rel=>exact ⟨k+1,by omega,by go_num,I3',BB3,z3⟩
      case measure=>simp [intOf]; omega
    · have HZ:=Lib.hid (show l.take k=l from List.take_of_length_le (by omega));rw [HZ.out] at HI;go_wp2_with fail;refine (st_any _ _ _ HI.out (Nat.le_of_lt hsz)).mono ?_;rintro e w1 ⟨rfl,b1⟩;have B1:=Lib.hid (HB.out.trans b1);clear b1;go_wp2_with fail;go_ret;exact ⟨rfl,B1.out⟩
theorem y3u (v:Value) (l:List Nd) (w:World) (hv:Nds w v l) (hl:l.length≤1000) (hr:l.all rgt=true) (h0:l≠[]):Calls Tryz.prog 81 #[v] w fun e w'=>e=.returned (.string (keyS l))∧Below w.heap.size w w':=by
  rcases hv.form with ⟨rfl,_⟩ | ⟨b,off,cap,rfl,_,hat⟩
  · exact absurd rfl h0
  · exact v1j b off cap l w hl hr hat
end Ru
end Go.Proofs.YtpingbiibbmcaaaGreatDoor
