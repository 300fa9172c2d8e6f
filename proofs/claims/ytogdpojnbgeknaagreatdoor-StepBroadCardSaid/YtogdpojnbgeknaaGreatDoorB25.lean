import Derived.Test.YtogdpojnbgeknaaGreatDoorB19
import Derived.Test.YtogdpojnbgeknaaGreatDoorB24
import Derived.Test.YtogdpojnbgeknaaGreatDoorB23
import Derived.Test.YtogdpojnbgeknaaGreatDoorB12
import Derived.Laws.AppendOwnNone
import Derived.Test.YtogdpojnbgeknaaGreatDoorB0
import Derived.Test.YtogdpojnbgeknaaGreatDoorCards
import Derived.Test.YtogdpojnbgeknaaGreatDoorTie
import Derived.Test.YtogdpojnbgeknaaGreatDoorB3
import Derived.Test.YtogdpojnbgeknaaGreatDoorB5
import Derived.ProofKit
import Derived.Stop.LaidErr
import Derived.LaidMore
import Derived.Lay
import Derived.Lib.SmallJoins
import Derived.Deep.DeepHandedRow
import Derived.SevenTiedAt
import Derived.OpenShut
import Derived.Below
import Derived.Test.YtogdpojnbgeknaaGreatDoorB21
set_option maxRecDepth 100000
set_option maxHeartbeats 16000000
namespace Go.Proofs.YtogdpojnbgeknaaGreatDoor
open Go.ChangeShapes Go.WideShapes Go.ChangeAt Go.RowKit
open Gen
open Lib (hid)
def b_V (c:List Ins):List Value:=c.flatMap d_S
theorem k_O {Q:Nat→Prop} {w:World}:∀ (c:List Ins),d_p repIns Q w (b_V c) c
  | []=>q_C
  | i::c=>⟨d_S i,b_V c,by simp [b_V],rfl,k_O c⟩
theorem l_X {Q:Nat→Prop} {w:World}:∀ (c:List Ins) (cs:List Value),d_p repIns Q w cs c→cs=b_V c
  | [],_,h=>h
  | i::c,_,⟨a,b,e,h1,h2⟩=>by
    have h1:a=d_S i:=h1;subst e;subst h1;rw [l_X c b h2];simp [b_V]
theorem u_f (c:List Ins):∀ u∈b_V c,u.oneCell'=true:=by
  intro u hu;obtain ⟨i,-,hi⟩:=List.mem_flatMap.1 hu;simp only [d_S,List.mem_cons,List.mem_nil_iff,or_false] at hi
  rcases hi with rfl | rfl | rfl | rfl <;> rfl
theorem u_m {Q:Nat→Prop} {w:World} {a:Option Addr} {n:Nat} {c:List Ins} (h:Vs repIns Q w a n c):∀ p,a=some p→∀ j u,(b_V c)[j]?=some u→w.cell? (p.add j)=some u:=by
  obtain ⟨cs,h1,h2⟩:=h_G h;rw [l_X c cs h1] at h2;exact h2
theorem t_u {Q:Nat→Prop} {w:World} {g n:Nat} {code:List Ins} (h:a_p w g (b_V code)) (hl:code.length=n) (hQ:Q g):Vs repIns Q w (some ⟨g,0,none⟩) n code:=by
  refine ⟨hl,.inr ⟨g,0,rfl,hQ,fun i y hy=>?_⟩⟩;obtain ⟨c,hR,hc⟩:=f_B (k_O (Q:=Q) (w:=w) code) i y hy
  exact ⟨c,hR,fun j v hv=>by
    have:=(h (i*4+j) v (hc j v hv)).1;rw [Nat.zero_add];exact this⟩
theorem f_y (code:List Ins):(b_V code).length=code.length*4:=b_f (k_O (Q:=Any) (w:=default) code)
theorem k_y:∀ (code:List Ins) (p:Nat) (i:Ins),p < code.length→b_V (code.set p i)=(b_V code).take (p*4)++d_S i++(b_V code).drop (p*4+4):=by
  intro code
  induction code with
  | nil=>intro p i h;simp at h
  | cons a l ih =>
    intro p i h
    cases p with
    | zero=>simp [b_V,d_S]
    | succ p =>
      have:=ih p i (by simpa using h);rw [List.set_cons_succ]
      show d_S a++b_V (l.set p i)=List.take ((p+1)*4) (d_S a++b_V l)++d_S i++List.drop ((p+1)*4+4) (d_S a++b_V l)
      rw [this,show (p+1)*4=p*4+4 by omega];simp [d_S]
theorem p_k {w:World} {B e n:Nat} {sz:Nat} {v:Value} {xs:List Value} (h:w.ownsRow B e sz v n xs) (hn:0 < n*sz):∃ g c,v=.slice (some ⟨g,0,none⟩) n c∧B≤g∧g < w.heap.size∧n≤c∧c≤9223372036854775807∧a_p w g xs:=by
  obtain ⟨hl,h⟩:=h
  rcases h with ⟨-,rfl⟩ | ⟨g,c,cur,rfl,hb,hh,h1,h2,h3,h4⟩
  · simp at hn
  · have hs:n*sz≤cur.size:=by rw [h3];exact Nat.mul_le_mul_right _ h1
    refine ⟨g,c,rfl,hb,?_,h1,h2,fun i v hv=>?_⟩
    · exact (Array.getElem?_eq_some_iff.1 hh).1
    · have hi:i < n*sz:=by have:=(List.getElem?_eq_some_iff.1 hv).1;omega
      have e:cur[i]?=some v:=by
        rw [←h4,List.getElem?_take,if_pos hi] at hv
        simpa using hv
      exact ⟨by simp [World.cell?,hh,e],by simp [World.frozen?,hh]⟩
theorem r_e {w:World} {B e n vc sz:Nat} {va:Option Addr} {xs:List Value} (h:w.ownsRow B e sz (.slice va n vc) n xs):Cap va n vc:=by
  obtain ⟨-,h⟩:=h
  rcases h with ⟨h1,h2⟩ | ⟨g,c,cur,h1,-,-,h2,h3,-⟩
  · cases h1;exact ⟨by omega,by omega,fun _=>rfl⟩
  · cases h1;exact ⟨h2,h3,fun h=>by cases h⟩
def t_D (w V:World) (gX:Nat) (LX:WoL) (X:Wo) (wx:World):Prop:=
  ∃ va vc,Hid (a_p wx gX (woC { LX with co:=⟨va,LX.co.n,vc⟩ } X.D))∧Cap va LX.co.n vc∧Hid (RWo (fun b=>b < gX) wx LX X)∧Hid (Below w.heap.size w wx)∧Hid (V.heap.size≤wx.heap.size)∧(0 < LX.co.n→∃ gc,va=some ⟨gc,0,none⟩∧V.heap.size≤gc∧gc < wx.heap.size∧Hid (a_p wx gc (b_V X.code)))
theorem l_P {w V wx:World} {gX:Nat} {LX:WoL} {X:Wo} {va:Option Addr} {vc n:Nat} (hn:LX.co.n=n) (hx:a_p wx gX (woC LX X.D)) (hb:Below w.heap.size w wx) (hV:V.heap.size≤wx.heap.size) (hr:RWo (fun b=>b < gX) wx LX X) (hg:w.heap.size≤gX) (hgV:gX+1≤V.heap.size) (hc:Cap va n vc) (ho:0 < n→wx.ownsRow V.heap.size 66 4 (.slice va n vc) n (b_V X.code)):t_D w V gX LX X (wx.setCell ⟨gX,0,none⟩ (.slice va n vc)):=by
  subst hn;refine ⟨va,vc,hid (a_y hx 0 (by simp) (.slice va LX.co.n vc)),hc,hid (a_z (a_U wx ⟨gX,0,none⟩ _ (fun b hb=>by show b≠gX;omega)) hr),hid (a_g (xs:=[.slice va LX.co.n vc]) (k:=0) hg hb),hid (by rw [World.size_setCell];exact hV),fun h0=>?_⟩;obtain ⟨gc,c,e,h1,h2,-,-,hv⟩:=p_k (ho h0) (by omega)
  cases e
  exact ⟨gc,rfl,h1,by rw [World.size_setCell];exact h2,hid (a_l hv (by omega) _)⟩
theorem brR (th:Int) {n:Nat} (h1:1≤n) (h8:n≤8):∃ k:Nat,(wrap64 (th.tmod n+n)).tmod n=(k:Int)∧k < n:=by
  have a1:=Int.tmod_lt_of_pos th (show (0:Int) < n by omega);have a2:=Int.lt_tmod_of_pos th (show (0:Int) < n by omega);rw [IntWalk.wrap64_in _ (by omega)];have a3:=Int.tmod_lt_of_pos (th.tmod n+n) (show (0:Int) < n by omega);have a4:=Int.tmod_nonneg (n:Int) (show 0≤th.tmod n+n by omega);exact ⟨((th.tmod n+n).tmod n).toNat,(Int.toNat_of_nonneg a4).symm,by omega⟩
theorem u_a:(Tryz.prog.info? 66).map (fun i=>(i.zero,i.size,i.bytes))=some (some (.agg #[.int .i64 0,.int .i64 0,.int .i64 0,.int .i64 0]),4,32):=by kernel_rfl
theorem s_P:(Tryz.prog.info? 3).map (fun i=>(i.zero,i.size,i.bytes))=some (some (.int .i64 0),1,8):=by kernel_rfl
theorem q_u {X:Wo} {j:Nat} (hj:j < X.bs.length):((b_m X).map (Value.int .i64)).take j++[.int .i64 ((X.bs.getD j []).length:Int)]=((b_m X).map (Value.int .i64)).take (j+1):=by
  have:((b_m X).map (Value.int .i64))[j]?=some (.int .i64 ((X.bs.getD j []).length:Int)):=by simp [b_m,List.getElem?_map,List.getElem?_eq_getElem hj,List.getD_eq_getElem?_getD]
  rw [List.take_add_one,this];rfl
theorem n_4 (w:World) (x:Value) (t:TypeId):∀ j u,[x][j]?=some u→(w.alloc (.cells #[x] t)).cell? ((⟨w.heap.size,0,none⟩:Addr).add j)=some u:=by
  intro j u h
  obtain rfl:j=0:=by
    have:=(List.getElem?_eq_some_iff.1 h).1;simp at this;omega
  simp at h;subst h;simp [Addr.add]
theorem s_D {C:List Ins} {p k m:Nat} {vs:List Int} {Z:Wo} (H:BrI C p k m vs Z):BrI C p k (m+1) vs Z:=
  ⟨⟨H.ok.right,H.ok.wf,Nat.le_succ_of_le H.ok.ev⟩,H.code,H.at_,H.hk,H.pc,H.lf,H.len,H.pos⟩
theorem s_C (Z:Wo) (a:Int×Int) (vs:List Int):(brN Z a vs).length=vs.length:=by
  unfold brN
  split
  · exact List.length_set
  · rfl
theorem t_4 {vs:List Int} {q n:Nat} (h:∀ x∈vs,0≤x∧x≤8) (hl:vs.length=n) (hq:q < n):(vs.take (q+1)).sum=(vs.take q).sum+vs.getD q 0∧0≤(vs.take q).sum∧(vs.take q).sum≤8*n∧0≤vs.getD q 0∧vs.getD q 0≤8:=by
  have h1:=l_L (ws:=vs.take q) (fun x hx=>h x (List.mem_of_mem_take hx));have h2:=h _ (i_I (ws:=vs) (j:=q) (by omega));rw [List.length_take] at h1;refine ⟨?_,h1.1,by have:=h1.2.1;omega,h2.1,h2.2⟩;rw [List.take_add_one,List.sum_append];simp [List.getD_eq_getElem?_getD,List.getElem?_eq_getElem (show q < vs.length by omega)]
theorem i_N (vs:List Int) (j:Nat) (h:j < vs.length):(vs.map (Value.int .i64))[j]?=some (.int .i64 (vs.getD j 0)):=by
  simp [List.getElem?_map,List.getElem?_eq_getElem h,List.getD_eq_getElem?_getD]
theorem q_Z (vs:List Int) (j:Nat) (v:Int):(vs.map (Value.int .i64)).set j (.int .i64 v)=(vs.set j v).map (Value.int .i64):=by rw [List.map_set]
def u_0 (w:World) (gN gw ga:Nat) (L:WoL) (Z:Wo) (a1 a2:Int) (vs:List Int) (wx:World):Prop:=
  Hid (a_p wx gN (woC L Z.D))∧Hid (RWo (fun b=>b≠gN∧b≠gw) wx L Z)∧Hid (a_p wx gw (vs.map (Value.int .i64)))∧Hid (a_p wx ga [.int .i64 a1,.int .i64 a2])∧Hid (Below w.heap.size w wx)
theorem h_L (ca sa wa ta aa ma:Option Addr) (cn cc sn sc wn wk tn tc an ac mn mc:Nat) (code:List Ins) (starts ws ts:List Int) (d:Int) (acts more:List (Int×Int)) (th:Int) (w:World) (H:WArgs w ca sa wa ta aa cn cc sn sc wn wk tn tc an ac code starts ws ts acts) (HMO:Vs e_3 Any w ma mn more) (hmo:mn≤mc∧mc≤9223372036854775807) :
    Calls Tryz.prog 7 #[.slice ca cn cc,.slice sa sn sc,.slice wa wn wk,.slice ta tn tc,.int .i64 d,.slice aa an ac,.slice ma mn mc,.int .i64 th] w fun e w'=>e=.returned (.bool true)∧Below w.heap.size w w':=by
  have HG:=hid H.G;have h0:=n_y ca sa wa ta aa cn cc sn sc wn wk tn tc an ac code starts ws ts d acts w H.C H.S H.W H.T H.A H.hc H.hs H.hw H.ht H.ha H.hwf H.hww;have hok:=o_9 (starts:=starts) (ts:=ts) (d:=d) (acts:=acts) H.hwf H.hww;obtain ⟨X,hX⟩:∃ X,k_m code starts ws ts d acts=X:=⟨_,rfl⟩;rw [hX] at h0 hok;have ⟨H0,HOK,HMO',HMC⟩:=hh4 h0 hok HMO hmo;clear hX h0 hok H HMO hmo
  go_enter Tryz.func7,Tryz.ntmps7
  go_wp2_with fail
  refine H0.out.mono ?_;rintro e w1 ⟨LX,rfl,R1,hb1⟩;have ⟨HB1,HR1⟩:=hh2 hb1 R1;clear hb1 R1
  go_upto_region 2 with (refine a_c rfl 33 _ _ rfl w1.heap.size (woC LX X.D).toArray rfl rfl _ (a_e woZ w1.heap.size rfl) rfl (by kernel_rfl) (b_p _ _) ?_;intro V HV)
  obtain ⟨gX,hgX⟩:∃ g,w1.heap.size=g:=⟨_,rfl⟩;have HXV:=hid (show a_p V gX (woC LX X.D) by rw [HV.out,←hgX];exact a_q (a_e woZ _ rfl) rfl);have HBV0:=hid (show Below w1.heap.size w1 V by rw [HV.out];exact a_g (Nat.le_refl _) ((Below.refl _ _).alloc (Nat.le_refl _) _));have HBV:=hid (a_a HB1.out HBV0.out);have HSV:=hid (show V.heap.size=gX+1 by rw [HV.out,a_O,←hgX];simp);have HRX:=hid (show RWo (fun b=>b < gX) V LX X by rw [←hgX];exact a_D (fun b h=>h.2) (b_q HBV0.out (c_h HR1.out)));have HGX:=hid (show w.heap.size≤gX by rw [←hgX];exact HB1.out.size);rw [hgX];clear HV HR1 hgX HB1 HBV0;obtain ⟨n,hn⟩:∃ n,LX.th.n=n:=⟨_,rfl⟩;have HNX:=hid (show X.th.length=n by rw [←hn];exact HRX.out.th.1);have HNN:=hid hn;have hn1:1≤n:=by have:=(s_3 HOK.out).1;have:=HNX.out;omega
  have hn8:n≤8:=by have:=(s_3 HOK.out).2;have:=HNX.out;omega
  obtain ⟨x5,-⟩:=HXV.out 5 _ rfl;rw [HNN.out] at x5;have q0:¬ (n:Int)=0:=by omega
  have q1:((n:Int)==0)=false:=by simp;omega
  clear hn;dsimp only [Act.put]
  go_quiet (fail)
  obtain ⟨k,hk,hkn⟩:=brR th hn1 hn8;rw [hk];clear hk x5 q0 q1;obtain ⟨V2,hV2⟩:∃ V2,V.drewN nq=V2:=⟨_,rfl⟩;have hb2:Below V.heap.size V V2:=by rw [←hV2];exact below_drewN (Below.refl _ _) nq
  have HX2:=hid (a_h hb2 HXV.out);have HB2:=hid (a_a HBV.out hb2);have HR2:=hid (b_q hb2 HRX.out);have HS2:=hid (show gX+1≤V2.heap.size by have:=hb2.size;have:=HSV.out;omega);rw [hV2];clear hV2 hb2 HXV HBV HRX HSV;obtain ⟨pn,hpn⟩:∃ n,LX.co.n=n:=⟨_,rfl⟩;obtain ⟨pc,hpc⟩:∃ n,LX.co.c=n:=⟨_,rfl⟩;have HPN:=hid hpn;have hcap:=HR2.out.cco;unfold Sp.ok Cap at hcap;rw [hpn,hpc] at hcap;have HCC:=hid (show X.code.length=pn by rw [←hpn];exact HR2.out.co.1);have HC1:=hid (show pn≤1000 by have:=(okS HOK.out.right).2.1.1;have:=HCC.out;omega);obtain ⟨i0,hi,hz0,hz1,hz2⟩:=info_parts u_a;have HI:=N47;obtain ⟨y0,-⟩:=HX2.out 0 _ rfl;rw [hpn,hpc] at y0;obtain ⟨pa,hpa⟩:∃ a,LX.co.a=a:=⟨_,rfl⟩;rw [hpa] at y0 hcap;have HCL:=hid (show (b_V X.code).length=pn*4 by rw [f_y,HCC.out])
  have HSC:=hid (show ∀ p,pa=some p→∀ j u,(b_V X.code)[j]?=some u→V2.cell? (p.add j)=some u by
    intro p hp j u hj;exact u_m HR2.out.co p (by rw [hpa,hp]) j u hj)
  clear hi hz0 hz1 hz2 hpn hpc hpa;replace y0:=a_8 (Obj.cells #[] 66) y0
  go_upto_region 3 with fail
  go_cut [] (fun wx=>t_D w V2 gX LX X wx)
  case first =>
    as_aux_lemma =>
      cases pa with
      | none =>
        obtain rfl:pc=0:=hcap.2.2 rfl;obtain rfl:pn=0:=by omega
        obtain ⟨y4,z4⟩:=a_s (.cells #[] 66) HX2.out 0 _ rfl;clear y4
        go_wp2_with (at_builtin;refine wpList_append_own_none rfl _ _ 22 rfl V2.heap.size 66 i0 4 Tryz.underlying22 HI.out.1 _ 0 [] rfl (World.ownsRow_made V2 #[] 0 (Nat.le_refl _) (by decide) (by simp)) rfl ?_)
        go_meet
        exact l_P HPN.out (a_s _ HX2.out) (HB2.out.alloc HB2.out.size _) (by rw [World.size_alloc];omega) (b_q ((Below.refl _ _).alloc (Nat.le_refl _) _) HR2.out) HGX.out HS2.out ⟨by omega,by omega,by simp⟩ (fun h=>by omega)
      | some p =>
        go_wp2_with (at_builtin;refine wpList_append_own _ rfl _ _ 22 rfl V2.heap.size 66 i0 (.agg #[.int .i64 0,.int .i64 0,.int .i64 0,.int .i64 0]) 4 32 Tryz.underlying22 HI.out.1 HI.out.2.1 HI.out.2.2.1 HI.out.2.2.2 rfl (by decide) _ 0 [] rfl (World.ownsRow_made V2 #[] 0 (Nat.le_refl _) (by decide) (by simp)) p pn pc (b_V X.code) rfl ?c1 ?c2 ?c3 ?c4 ?c5 ?c6 ?_)
        case c1=>exact HCL.out
        case c2=>exact fun j u hj=>a_8 _ (HSC.out p rfl j u hj)
        case c3=>exact u_f _
        case c4=>have:=HC1.out;unfold maxLen;omega
        case c5=>have:=HC1.out;omega
        case c6=>simp
        intro v' w4 hown hgrow _;have hb4:=((Below.refl V2.heap.size V2).alloc (Nat.le_refl _) (.cells #[] 66)).grown hgrow (by simp) (fun r hr=>by cases hr;simp);have ⟨HO,HB4⟩:=hh2 hown hb4;obtain ⟨va,vc,rfl⟩:=c_g hown;clear hown hb4 hgrow;obtain ⟨y4,z4⟩:=a_h HB4.out HX2.out 0 _ rfl
        go_wp2_with fail
        go_meet
        exact l_P HPN.out (a_h HB4.out HX2.out) (a_a HB2.out HB4.out) HB4.out.size (b_q HB4.out HR2.out) HGX.out HS2.out (r_e HO.out) (fun _=>HO.out)
  as_aux_lemma =>
   clear HSC HCL HI hcap y0;obtain ⟨va,vc,HX3,hcap,HR3,HB3,HS3,hrow⟩:=hcut;rw [HPN.out] at hcap hrow;obtain ⟨x5,-⟩:=HX3.out 5 _ rfl;rw [HNN.out] at x5;obtain ⟨b,o,t,fa,fc,la,lc,hthx,htt,-,TQ,hr⟩:=c_3 HR3.out.th (k:=k) (by have:=HNN.out;omega);rw [hthx] at x5;have HTA:=hid hthx;obtain ⟨fn,hfn⟩:∃ n,t.fs.length=n:=⟨_,rfl⟩;obtain ⟨ln,hln⟩:∃ n,t.lf.length=n:=⟨_,rfl⟩;rw [hfn,hln] at hr;have HTX:=hid (show thW X k=t by rw [thW,List.getD_eq_getElem?_getD,htt];rfl);have HRA:=hid (show wc.rangeAt b (o+k*13) (thC t fa fn fc la ln lc) from hr);have HLN:=hid hln;have i3:(0:Int)≤k:=by omega
   have i4:(k:Int) < n:=by omega
   clear hfn hln TQ hr htt hthx
   go_upto_region 5 with (first | (refine wpList_load_mid rfl 46 _ rfl b (o+k*13) rfl (thC t fa fn fc la ln lc) _ HRA.out Tryz.underlying46 rfl (by kernel_rfl) ?_) | (refine a_c rfl 46 _ _ rfl wc.heap.size (thC t fa fn fc la ln lc).toArray rfl rfl _ (a_e thN wc.heap.size rfl) rfl (by kernel_rfl) (a_L _ _ _ _ _ _ _) ?_;intro U HU))
   have HXT:=hid (show a_p U wc.heap.size (thC t fa fn fc la ln lc) by rw [HU.out];exact a_q (a_e thN _ rfl) rfl);have HBU:=hid (show Below wc.heap.size wc U by rw [HU.out];exact a_g (Nat.le_refl _) ((Below.refl _ _).alloc (Nat.le_refl _) _));have HXU:=hid (a_h HBU.out HX3.out);have hsu:U.heap.size=wc.heap.size+1:=by rw [HU.out,a_O];simp
   have HBW:=hid (a_a HB3.out HBU.out);have HRU:=hid (b_q HBU.out HR3.out);have HC:=hid (f_9 U (HG.out.B HBW.out));obtain ⟨x0,-⟩:=HXT.out 0 _ rfl;obtain ⟨x10,-⟩:=HXT.out 10 _ rfl;obtain ⟨x12,-⟩:=HXT.out 12 _ rfl;obtain ⟨y0,-⟩:=HXU.out 0 _ rfl;replace y0:U.cell? ⟨gX,0,none⟩=some (.slice va pn vc):=by rw [←HPN.out];exact y0
   obtain ⟨gt,hgt⟩:∃ g,wc.heap.size=g:=⟨_,rfl⟩;have HGT:=hid hgt;rw [hgt] at x0 x10 x12 HXT hsu ⊢;have HSU:=hid hsu;clear HU HRA x5 hgt hsu
   by_cases hst:t.st=0
   rotate_left
   · as_aux_lemma =>
       have e0:(t.st != 0)=true:=by simp [hst]
       exact J80
   by_cases hpc:t.pc < pn
   rotate_left
   · as_aux_lemma =>
       have e1:(pn:Int)≤t.pc:=by omega
       rw [hst] at x10;exact J80
   by_cases hl0:ln=0
   rotate_left
   · as_aux_lemma =>
       have e0:(t.st != 0)=false:=by simp [hst]
       have e1:¬ (pn:Int)≤t.pc:=by omega
       have e2:(0:Int) < ln:=by omega
       rw [hst] at x10;clear e0;exact J80
   have hp0:0≤t.pc:=by have h:=u_F (k:=k) HOK.out.right (by have:=HNX.out;omega);rw [HTX.out] at h;exact h
   obtain ⟨p,hp⟩:∃ p:Nat,t.pc=p:=⟨t.pc.toNat,by omega⟩;have hpp:p < pn:=by omega
   obtain ⟨gc,rfl,hgc1,hgc2,hrow⟩:=hrow (by omega);have ⟨HPC,HST,HPP⟩:=hh3 hp hst hpp;have HGC:=hid (show gX+1≤gc∧gc < gt by have:=HS2.out;have:=HGT.out;omega);have HCO:=hid (a_h HBU.out hrow.out);have e1:¬ (pn:Int)≤p:=by omega
   have e2:(0:Int)≤p:=by omega
   have e3:(p:Int) < pn:=by omega
   rw [hst] at x10;rw [hp] at x0;rw [hl0] at x12;have HL0:=hid hl0;clear hp0 hp hst hl0 hpp hrow hgc1 hgc2 HC hpc
   go_upto_region 8 with (refine a_J rfl 66 _ _ rfl gc (p*4) #[.int .i64 22,.int .i64 0,.int .i64 0,.int .i64 0] rfl rfl _ HCO.out (by rw [f_y,HCC.out];have:=HPP.out;show p*4+4≤pn*4;omega) (by kernel_rfl) (by simp [Value.oneCell']) ?_;intro U2 HU2)
   dsimp only [Act.put];obtain ⟨LY,hLY⟩:∃ L:WoL,L={ LX with co:=⟨some ⟨gc,0,none⟩,LX.co.n,vc⟩ }:=⟨_,rfl⟩;obtain ⟨gu,hgu⟩:∃ g,U2.heap.size=g:=⟨_,rfl⟩;have hgu2:gt+1=gu:=by rw [←hgu,HU2.out,a_O];have:=HSU.out;omega
   have HB5:=hid (show Below w.heap.size w U2 by rw [HU2.out];exact a_g (by have:=HGC.out.1;have:=HGX.out;omega) HBW.out);have HX5:=hid (show a_p U2 gX (woC LY X.D) by rw [HU2.out,hLY];exact a_j (by have:=HGC.out.1;omega) HXU.out);have HT5:=hid (show a_p U2 gt (thC t fa fn fc la ln lc) by rw [HU2.out];exact a_j (by have:=HGC.out.2;omega) HXT.out)
   have HR5:=hid (show RWo (fun b=>b < gu) U2 LY (brC X p) by
     have h0:RWo (fun b=>b < gX) U2 LX X:=by rw [HU2.out];exact a_z (a_u (fun b hb=>by have:=HGC.out.1;omega)) HRU.out
     have h1:RWo (fun b=>b < gu) U2 LX X:=a_D (fun b hb=>by have:=HGC.out;omega) h0
     have hv:a_p U2 gc (b_V (X.code.set p brI)):=by
       rw [HU2.out,k_y _ _ _ (by rw [HCC.out];exact HPP.out)];exact b_c (p*4) HCO.out (by rw [f_y,HCC.out];have:=HPP.out;show p*4+4≤pn*4;omega)
     rw [hLY];exact ⟨t_u hv (by show (X.code.set p brI).length=LX.co.n;rw [List.length_set,HCC.out];exact HPN.out.symm) (by have:=HGC.out;omega),h1.ws,h1.ts,h1.bs,h1.th,h1.ev,by rw [HPN.out];exact hcap,h1.cth,h1.cev⟩)
   have HLY:=hid (show LY.th.a=some ⟨b,o,none⟩∧LY.th.n=n∧LY.th.c=LX.th.c by rw [hLY];exact ⟨HTA.out,HNN.out,rfl⟩);obtain ⟨tcap,htc⟩:∃ c,LX.th.c=c:=⟨_,rfl⟩;rw [htc] at HLY;obtain ⟨x5,-⟩:=HX5.out 5 _ rfl;rw [HLY.out.1,HLY.out.2.1,HLY.out.2.2] at x5;clear HU2 hLY hgu2 htc e1 e2 e3 x0 x10 x12 y0
   go_wp2_with fail
   go_loopw [19,20,91] (fun _ _ i wr=>∃ j:Nat,j≤n∧i=.int .i64 j∧Hid (Below U2.heap.size U2 wr)) (fun _ _ i _=>n - (intOf i).toNat)
   case atStart=>exact ⟨0,by omega,rfl,Below.refl _ _⟩
   obtain ⟨j,hj,rfl,hb⟩:=hrel;have HBZ:=hid hb.out;obtain ⟨wo,hwo⟩:=nm (wr);subst hwo;clear hb
   by_cases hlt:j < n
   · as_aux_lemma =>
       have HRo:=hid (b_q HBZ.out HR5.out);obtain ⟨b2,o2,u,ga,gc2,qa,qc,hthx,huu,-,UQ,hru⟩:=c_3 HRo.out.th (k:=j) (by have:=HLY.out.2.1;omega);rw [HLY.out.1] at hthx
       cases hthx
       obtain ⟨un,hun⟩:∃ n,u.fs.length=n:=⟨_,rfl⟩;obtain ⟨um,hum⟩:∃ n,u.lf.length=n:=⟨_,rfl⟩;rw [hun,hum] at hru;have HRA:=hid (show wo.rangeAt b (o+j*13) (thC u ga un gc2 qa um qc) from hru);have i5:(0:Int)≤j:=by omega
       have i6:(j:Int) < n:=by omega
       have hwj:=N173;clear hun hum UQ hru huu
       go_upto_region 11 with (first | (refine wpList_load_mid rfl 46 _ rfl b (o+j*13) rfl (thC u ga un gc2 qa um qc) _ HRA.out Tryz.underlying46 rfl (by kernel_rfl) ?_) | (refine a_c rfl 46 _ _ rfl wo.heap.size (thC u ga un gc2 qa um qc).toArray rfl rfl _ (a_e thN wo.heap.size rfl) rfl (by kernel_rfl) (a_L _ _ _ _ _ _ _) ?_;intro U3 HU3))
       have HXJ:=hid (show a_p U3 wo.heap.size (thC u ga un gc2 qa um qc) by rw [HU3.out];exact a_q (a_e thN _ rfl) rfl);have HB6:=hid (show Below wo.heap.size wo U3 by rw [HU3.out];exact a_g (Nat.le_refl _) ((Below.refl _ _).alloc (Nat.le_refl _) _));have HB7:=hid (a_a HBZ.out HB6.out);obtain ⟨x0,-⟩:=a_h HB7.out HT5.out 0 _ rfl;rw [HPC.out] at x0;obtain ⟨y0,-⟩:=HXJ.out 0 _ rfl;clear HU3 HRA
       by_cases hjk:j=k
       · subst hjk
         go_wp2_with fail
         go_roundw
         case rel=>exact ⟨j+1,hlt,by go_num,HB7.out⟩
         case measure=>exact d_E hlt
       · have g1:((j:Int) != k)=true:=by simp;omega
         by_cases hup:u.pc=p
         · rw [hup] at y0
           have HC:=hid (f_9 U3 (HG.out.B (a_a HB5.out HB7.out)));have HBW3:=hid (a_a HB5.out HB7.out);clear hup
           go_wp2_with fail
           refine HC.out.mono ?_;rintro e4 w4 ⟨rfl,hb4⟩
           go_wp2
           go_ret
           exact ⟨rfl,a_a HBW3.out hb4⟩
         · have g2:(u.pc==(p:Int))=false:=by simp [hup]
           go_wp2_with fail
           go_roundw
           case rel=>exact ⟨j+1,hlt,by go_num,HB7.out⟩
           case measure=>exact d_E hlt
   as_aux_lemma =>
    obtain rfl:n=j:=by omega
    have HBZw:=hid (a_a HB5.out HBZ.out);have hlf0:(thW X k).lf=[]:=by rw [HTX.out];exact List.eq_nil_of_length_eq_zero (HLN.out.trans HL0.out)
    obtain ⟨hE,hOY,hBI⟩:=q_t (X:=X) (p:=p) (k:=k) (m:=80) HOK.out (by have:=HNX.out;omega) (by rw [HTX.out];exact HST.out) (by rw [HTX.out];exact HPC.out) (by rw [HCC.out];exact HPP.out) hlf0;have h0:=e_4 LY (brC X p) k wo (c_L (b_q HBZ.out HR5.out)) (HG.out.B HBZw.out) (by have h1:=HR5.out.ev.1;have h2:(brC X p).ev.length≤80:=(n_Y (p:=p) HOK.out).ev;omega) (g_v (n_Y (p:=p) HOK.out).wf);rw [hE] at h0;obtain ⟨Y,hY⟩:∃ Y,h_B (brC X p) k=Y:=⟨_,rfl⟩;rw [hY] at h0 hOY hBI;have ⟨HC,HOY,HBI⟩:=hh3 h0 hOY hBI;have HX6:=hid (a_h HBZ.out HX5.out);have HR6:=hid (b_q HBZ.out HR5.out);have HGUS:=hid (show gu≤wo.heap.size by have:=HBZ.out.size;omega);clear h0 hE hY hOY hBI hlf0 x5
    go_wp2_with (refine wpList_load_mid rfl 33 _ rfl gX 0 rfl (woC LY X.D) _ (a_f HX6.out) Tryz.underlying33 rfl (by kernel_rfl) ?_)
    refine HC.out.mono ?_;clear HC;rintro e6 w6 ⟨L6,rfl,R6,hb6⟩;have HB6:=hid (a_a HBZw.out hb6);have HX7:=hid (a_h hb6 HX6.out);have HR7:=hid (b_q hb6 HR6.out);have HR8:=hid (show RWo (fun b=>b < w6.heap.size) w6 L6 Y from a_D (fun b h=>h.2) (c_h (c_L R6)));have HG6:=hid (show gu≤w6.heap.size by have:=hb6.size;have:=HGUS.out;omega);clear R6 hb6 HX6 HR6
    go_upto_region 15 with (refine a_c rfl 33 _ _ rfl w6.heap.size (woC L6 Y.D).toArray rfl rfl _ (a_e woZ w6.heap.size rfl) rfl (by kernel_rfl) (b_p _ _) ?_;intro U6 HU6)
    obtain ⟨gN,hgN⟩:∃ g,w6.heap.size=g:=⟨_,rfl⟩;have HBU6:=hid (show Below w6.heap.size w6 U6 by rw [HU6.out];exact a_g (Nat.le_refl _) ((Below.refl _ _).alloc (Nat.le_refl _) _));have HXN:=hid (show a_p U6 gN (woC L6 Y.D) by rw [HU6.out,←hgN];exact a_q (a_e woZ _ rfl) rfl);have HB8:=hid (a_a HB6.out HBU6.out);have HXX:=hid (a_h HBU6.out HX7.out);have HRX8:=hid (b_q HBU6.out HR7.out);have HRN:=hid (show RWo (fun b=>b < gN) U6 L6 Y by rw [←hgN];exact b_q HBU6.out HR8.out);have HGN:=hid (show gu≤gN∧U6.heap.size=gN+1 by rw [←hgN];exact ⟨HG6.out,by rw [HU6.out,a_O];simp⟩);rw [hgN]
    have HL6:=hid (show L6.th.n=n by
      have h1:=HRN.out.th.1;have h2:=HBI.out.len;have h3:(b_m X).length=X.bs.length:=by simp [b_m]
      have h4:=(okS HOK.out.right).1.2;have h5:=HNX.out
      omega)
    clear HU6 hgN HBU6 HX7 HR7 HR8 HG6 HB6;have h0:=n_g L6 Y U6 (c_L HRN.out);rw [HOY.out.right] at h0;have HC:=hid h0;clear h0;obtain ⟨v0,-⟩:=HXN.out 0 _ rfl;obtain ⟨v1,-⟩:=HXN.out 1 _ rfl;obtain ⟨v2,-⟩:=HXN.out 2 _ rfl;obtain ⟨v3,-⟩:=HXN.out 3 _ rfl;obtain ⟨v4,-⟩:=HXN.out 4 _ rfl;obtain ⟨v5,-⟩:=HXN.out 5 _ rfl;obtain ⟨v6,-⟩:=HXN.out 6 _ rfl
    go_wp2_with fail
    refine HC.out.mono ?_;clear HC v0 v1 v2 v3 v4 v5 v6;rintro e7 w7 ⟨rfl,hb7⟩;have HB9:=hid (a_a HB8.out hb7);have HB79:=hid hb7;have HC:=hid (f_9 w7 (HG.out.B HB9.out));obtain ⟨x5,-⟩:=a_h hb7 HXN.out 5 _ rfl;obtain ⟨y5,-⟩:=a_h hb7 HXX.out 5 _ rfl;rw [HL6.out] at x5;rw [HLY.out.2.1] at y5;clear hb7
    go_wp2_with fail
    refine HC.out.mono ?_;clear HC x5 y5;rintro e8 w8 ⟨rfl,hb8⟩;have HB98:=hid (a_a HB79.out hb8);have HB10:=hid (a_a HB8.out HB98.out);obtain ⟨x4,-⟩:=a_h HB98.out HXX.out 4 _ rfl;clear hb8 HB9 HB79;have HR11:=hid (b_q HB98.out HRX8.out);have HX11:=hid (a_h HB98.out HXX.out);have HN11:=hid (a_h HB98.out HXN.out);have HRN11:=hid (b_q HB98.out HRN.out);have HSZ:=hid (show gN+1≤w8.heap.size by have:=HB98.out.size;have:=HGN.out.2;omega);have HXB:=hid (show X.bs.length=n by have h4:=(okS HOK.out.right).1.2;have h5:=HNX.out;omega);have HLB:=hid (show LY.bs.n=n by have h1:=HR11.out.bs.1;have h2:(brC X p).bs.length=X.bs.length:=rfl;have:=HXB.out;omega);obtain ⟨bb,ob,qb,cb,hbsa,-⟩:=g_5 HR11.out.bs.bl (i:=0) (by have:=HLB.out;omega);have HBA:=hid hbsa;rw [hbsa,HLB.out] at x4;obtain ⟨ii,hi,hz0,hz1,hz2⟩:=info_parts s_P;have HI:=N47;clear hbsa hi hz0 hz1 hz2
    go_wp2_with fail
    go_loopw [23,25,138] (fun v _ i wr=>∃ (j:Nat) (q:Option Addr) (dd:Nat),j≤n∧i=.int .i64 j∧v=.slice q j dd∧Hid (wr.ownsRow w8.heap.size 3 1 (.slice q j dd) j (((b_m X).map (Value.int .i64)).take j))∧Hid (Below w8.heap.size w8 wr)) (fun _ _ i _=>n - (intOf i).toNat)
    case atStart=>exact ⟨0,none,0,by omega,rfl,rfl,World.ownsRow_nil _ _ _ _,Below.refl _ _⟩
    obtain ⟨j,q,dd,hj,rfl,rfl,hT,hb⟩:=hrel;have HBZ:=hid hb.out;obtain ⟨wo,hwo⟩:=nm (wr);subst hwo;clear hb
    by_cases hlt:j < n
    · as_aux_lemma =>
        obtain ⟨b4,o4,q4,c4,h4,g4,-,-⟩:=g_5 (b_q HBZ.out HR11.out).bs.bl (i:=j) (by have:=HLB.out;omega);rw [HBA.out] at h4
        cases h4
        have HWT:=hid (q_u (X:=X) (j:=j) (by have:=HXB.out;omega));obtain ⟨bl,hbl⟩:∃ l,(X.bs.getD j []).length=l:=⟨_,rfl⟩;rw [show (brC X p).bs=X.bs from rfl,hbl] at g4;rw [hbl] at HWT;have i5:(0:Int)≤j:=by omega
        have i6:(j:Int) < n:=by omega
        have hwj:=N173;have HT:=hid hT.out;clear hbl hT
        go_wp2_with (at_builtin;refine wpList_append_own _ rfl _ _ 23 rfl w8.heap.size 3 ii (.int .i64 0) 1 8 Tryz.underlying23 HI.out.1 HI.out.2.1 HI.out.2.2.1 HI.out.2.2.2 rfl (by decide) _ _ _ rfl (HT.out.alloc _) ⟨wo.heap.size,0,none⟩ 1 1 [.int .i64 bl] rfl rfl ?c1 ?c2 ?c3 ?c4 ?c5 ?_)
        case c1=>exact n_4 _ _ _
        case c2=>intro v hv;simp at hv;subst hv;rfl
        case c3=>unfold maxLen;omega
        case c4=>omega
        case c5=>have:=HBZ.out.size;simp;omega
        intro v' w11 hown' hgrow _;have HB11:=hid (show Below w8.heap.size w8 w11 from (HBZ.out.alloc HBZ.out.size (.cells #[.int .i64 bl] 3)).grown hgrow (by have:=HBZ.out.size;simp;omega) (fun r hr=>(HT.out.lt r hr).1));rw [HWT.out] at hown';obtain ⟨q',d',rfl⟩:=c_g hown';have HO11:=hid hown';clear hown' hgrow
        go_wp2_with fail
        go_roundw
        case rel=>exact ⟨j+1,q',d',hlt,by go_num,rfl,HO11.out,HB11.out⟩
        case measure=>exact d_E hlt
    as_aux_lemma =>
     obtain rfl:n=j:=by omega
     have hwl:(b_m X).length=n:=by simp [b_m,HXB.out]
     have hT2:=hT.out;rw [List.take_of_length_le (by rw [List.length_map];omega)] at hT2;obtain ⟨gw,cw,he,hgw1,hgw2,-,-,hvw⟩:=p_k hT2 (by omega)
     cases he
     have HVW:=hid hvw;have HGW:=hid (And.intro hgw1 hgw2);have HWL:=hid hwl;clear hT hT2 hvw hgw1 hgw2 hwl x4;obtain ⟨w9,hw9⟩:=nm (wo);subst hw9;obtain ⟨m8,hm8⟩:∃ m,min mn 80=m:=⟨_,rfl⟩;have hm80:m8≤80:=by omega
     have hmm:m8≤mn:=by omega
     have hmc1:=HMC.out.1;have hmc2:=HMC.out.2
     go_upto_region 23 with fail
     go_cut [152,153,154] (fun a b i wx=>a=.slice ma m8 mc∧b=.int .i64 m8∧i=.int .i64 0∧wx=w9)
     case first =>
       as_aux_lemma =>
         by_cases q:mn≤80
         · obtain rfl:m8=mn:=by omega
           have q0:¬ (80:Int) < (m8:Int):=by omega
           have q1:(m8:Int)≤mc:=by omega
           clear hm8 q
           go_wp2_with fail
           go_meet
           exact ⟨rfl,rfl,rfl,rfl⟩
         · obtain rfl:m8=80:=by omega
           have q0:(80:Int) < (mn:Int):=by omega
           have q1:(80:Int)≤mc:=by omega
           clear hm8 q
           go_wp2_with fail
           go_meet
           exact ⟨rfl,rfl,rfl,rfl⟩
     obtain ⟨rfl,rfl,rfl,hwx⟩:=hcut;subst hwx;have HB12:=hid (a_a HB10.out HBZ.out);have HN12:=hid (a_h HBZ.out HN11.out);have HR12:=hid (show RWo (fun b=>b≠gN∧b≠gw) wc L6 Y from a_D (fun b hb=>by have:=HGW.out.1;have:=HSZ.out;omega) (b_q HBZ.out HRN11.out));have HGE:=hid (show w.heap.size≤gN∧gN+1≤gw by have:=HGW.out.1;have:=HSZ.out;have:=HGN.out.1;have:=HB5.out.size;omega);have HMM:=hid (And.intro hm80 hmm);clear HB98 HB10 HB8 HR11 HX11 HN11 HRN11 HXX HXN HRX8 HRN HX5 HT5 HR5 HXT HXU HRU HCO HB3 HX3 HR3 HX2 HR2 HB2 hm8 hmm
     go_wp2_with fail
     go_loopw [27,28,29,30,31,33,154] (fun _ _ _ _ _ _ i wr=>∃ (j:Nat) (L:WoL) (Z:Wo) (vs:List Int),j≤m8∧i=.int .i64 j∧Hid (BrI (X.code.set p brI) p k (81+j) vs Z)∧Hid (a_p wr gN (woC L Z.D))∧Hid (RWo (fun b=>b≠gN∧b≠gw) wr L Z)∧Hid (a_p wr gw (vs.map (Value.int .i64)))∧Hid (Below w.heap.size w wr)∧Hid (vs.length=n)) (fun _ _ _ _ _ _ i _=>m8 - (intOf i).toNat)
     case atStart=>exact ⟨0,L6,Y,b_m X,by omega,rfl,HBI.out,HN12.out,HR12.out,HVW.out,HB12.out,HWL.out⟩
     as_aux_lemma =>
      obtain ⟨j,L,Z,vs,hj,rfl,hI,hN,hR,hV,hB,hVL⟩:=hrel;have HI5:=hid hI.out;have HN5:=hid hN.out;have HRZ:=hid hR.out;have HV5:=hid hV.out;have HBZ2:=hid hB.out;have HVL:=hid hVL.out;obtain ⟨wo,hwo⟩:=nm (wr);subst hwo;clear hI hN hR hV hB hVL
      by_cases hlt:j < m8
      rotate_left
      · as_aux_lemma =>
          obtain rfl:m8=j:=by omega
          go_wp2_with fail
          go_ret
          exact ⟨rfl,HBZ2.out⟩
      obtain ⟨b5,o5,⟨a1,a2⟩,rfl,ht,-,hA⟩:=j_a (g_u HBZ2.out HMO'.out) (i:=j) (by have:=HMM.out.2;omega);obtain ⟨cs,hc1,hc2⟩:=hA;have hc1:cs=[.int .i64 a1,.int .i64 a2]:=hc1;subst hc1;have HRA:=hid (show wo.rangeAt b5 (o5+j*2) [.int .i64 a1,.int .i64 a2] from hc2);have i5:(0:Int)≤j:=by omega
      have i6:(j:Int) < m8:=by omega
      have hwj:=N173;clear hc2 ht
      go_upto_region 26 with (first | (refine wpList_load_mid rfl 68 _ rfl b5 (o5+j*2) rfl [.int .i64 a1,.int .i64 a2] _ HRA.out Tryz.underlying68 rfl (by kernel_rfl) ?_) | (refine a_c rfl 68 _ _ rfl wo.heap.size #[.int .i64 a1,.int .i64 a2] rfl rfl _ (a_e [.int .i64 0,.int .i64 0] wo.heap.size rfl) rfl (by kernel_rfl) (by simp [Value.oneCell']) ?_;intro U7 HU7))
      obtain ⟨ga,hga⟩:∃ g,wo.heap.size=g:=⟨_,rfl⟩;have HBU7:=hid (show Below wo.heap.size wo U7 by rw [HU7.out];exact a_g (Nat.le_refl _) ((Below.refl _ _).alloc (Nat.le_refl _) _));have HUA:=hid (show a_p U7 ga [.int .i64 a1,.int .i64 a2] by rw [HU7.out,←hga];exact a_q (a_e [.int .i64 0,.int .i64 0] wo.heap.size rfl) rfl);have HN7:=hid (a_h HBU7.out HN5.out);have HR7:=hid (b_q HBU7.out HRZ.out);have HV7:=hid (a_h HBU7.out HV5.out);have HB7:=hid (a_a HBZ2.out HBU7.out);have HGA:=hid (show gN < ga∧gw < ga by rw [←hga];exact ⟨a_N HN5.out (by simp),a_N HV5.out (by rw [List.length_map,HVL.out];omega)⟩);rw [hga]
      have HZL:=hid (show L.th.n=n∧L.bs.n=n by
        have h1:=HR7.out.th.1;have h2:=HI5.out.len;have h3:=(okS HI5.out.ok.right).1.2;have h4:=HR7.out.bs.1;have h5:=HVL.out
        omega)
      clear HU7 hga HRA HBU7 HN5 HRZ HV5 HBZ2;dsimp only [Act.put]
      go_cut [28] (fun s wx=>s=.bool (brF Z (a1,a2))∧Hid (Below U7.heap.size U7 wx))
      case first =>
        as_aux_lemma =>
          obtain ⟨x0,-⟩:=HUA.out 0 _ rfl;obtain ⟨x1,-⟩:=HUA.out 1 _ rfl;obtain ⟨v0,-⟩:=HN7.out 0 _ rfl;obtain ⟨v1,-⟩:=HN7.out 1 _ rfl;obtain ⟨v2,-⟩:=HN7.out 2 _ rfl;obtain ⟨v3,-⟩:=HN7.out 3 _ rfl;obtain ⟨v4,-⟩:=HN7.out 4 _ rfl;obtain ⟨v5,-⟩:=HN7.out 5 _ rfl;obtain ⟨v6,-⟩:=HN7.out 6 _ rfl;have hl:Z.th.length=n:=by have h1:=HI5.out.len;have h2:=HVL.out;omega
          by_cases h1:a1=1
          · subst h1
            have hQ:decide (0≤a2∧a2 < (L.th.n:Int))=f_r Z a2:=by rw [f_r,HZL.out.1,hl]
            have h0:=o_A L Z.D a2 U7;rw [hQ] at h0
            cases hh:f_r Z a2 with
            | false =>
              have HF:=hid (show brF Z (1,a2)=false by simp [brF,hh]);rw [hh] at h0;have HC:=hid h0;clear h0 hQ hh hl
              go_wp2_with fail
              refine HC.out.mono ?_;rintro e9 w9 ⟨rfl,hb9⟩
              go_wp2_with fail
              go_meet
              exact ⟨by rw [HF.out],hid hb9⟩
            | true =>
              rw [hh] at h0;have HC:=hid h0;have hhas:=hh;simp only [f_r,decide_eq_true_eq] at hhas;obtain ⟨t2,rfl⟩:=Int.eq_ofNat_of_zero_le hhas.1;have ht2:t2 < n:=by omega
              obtain ⟨b6,o6,q6,c6,h6,g6,-,-⟩:=g_5 HR7.out.bs.bl (i:=t2) (by have:=HZL.out.2;omega);obtain ⟨bl,hbl⟩:∃ l,(Z.bs.getD t2 []).length=l:=⟨_,rfl⟩;rw [hbl] at g6;have HF:=hid (show brF Z (1,(t2:Int))=decide (bl≠0) by show (decide ((1:Int)=1)&&f_r Z (t2:Int)&&decide ((Z.bs.getD ((t2:Int)).toNat []).length≠0))=_;rw [hh,Int.toNat_natCast,hbl];rfl);have HH6:=hid h6;have i7:(0:Int)≤t2:=by omega
              have i8:(t2:Int) < n:=by omega
              clear h0 hQ hh hl hhas h6 hbl
              go_wp2_with fail
              refine HC.out.mono ?_;rintro e9 w9 ⟨rfl,hb9⟩;obtain ⟨y4,-⟩:=a_h hb9 HN7.out 4 _ rfl;obtain ⟨y1,-⟩:=a_h hb9 HUA.out 1 _ rfl;have g9:=a_t hb9 g6;rw [HH6.out,HZL.out.2] at y4;have HB9:=hid hb9;clear x0 x1 v0 v1 v2 v3 v4 v5 v6 g6 hb9
              go_wp2_with fail
              go_meet
              refine ⟨?_,HB9⟩;rw [HF.out]
              congr 1
              exact decide_eq_decide.2 ⟨fun h=>by omega,fun h=>by omega⟩
          · have e1:(a1==1)=false:=by simp [h1]
            have HF:=hid (show brF Z (a1,a2)=false by simp [brF,h1]);clear hl v0 v1 v2 v3 v4 v5 v6 x1
            go_wp2_with fail
            go_meet
            exact ⟨by rw [HF.out],hid (Below.refl _ _)⟩
      as_aux_lemma =>
       obtain ⟨rfl,hb9⟩:=hcut;obtain ⟨w9,hw9⟩:=nm (wc);subst hw9;have HB9:=hid hb9.out;have HUA9:=hid (a_h HB9.out HUA.out);have HN9:=hid (a_h HB9.out HN7.out);have HR9:=hid (b_q HB9.out HR7.out);have HV9:=hid (a_h HB9.out HV7.out);have HBW9:=hid (a_a HB7.out HB9.out);obtain ⟨F,hF⟩:∃ F,brF Z (a1,a2)=F:=⟨_,rfl⟩;rw [hF];have HF:=hid hF;clear hb9 hF HUA HN7 HR7 HV7 HB7 HB9;obtain ⟨x0,-⟩:=HUA9.out 0 _ rfl;obtain ⟨x1,-⟩:=HUA9.out 1 _ rfl
       go_upto_region 27 with fail
       go_cut [186] (fun s wx=>s=.bool (decide (a1=0)&&decide (a2=(k:Int)))∧wx=w9)
       case first =>
         as_aux_lemma =>
           by_cases h1:a1=0
           · subst h1
             go_wp2_with fail
             go_meet
             exact ⟨by by_cases e:a2=(k:Int) <;> simp [e],rfl⟩
           · have e1:(a1==0)=false:=by simp [h1]
             have e2:decide (a1=0)=false:=decide_eq_false h1
             go_wp2_with fail
             go_meet
             exact ⟨by rw [e2];rfl,rfl⟩
       obtain ⟨rfl,hwx⟩:=hcut;subst hwx;obtain ⟨w9,hw9⟩:=nm (wc);subst hw9
       by_cases hs:a1=0∧a2=k
       · as_aux_lemma =>
           obtain ⟨rfl,rfl⟩:=hs;rw [show (decide ((0:Int)=0)&&decide ((k:Int)=(k:Int)))=true by simp]
           go_wp2_with fail
           go_roundw
           case rel=>exact ⟨j+1,L,Z,vs,hlt,by go_num,s_D HI5.out,HN9.out,HR9.out,HV9.out,HBW9.out,HVL.out⟩
           case measure=>exact d_E hlt
       have HI6:=hid (s_E (a:=(a1,a2)) HI5.out hs);rw [show (decide (a1=0)&&decide (a2=(k:Int)))=false by rw [←Bool.decide_and];exact decide_eq_false hs];clear hs;obtain ⟨vs2,hvs2⟩:∃ v,brN Z (a1,a2) vs=v:=⟨_,rfl⟩;rw [hvs2] at HI6;have HVN:=hid hvs2;have HVL2:=hid (show vs2.length=n by rw [←hvs2,s_C];exact HVL.out);clear hvs2
       go_upto_region 28 with fail
       go_cut [195] (fun s wx=>s=.bool (F&&decide (0 < vs.getD a2.toNat 0))∧wx=w9)
       case first =>
         as_aux_lemma =>
           cases F with
           | false =>
             clear x0 x1
             go_wp2_with fail
             go_meet
             exact ⟨rfl,rfl⟩
           | true =>
             obtain ⟨t2,ht2,htn⟩:∃ t2:Nat,a2=t2∧t2 < n:=by
               have h:=HF.out;exact J103
             obtain ⟨g1,-⟩:=HV9.out t2 _ (i_N vs t2 (by rw [HVL.out];exact htn));rw [ht2] at x1;obtain ⟨z,hz⟩:∃ z,vs.getD t2 0=z:=⟨_,rfl⟩;rw [hz] at g1;have HT2:=hid (And.intro ht2 hz);have i7:(0:Int)≤t2:=by omega
             have i8:(t2:Int) < n:=by omega
             clear hz ht2 x0
             go_wp2_with fail
             go_meet
             exact ⟨by rw [Bool.true_and,HT2.out.1,Int.toNat_natCast,HT2.out.2],rfl⟩
       as_aux_lemma =>
        obtain ⟨rfl,hwx⟩:=hcut;subst hwx;obtain ⟨w9,hw9⟩:=nm (wc);subst hw9;obtain ⟨G,hG⟩:∃ G,(F&&decide (0 < vs.getD a2.toNat 0))=G:=⟨_,rfl⟩;rw [hG];have HGG:=hid hG;clear hG x0
        go_upto_if 195 with fail
        go_cut [] (fun wx=>u_0 w gN gw ga L Z a1 a2 vs2 wx)
        case first =>
          as_aux_lemma =>
            cases G with
            | false =>
              have HVV:=hid (show vs2=vs by
                have h1:=HVN.out;rw [brN,HF.out] at h1;rw [←h1,if_neg];rw [show (F&&decide (0 < vs.getD (a1,a2).2.toNat 0))=false from HGG.out];decide)
              clear x1
              go_wp2_with fail
              go_meet
              rw [HVV.out];exact ⟨HN9,HR9,HV9,HUA9,HBW9⟩
            | true =>
              have HVV:=hid (show vs2=vs.set a2.toNat (vs.getD a2.toNat 0 - 1) by
                have h1:=HVN.out;rw [brN,HF.out] at h1;rw [←h1,if_pos];exact HGG.out)
              have hgg:=HGG.out;rw [Bool.and_eq_true] at hgg
              obtain ⟨t2,ht2,htn⟩:∃ t2:Nat,a2=t2∧t2 < n:=by
                have h:=HF.out;rw [hgg.1] at h;exact J103
              obtain ⟨g1,g2⟩:=HV9.out t2 _ (i_N vs t2 (by rw [HVL.out];exact htn));rw [ht2,Int.toNat_natCast] at HVV;have hz8:=HI5.out.pos _ (i_I (ws:=vs) (j:=t2) (by rw [HVL.out];exact htn));rw [ht2] at x1;obtain ⟨z,hz⟩:∃ z,vs.getD t2 0=z:=⟨_,rfl⟩;rw [hz] at g1 HVV hz8;have ⟨HTN,HT2⟩:=hh2 htn ht2;have i7:(0:Int)≤t2:=by omega
              have i8:(t2:Int) < n:=by omega
              have hwz:wrap64 (z - 1)=z - 1:=IntWalk.wrap64_in _ (by omega);clear hz ht2 hgg
              go_wp2_with fail
              go_meet
              refine ⟨hid (a_l HN9.out (by have:=HGE.out;omega) _),hid (a_z (a_U w9 ⟨gw,t2,none⟩ _ (fun b hb=>hb.2)) HR9.out),?_,hid (a_l HUA9.out (by have:=HGA.out;omega) _),hid (HBW9.out.setCell (by show w.heap.size≤gw;have:=HGE.out;omega) _)⟩;rw [HVV.out,←q_Z];exact hid (a_y HV9.out t2 (by rw [List.length_map,HVL.out];exact HTN.out) _)
        as_aux_lemma =>
         obtain ⟨hN,hR,hV,hA,hB⟩:=hcut;obtain ⟨w10,hw10⟩:=nm (wc);subst hw10;have HN10:=hid hN.out;have HR10:=hid hR.out;have HV10:=hid hV.out;have HA10:=hid hA.out;have HB10:=hid hB.out;clear hN hR hV hA hB x1
         have h0:=n_8 (fun b=>b≠gN∧b≠gw) L Z a1 a2 w10 HR10.out (fun b hb=>by
           have h1:=a_N HN10.out (by simp);have h2:=a_N HV10.out (by rw [List.length_map,HVL2.out];omega)
           omega) HI5.out.ok.right (by have h1:=HR10.out.ev.1;have h2:=HI5.out.ok.ev;have:=HMM.out.1;omega) (g_v HI5.out.ok.wf)
         obtain ⟨Z2,hZ2⟩:∃ Y,doW Z (a1,a2)=Y:=⟨_,rfl⟩;rw [hZ2] at h0 HI6;have HC:=hid h0;clear h0 hZ2
         go_wp2_with (first | (refine wpList_load_mid rfl 33 _ rfl gN 0 rfl (woC L Z.D) _ (a_f HN10.out) Tryz.underlying33 rfl (by kernel_rfl) ?_) | (refine wpList_load_mid rfl 68 _ rfl ga 0 rfl [.int .i64 a1,.int .i64 a2] _ (a_f HA10.out) Tryz.underlying68 rfl (by kernel_rfl) ?_))
         refine HC.out.mono ?_;clear HC;rintro e11 w11 ⟨L2,rfl,R2,hb11⟩;have HN11:=hid (a_h hb11 HN10.out);have HR11:=hid R2;have HV11:=hid (a_h hb11 HV10.out);have HB11:=hid (a_a HB10.out hb11);clear hb11 R2 HA10 HN10 HR10 HV10 HB10 HUA9 HN9 HR9 HV9 HBW9
         go_upto_region 31 with (refine a_c rfl 33 _ _ rfl gN (woC L2 Z2.D).toArray rfl rfl _ HN11.out rfl (by kernel_rfl) (b_p _ _) ?_;intro U9 HU9)
         have HN12:=hid (show a_p U9 gN (woC L2 Z2.D) by rw [HU9.out];exact a_q HN11.out rfl);have HR12:=hid (show RWo (fun b=>b≠gN∧b≠gw) U9 L2 Z2 by rw [HU9.out];exact a_z (a_u (fun b hb=>hb.1)) HR11.out);have HV12:=hid (show a_p U9 gw (vs2.map (Value.int .i64)) by rw [HU9.out];exact a_j (by have:=HGE.out;omega) HV11.out);have HB12:=hid (show Below w.heap.size w U9 by rw [HU9.out];exact a_g HGE.out.1 HB11.out);clear HU9 HN11 HR11 HV11 HB11;have h0:=l_q L2 Z2 k U9 (c_L HR12.out) (HG.out.B HB12.out) (g_v HI6.out.ok.wf);rw [if_pos (r_2 HI6.out),r_2 HI6.out,Int.toNat_natCast] at h0;obtain ⟨can,hcan⟩:∃ c,g_8 Z2 k=c:=⟨_,rfl⟩;rw [hcan] at h0;have ⟨HC,HCAN⟩:=hh2 h0 hcan;clear h0 hcan
         go_wp2_with (refine wpList_load_mid rfl 33 _ rfl gN 0 rfl (woC L2 Z2.D) _ (a_f HN12.out) Tryz.underlying33 rfl (by kernel_rfl) ?_)
         refine HC.out.mono ?_;clear HC;rintro e12 w12 ⟨rfl,hb12⟩;have HN13:=hid (a_h hb12 HN12.out);have HR13:=hid (b_q hb12 HR12.out);have HV13:=hid (a_h hb12 HV12.out);have HB13:=hid (a_a HB12.out hb12);clear hb12 HN12 HR12 HV12 HB12
         go_wp2_with fail
         go_loopw [31,33,214] (fun s _ i wr=>∃ q:Nat,q≤n∧i=.int .i64 q∧s=.int .i64 (vs2.take q).sum∧wr=w12) (fun _ _ i _=>n - (intOf i).toNat)
         case atStart=>exact ⟨0,by omega,rfl,rfl,rfl⟩
         obtain ⟨q,hq,rfl,rfl,hwr⟩:=hrel;have hwr2:=hwr.symm;clear hwr;subst hwr2;obtain ⟨S,hS⟩:∃ S,(vs2.take q).sum=S:=⟨_,rfl⟩
         by_cases hlt2:q < n
         · as_aux_lemma =>
             obtain ⟨e1,e2,e3,e4,e5⟩:=t_4 HI6.out.pos HVL2.out hlt2;obtain ⟨g1,-⟩:=HV13.out q _ (i_N vs2 q (by rw [HVL2.out];exact hlt2));obtain ⟨z,hz⟩:∃ z,vs2.getD q 0=z:=⟨_,rfl⟩;rw [hz] at g1 e1 e4 e5;rw [hS] at e1 e2 e3;rw [hS];have HSS:=hid e1;have i7:(0:Int)≤q:=by omega
             have i8:(q:Int) < n:=by omega
             have e6:S≤64:=by have:=hn8;omega
             have hw1:wrap64 (S+z)=S+z:=IntWalk.wrap64_in _ (by omega);have hw2:wrap64 ((q:Int)+1)=q+1:=IntWalk.wrap64_in _ (by omega);clear hz hS e1 e3
             go_wp2_with fail
             go_roundw
             case rel=>exact ⟨q+1,hlt2,by go_num,by rw [HSS.out],trivial⟩
             case measure=>first | exact d_E hlt2 | (rw [hw2];exact d_E hlt2)
         as_aux_lemma =>
          obtain rfl:n=q:=by omega
          have hS2:vs2.sum=S:=by rw [←hS,List.take_of_length_le (by rw [HVL2.out];exact Nat.le_refl _)]
          rw [hS];have hZ2n:Z2.th.length=n:=by have:=HI6.out.len;have:=HVL2.out;omega
          obtain ⟨b7,o7,t7,fa7,fc7,la7,lc7,hth7,ht7,-,-,hr7⟩:=c_3 HR13.out.th (k:=k) (by have:=HR13.out.th.1;omega);have hl7:L2.th.n=n:=by have:=HR13.out.th.1;omega
          have htw:thW Z2 k=t7:=by rw [thW,List.getD_eq_getElem?_getD,ht7];rfl
          have g10:=hr7 10 _ rfl;obtain ⟨y5,-⟩:=HN13.out 5 _ rfl;rw [hth7,hl7] at y5;have hbc:=t_3 HI6.out;rw [htw,HCAN.out,hS2] at hbc;have HBC:=hid hbc;obtain ⟨st7,hst7⟩:∃ s,t7.st=s:=⟨_,rfl⟩;rw [hst7] at HBC;replace g10:w12.cell? ⟨b7,o7+k*13+10,none⟩=some (.int .i64 st7):=by rw [←hst7];exact g10
          have i7:(0:Int)≤k:=by omega
          have i8:(k:Int) < n:=by omega
          clear hS hS2 hZ2n hth7 ht7 hr7 hl7 htw hbc hst7
          by_cases hst:st7=0
          · subst hst
            obtain rfl:can=decide (S=0):=HBC.out rfl
            by_cases hS0:S=0
            · subst hS0
              exact J69
            · rw [decide_eq_false hS0]
              have e1:(S==0)=false:=by simp [hS0]
              exact J69
          · have e1:(st7==0)=false:=by simp [hst]
            exact J69
end Go.Proofs.YtogdpojnbgeknaaGreatDoor
namespace Go.Proofs.YtogdpojnbgeknaaGreatDoor
open Go.ChangeShapes Go.WideShapes Go.ChangeAt Go.RowKit
open Gen
theorem Tryz.own:ownKnob Tryz.prog.godebug=none:=by kernel_rfl
theorem n_6:Tryz.prog.cellsOf 9=1:=by kernel_rfl
theorem l_T:Tryz.prog.cellsOf 149=2:=by kernel_rfl
theorem n_5:Tryz.prog.cellsOf 150=54:=by kernel_rfl
theorem gOpsT8:(Tryz.prog.globals[0]?).map (·.type)=some 150:=by kernel_rfl
def p_f {H:Type} (k:Nat):DataW H:=.agg [.lit (.string (opName.getD k [])),.lit (.string (opSign.getD k []))]
theorem p_i {H:Type}:(Rows.laid_respite_asm_operations:DataW H)=.agg ((List.range 27).map p_f):=rfl
theorem n_j {H:Type} {enc:TypeId×Value→H} {W:World} {base:Nat} {sp:Nat→Bool} {held:Bool} {fuel:Nat} {cs:List Value} {a b:Bs} {p:List MemPlace}
  (h:DataW.trod enc Tryz.prog W base sp held fuel 149 cs=some (.agg [.lit (.string a),.lit (.string b)],p)):cs=[.string (str a),.string (str b)]:=by
 obtain ⟨xs,n,rfl,hx,hl,hn,hf⟩:=DataW.trod_struct Tryz.underlying149 h;have h0:DataW.trod enc Tryz.prog W base sp held n 9 ((cs.drop 0).take (Tryz.prog.cellsOf 9))=xs[0]?:=hf 0 _ rfl;have h1:DataW.trod enc Tryz.prog W base sp held n 9 ((cs.drop 1).take (Tryz.prog.cellsOf 9))=xs[1]?:=hf 1 _ rfl;rw [l_T] at hl
 match cs,hl with
 | [c0,c1],_ =>
 simp only [n_6,List.drop_zero,List.drop_succ_cons,List.take_succ_cons,List.take_zero] at h0 h1
 match xs,hn,hx,h0,h1 with
 | [x0,x1],_,hx,h0,h1 =>
 simp only [List.map_cons,List.map_nil,Prod.mk.injEq,DataW.agg.injEq,List.cons.injEq] at hx;obtain ⟨s0,e0,f0,-⟩:=DataW.trod_string Tryz.underlying9 h0;obtain ⟨s1,e1,f1,-⟩:=DataW.trod_string Tryz.underlying9 h1;subst f0 f1;obtain ⟨⟨g0,g1,-⟩,-⟩:=hx
 injection g0 with g0
 injection g0 with g0
 injection g1 with g1
 injection g1 with g1
 injection e0 with e0
 injection e1 with e1
 rw [e0,e1,g0,g1,show str s0.data.toList=s0 from rfl,show str s1.data.toList=s1 from rfl]
theorem n_c {H:Type} {enc:TypeId×Value→H} {W:World} {base:Nat} {sp:Nat→Bool} {held:Bool} {fuel:Nat} {cs:List Value} {p:List MemPlace}
  (h:DataW.trod enc Tryz.prog W base sp held fuel 150 cs=some (Rows.laid_respite_asm_operations,p)):cs=opCells:=by
 rw [p_i] at h;obtain ⟨xs,n,rfl,hx,hl,hn,hf⟩:=DataW.trod_array Tryz.underlying150 h;rw [n_5] at hl;rw [l_T] at hf;simp only [Prod.mk.injEq,DataW.agg.injEq] at hx
 have hrow:∀ i,i < 27→(cs.drop (i*2)).take 2=[.string (str (opName.getD i [])),.string (str (opSign.getD i []))]:=by
  intro i hi;have h1:=hf i hi;have h2:(xs.map (·.1))[i]?=some (p_f i):=by rw [←hx.1];simp [hi]
  rw [List.getElem?_map,Option.map_eq_some_iff] at h2;obtain ⟨⟨d,q⟩,h3,h4⟩:=h2;rw [h3] at h1;dsimp only at h4;subst h4;exact n_j h1
 have hol:opCells.length=54:=by kernel_rfl
 have hor:∀ i,i < 27→(opCells.drop (i*2)).take 2=[.string (str (opName.getD i [])),.string (str (opSign.getD i []))]:=by
  intro k hk;exact J62
 apply List.ext_getElem?
 intro j
 by_cases hj:j < 54
 ·have h1:=hrow (j / 2) (by omega);rw [←hor (j / 2) (by omega)] at h1;have h2:=congrArg (·[j % 2]?) h1;simp only [List.getElem?_take,List.getElem?_drop] at h2;rw [if_pos (by omega),if_pos (by omega),show j / 2*2+j % 2=j by omega] at h2;exact h2
 ·rw [List.getElem?_eq_none (by omega),List.getElem?_eq_none (by omega)]
theorem h_Q {w:World} (h:w.ShapedOpen Tryz.prog):0+1≤w.heap.size:=by
 obtain ⟨o,ho⟩:∃ o,((begin Tryz.prog (fun _ _=>0) default).world.heap[0]?).bind Obj.row?=some o:=Option.isSome_iff_exists.1 (by kernel_rfl);obtain ⟨cs,hh,-⟩:=h.1 0 o.1 o.2 (of_decide_eq_true (by kernel_rfl)) ho;have:=(Array.getElem?_eq_some_iff.1 hh).1
 omega
section
variable {H:Type} {enc:TypeId×Value→H} {w:World} {base:Nat} {spare:Nat→Bool} {held:Bool}
theorem n_b:p_9 repIns (fun i=>W64 i.2.1∧W64 i.2.2.1∧W64 i.2.2.2) enc Tryz.prog w base spare held 66:=by
 intro fuel cs x h;obtain ⟨y0,y1,y2,y3,n,_,hl,t0,t1,t2,t3⟩:=Go.Joins.trod_struct4 Tryz.underlying66 h;rw [show Tryz.prog.cellsOf 66=4 by kernel_rfl] at hl;have k1:Tryz.prog.cellsOf 3=1:=by kernel_rfl
 match cs,hl with
 | [c0,c1,c2,c3],_ =>
  obtain ⟨z0,e0,_,_⟩:=DataW.trod_int Tryz.underlying3 t0;obtain ⟨z1,e1,_,w1⟩:=DataW.trod_int Tryz.underlying3 t1;obtain ⟨z2,e2,_,w2⟩:=DataW.trod_int Tryz.underlying3 t2;obtain ⟨z3,e3,_,w3⟩:=DataW.trod_int Tryz.underlying3 t3;rw [k1] at e0 e1 e2 e3;simp at e0 e1 e2 e3;subst e0 e1 e2 e3;exact ⟨(z0,z1,z2,z3),rfl,w1,w2,w3⟩
theorem n_a:p_9 e_3 (fun _=>True) enc Tryz.prog w base spare held 68:=by
 intro fuel cs x h;obtain ⟨y0,y1,n,_,hl,t0,t1⟩:=Go.ChangeShapes.trod_struct2 Tryz.underlying68 h;rw [show Tryz.prog.cellsOf 68=2 by kernel_rfl] at hl;have k1:Tryz.prog.cellsOf 3=1:=by kernel_rfl
 match cs,hl with
 | [c0,c1],_ =>
  obtain ⟨z0,e0,_,_⟩:=DataW.trod_int Tryz.underlying3 t0;obtain ⟨z1,e1,_,_⟩:=DataW.trod_int Tryz.underlying3 t1;rw [k1] at e0 e1;simp at e0 e1;subst e0 e1;exact ⟨(z0,z1),rfl,trivial⟩
theorem m_9 {v:Value} {d:DataW H} {p:List MemPlace} (h:DataW.Trod enc Tryz.prog w base spare held 22 v d p) :
  ∃ (a:Option Addr) (n c:Nat) (zs:List Ins),v.cells.toList=[.slice a n c]∧u_w repIns (fun i=>W64 i.2.1∧W64 i.2.2.1∧W64 i.2.2.2) w a n c zs:=by
 obtain ⟨fuel,hf⟩:=h;exact f_D (r:=repIns) Tryz.underlying22 (by kernel_rfl) n_b _ _ _ hf
theorem f_C {v:Value} {d:DataW H} {p:List MemPlace} (h:DataW.Trod enc Tryz.prog w base spare held 23 v d p) :
  ∃ (a:Option Addr) (n c:Nat) (zs:List Int),v.cells.toList=[.slice a n c]∧u_w repInt (fun z=>(Lit.int .i64 z).wf=true) w a n c zs:=by
 obtain ⟨fuel,hf⟩:=h;exact f_D (r:=repInt) Tryz.underlying23 (by kernel_rfl) (p_h Tryz.underlying3) _ _ _ hf
theorem h_m {v:Value} {d:DataW H} {p:List MemPlace} (h:DataW.Trod enc Tryz.prog w base spare held 50 v d p) :
  ∃ (a:Option Addr) (n c:Nat) (zs:List (Int×Int)),v.cells.toList=[.slice a n c]∧u_w e_3 (fun _=>True) w a n c zs:=by
 obtain ⟨fuel,hf⟩:=h;exact f_D (r:=e_3) Tryz.underlying50 (by kernel_rfl) n_a _ _ _ hf
end
end Go.Proofs.YtogdpojnbgeknaaGreatDoor
