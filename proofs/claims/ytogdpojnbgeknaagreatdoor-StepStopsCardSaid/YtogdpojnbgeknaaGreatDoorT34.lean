import Derived.Test.YtogdpojnbgeknaaGreatDoorT33
import Derived.Test.YtogdpojnbgeknaaGreatDoorT0
set_option maxRecDepth 100000
set_option maxHeartbeats 16000000
namespace Go.Proofs.YtogdpojnbgeknaaGreatDoor
open Go.ChangeShapes Go.WideShapes Go.ChangeAt Go.RowKit
open Gen
open Lib (hid)
theorem n_X (Q:Nat→Prop) (g b:Nat) (Sx:Nat→Prop) (L:WoL) (X Y:Wo) (k:Nat) (i:Ins) (E:Int) (w:World) (H:Wk Q w g b L X k) (hN:Sx g∧Sx b) (hpc:0≤(thW X k).pc∧(thW X k).pc≤1000) (ho:i.1=18∨i.1=23) (hE:E=0) (hY:b_j X k (b_h (thW X k))=Y) :
  Calls Tryz.prog 94 #[.pointer (some ⟨g,0,none⟩),.agg #[.int .i64 i.1,.int .i64 i.2.1,.int .i64 i.2.2.1,.int .i64 i.2.2.2]] w (c_c g b Sx X Y k E w):=by
 obtain ⟨op,ra,rb,rc⟩:=i;simp only at *;obtain ⟨W,hW⟩:=nm (w.alloc (Obj.cells (inC (op,ra,rb,rc)).toArray 66));have HI:=N21;have HB:=N3
 have HGS:=hid (show g < w.heap.size∧b < w.heap.size from ⟨a_P H.x (by simp),by
  obtain ⟨TC,h1,h2⟩:=H.tc;have h3:=b_f h2;have h4:repTh.k=13:=rfl;have h5:=H.hk;exact a_P h1 (by rw [h3,h4];omega)⟩)
 have HH:=hid (d_u HB.out H);have HC:=N57;obtain ⟨t,htt⟩:=mn (thW X k);rw [htt] at hpc hY;have ⟨HTT,HNN,HPC,HW⟩:=hh4 htt hN hpc hW;subst hE;have HY:=hid hY;have q0:(op==0)=false:=by simp;omega
 have q22:(op==22)=false:=by simp;omega
 have q16:(op==16)=false:=by simp;omega
 have q17:(op==17)=false:=by simp;omega
 have q19:(op==19)=false:=by simp;omega
 have q20:(op==20)=false:=by simp;omega
 have q21:(op==21)=false:=by simp;omega
 have q24:(op==24)=false:=by simp;omega
 have q25:(op==25)=false:=by simp;omega
 have q26:(op==26)=false:=by simp;omega
 clear ho hY htt;clear hW H hN hpc
 go_enter Tryz.func94,Tryz.ntmps94
 go_upto_region 1 with fail
 rw [←HW.out]
 go_wp2_with fail
 refine HC.out.mono ?_;rintro e1 V ⟨rfl,m,hm⟩;have HB1:=N15;clear HC hm;have HHV:=hid (d_u HB1.out HH.out);have HIV:=hid (a_i HB1.out HI.out);have HBV:=hid (a_b HB.out HB1.out);have HBN:=N46;clear HB HB1 HH HI HW;obtain ⟨y0,-⟩:=HIV.out 0 _ rfl;obtain ⟨fa2,fc2,la2,lc2,-,ht2⟩:=c_1 HHV.out;obtain ⟨p0,pf⟩:=ht2 0 _ rfl;have p0:V.cell? ⟨b,k*13,none⟩=some (.int .i64 (thW X k).pc):=p0;have pf:V.frozen? ⟨b,k*13,none⟩=false:=pf;obtain ⟨pc,hpc2⟩:=mn ((thW X k).pc);rw [hpc2] at p0;have hwk:wrap64 (pc+1)=pc+1:=IntWalk.wrap64_in _ (by rw [←hpc2,HTT.out];have:=HPC.out;omega)
 have HHE:=hid (show Wk Q (V.setCell ⟨b,k*13,none⟩ (.int .i64 (pc+1))) g b L (b_j X k (b_h (thW X k))) k from
  c_z HHV.out 0 (.int .i64 (pc+1)) (b_h (thW X k)) (by decide) (fun fa fc la lc T=>⟨fa,fc,la,lc,by rw [←hpc2];rfl,⟨T.fcap,T.fs,T.lcap,T.lf⟩⟩))
 have HBE:=hid (show Bel Sx w (V.setCell ⟨b,k*13,none⟩ (.int .i64 (pc+1))) from HBN.out.setCell (p:=⟨b,k*13,none⟩) HNN.out.2 _);clear ht2 hpc2
 go_wp2
 first | go_ret | go_end0
 refine ⟨.inl ⟨rfl,rfl,Q,L,?_⟩,HBE.out⟩;have HYE:=HHE;rw [←HY.out,←HTT.out];exact HYE.out
theorem n_V (Q:Nat→Prop) (g b:Nat) (Sx:Nat→Prop) (L:WoL) (X Y:Wo) (k:Nat) (i:Ins) (E:Int) (w:World) (H:Wk Q w g b L X k) (hN:Sx g∧Sx b) (hpc:0≤(thW X k).pc∧(thW X k).pc≤1000) (ho:i.1=0) (hE:E=0) (hY:b_j X k { (thW X k) with st:=1 }=Y) :
  Calls Tryz.prog 94 #[.pointer (some ⟨g,0,none⟩),.agg #[.int .i64 i.1,.int .i64 i.2.1,.int .i64 i.2.2.1,.int .i64 i.2.2.2]] w (c_c g b Sx X Y k E w):=by
 obtain ⟨op,ra,rb,rc⟩:=i;simp only at *;obtain ⟨W,hW⟩:=nm (w.alloc (Obj.cells (inC (op,ra,rb,rc)).toArray 66));have HI:=N21;have HB:=N3
 have HGS:=hid (show g < w.heap.size∧b < w.heap.size from ⟨a_P H.x (by simp),by
  obtain ⟨TC,h1,h2⟩:=H.tc;have h3:=b_f h2;have h4:repTh.k=13:=rfl;have h5:=H.hk;exact a_P h1 (by rw [h3,h4];omega)⟩)
 have HH:=hid (d_u HB.out H);have HC:=N57;obtain ⟨t,htt⟩:=mn (thW X k);rw [htt] at hpc hY;have ⟨HTT,HNN,HPC,HW⟩:=hh4 htt hN hpc hW;subst hE ho;have HY:=hid hY;clear hY htt;clear hW H hN hpc
 go_enter Tryz.func94,Tryz.ntmps94
 go_upto_region 1 with fail
 rw [←HW.out]
 go_wp2_with fail
 refine HC.out.mono ?_;rintro e1 V ⟨rfl,m,hm⟩;have HB1:=N15;clear HC hm;have HHV:=hid (d_u HB1.out HH.out);have HIV:=hid (a_i HB1.out HI.out);have HBV:=hid (a_b HB.out HB1.out);have HBN:=N46;clear HB HB1 HH HI HW;obtain ⟨y0,-⟩:=HIV.out 0 _ rfl;obtain ⟨fa2,fc2,la2,lc2,-,ht2⟩:=c_1 HHV.out;obtain ⟨p0,pf⟩:=ht2 10 _ rfl;have HHE:=hid (c_z HHV.out 10 (.int .i64 1) { (thW X k) with st:=1 } (by decide) (fun fa fc la lc T=>⟨fa,fc,la,lc,rfl,⟨T.fcap,T.fs,T.lcap,T.lf⟩⟩));have HBE:=hid (HBN.out.setCell (p:=⟨b,k*13+10,none⟩) HNN.out.2 (.int .i64 1));clear ht2;exact J102
theorem n_0 (Q:Nat→Prop) (g b:Nat) (Sx:Nat→Prop) (L:WoL) (X Y:Wo) (k:Nat) (i:Ins) (E:Int) (w:World) (H:Wk Q w g b L X k) (hN:Sx g∧Sx b) (hpc:0≤(thW X k).pc∧(thW X k).pc≤1000) (ho:i.1=22) (hE:E=0) (hl:(thW X k).lf.length=0) (hY:b_j X k { (thW X k) with lf:=b_2 X }=Y) (hb1:1≤X.bs.length) (hb8:X.bs.length≤8) :
  Calls Tryz.prog 94 #[.pointer (some ⟨g,0,none⟩),.agg #[.int .i64 i.1,.int .i64 i.2.1,.int .i64 i.2.2.1,.int .i64 i.2.2.2]] w (c_c g b Sx X Y k E w):=by
 obtain ⟨op,ra,rb,rc⟩:=i;simp only at *;obtain ⟨W,hW⟩:=nm (w.alloc (Obj.cells (inC (op,ra,rb,rc)).toArray 66));have HI:=N21;have HB:=N3
 have HGS:=hid (show g < w.heap.size∧b < w.heap.size from ⟨a_P H.x (by simp),by
  obtain ⟨TC,h1,h2⟩:=H.tc;have h3:=b_f h2;have h4:repTh.k=13:=rfl;have h5:=H.hk;exact a_P h1 (by rw [h3,h4];omega)⟩)
 have HH:=hid (d_u HB.out H);have HC:=N57;obtain ⟨t,htt⟩:=mn (thW X k);rw [htt] at hpc hl hY;have ⟨HTT,HNN,HPC,HW⟩:=hh4 htt hN hpc hW;subst hE ho;have ⟨HY,HLL⟩:=hh2 hY hl;have HB8:=hid (And.intro hb1 hb8);clear hY htt hl hb1 hb8;clear hW H hN hpc
 go_enter Tryz.func94,Tryz.ntmps94
 go_upto_region 1 with fail
 rw [←HW.out]
 go_wp2_with fail
 refine HC.out.mono ?_;rintro e1 V ⟨rfl,m,hm⟩;have HB1:=N15;clear HC hm;have HHV:=hid (d_u HB1.out HH.out);have HIV:=hid (a_i HB1.out HI.out);have HBV:=hid (a_b HB.out HB1.out);have HBN:=N46;clear HB HB1 HH HI HW;obtain ⟨y0,-⟩:=HIV.out 0 _ rfl;obtain ⟨fa2,fc2,la2,lc2,-,ht2⟩:=c_1 HHV.out;obtain ⟨p0,-⟩:=ht2 12 _ rfl;rw [HTT.out,HLL.out] at p0;have HC:=hid (l_e Q g b L X k V HHV.out HB8.out.1 (by have:=HB8.out;omega));clear ht2
 go_wp2_with fail
 refine HC.out.mono ?_;clear HC p0;rintro e2 V2 ⟨a,c,rfl,hcap,hv,hb2⟩;have HH2:=hid (d_u hb2 HHV.out);have HB2:=hid (HBN.out.andB hb2);have HV:=hid (show Vs repInt Q V2 a (b_2 X).length (b_2 X) from b_e (fun x hx=>HHV.out.new x hx) hv);obtain ⟨fa2,fc2,la2,lc2,-,ht2⟩:=c_1 HH2.out;obtain ⟨p0,pf⟩:=ht2 12 _ rfl;have HHE:=hid (c_z HH2.out 12 (.slice a (b_2 X).length c) { (thW X k) with lf:=b_2 X } (by decide) (fun fa fc la lc T=>⟨fa,fc,a,c,rfl,⟨T.fcap,T.fs,hcap,HV.out⟩⟩));have HBE:=hid (HB2.out.setCell (p:=⟨b,k*13+12,none⟩) HNN.out.2 (.slice a (b_2 X).length c));clear ht2 hv hcap hb2;exact J102
theorem n_1 (Q:Nat→Prop) (g b:Nat) (Sx:Nat→Prop) (L:WoL) (X Y:Wo) (k:Nat) (i:Ins) (E:Int) (w:World) (H:Wk Q w g b L X k) (hN:Sx g∧Sx b) (hpc:0≤(thW X k).pc∧(thW X k).pc≤1000) (ho:i.1=22) (hE:E=0) (hl:(thW X k).lf.length≠0) (hY:b_j X k { b_h (thW X k) with lf:=[] }=Y) :
  Calls Tryz.prog 94 #[.pointer (some ⟨g,0,none⟩),.agg #[.int .i64 i.1,.int .i64 i.2.1,.int .i64 i.2.2.1,.int .i64 i.2.2.2]] w (c_c g b Sx X Y k E w):=by
 obtain ⟨op,ra,rb,rc⟩:=i;simp only at *;obtain ⟨W,hW⟩:=nm (w.alloc (Obj.cells (inC (op,ra,rb,rc)).toArray 66));have HI:=N21;have HB:=N3
 have HGS:=hid (show g < w.heap.size∧b < w.heap.size from ⟨a_P H.x (by simp),by
  obtain ⟨TC,h1,h2⟩:=H.tc;have h3:=b_f h2;have h4:repTh.k=13:=rfl;have h5:=H.hk;exact a_P h1 (by rw [h3,h4];omega)⟩)
 have HH:=hid (d_u HB.out H);have HC:=N57;obtain ⟨t,htt⟩:=mn (thW X k);rw [htt] at hpc hl hY;have ⟨HTT,HNN,HPC,HW⟩:=hh4 htt hN hpc hW;subst hE ho;have HY:=hid hY;obtain ⟨lm,hlm⟩:=mn (t.lf.length);have HLM:=hid hlm;rw [hlm] at hl;have hlb:((lm:Int)==0)=false:=by simp;omega
 clear hY htt hl hlm;clear hW H hN hpc
 go_enter Tryz.func94,Tryz.ntmps94
 go_upto_region 1 with fail
 rw [←HW.out]
 go_wp2_with fail
 refine HC.out.mono ?_;rintro e1 V ⟨rfl,m,hm⟩;have HB1:=N15;clear HC hm;have HHV:=hid (d_u HB1.out HH.out);have HIV:=hid (a_i HB1.out HI.out);have HBV:=hid (a_b HB.out HB1.out);have HBN:=N46;clear HB HB1 HH HI HW;obtain ⟨y0,-⟩:=HIV.out 0 _ rfl;obtain ⟨fa2,fc2,la2,lc2,-,ht2⟩:=c_1 HHV.out;obtain ⟨p12,pf12⟩:=ht2 12 _ rfl;rw [HTT.out,HLM.out] at p12;have H1:=c_z HHV.out 12 (.slice none 0 0) { (thW X k) with lf:=[] } (by decide) (fun fa fc la lc T=>⟨fa,fc,none,0,rfl,⟨T.fcap,T.fs,b_T,d_c⟩⟩);obtain ⟨Z,hZ⟩:=nm (V.setCell ⟨b,k*13+12,none⟩ (.slice none 0 0));rw [←hZ] at H1;have HHZ:=hid H1;have HBZ:=hid (show Bel Sx w Z by rw [hZ];exact HBN.out.setCell (p:=⟨b,k*13+12,none⟩) HNN.out.2 _);have HZ:=hid hZ;have HTZ:=hid (show thW (b_j X k { (thW X k) with lf:=[] }) k={ (thW X k) with lf:=[] } from f_A HHV.out.hk);clear ht2 H1 hZ
 go_upto_region 25 with fail
 rw [←HZ.out];clear p12 pf12 hlb;obtain ⟨fa2,fc2,la2,lc2,-,ht2⟩:=c_1 HHZ.out;obtain ⟨p0,pf⟩:=ht2 0 _ rfl;have p0:Z.cell? ⟨b,k*13,none⟩=some (.int .i64 (thW (b_j X k { (thW X k) with lf:=[] }) k).pc):=p0;have pf:Z.frozen? ⟨b,k*13,none⟩=false:=pf;obtain ⟨pc,hpc2⟩:∃ p,(thW (b_j X k { (thW X k) with lf:=[] }) k).pc=p:=⟨_,rfl⟩;rw [hpc2] at p0;have hwk:wrap64 (pc+1)=pc+1:=IntWalk.wrap64_in _ (by rw [←hpc2,HTZ.out,HTT.out,show ({ t with lf:=[] }:Thr).pc=t.pc from rfl];have:=HPC.out;omega)
 have HHE:=hid (show Wk Q (Z.setCell ⟨b,k*13,none⟩ (.int .i64 (pc+1))) g b L (b_j (b_j X k { (thW X k) with lf:=[] }) k (b_h (thW (b_j X k { (thW X k) with lf:=[] }) k))) k from
  c_z HHZ.out 0 (.int .i64 (pc+1)) (b_h (thW (b_j X k { (thW X k) with lf:=[] }) k)) (by decide) (fun fa fc la lc T=>⟨fa,fc,la,lc,by rw [←hpc2];rfl,⟨T.fcap,T.fs,T.lcap,T.lf⟩⟩))
 have HBE:=hid (show Bel Sx w (Z.setCell ⟨b,k*13,none⟩ (.int .i64 (pc+1))) from HBZ.out.setCell (p:=⟨b,k*13,none⟩) HNN.out.2 _);clear ht2 hpc2
 go_wp2
 first | go_ret | go_end0
 refine ⟨.inl ⟨rfl,rfl,Q,L,?_⟩,HBE.out⟩;have HYE:=HHE;rw [←HY.out,←HTT.out];rw [HTZ.out,g_K] at HYE;exact HYE.out
theorem k_k (Q:Nat→Prop) (g b:Nat) (Sx:Nat→Prop) (L:WoL) (X Y:Wo) (k:Nat) (i:Ins) (E:Int) (w:World) (H:Wk Q w g b L X k) (hN:Sx g∧Sx b) (hpc:0≤(thW X k).pc∧(thW X k).pc≤1000) (ho:i.1=19) (hwf:∀ j,j < 8→(Lit.int .i64 ((thW X k).r j)).wf=true) (ha:0≤i.2.1∧i.2.1≤7) (hb:0≤i.2.2.1∧i.2.2.1≤7) (hc:0≤i.2.2.2∧i.2.2.2≤7) (Z:Wo) (hE:b_v X.ws X.ts X.D X.bs k 0 (rgt (thW X k) i.2.2.1)=E) (hZ:b_j { X with ws:=b_w X.ws X.ts 0 (rgt (thW X k) i.2.2.1) (rgt (thW X k) i.2.1) (rgt (thW X k) i.2.2.2) } k (g_A (thW X k) i.2.1.toNat (b_K X.ws X.ts (rgt (thW X k) i.2.2.1)))=Z) (hY:b_j Z k (b_h (thW Z k))=Y) :
  Calls Tryz.prog 94 #[.pointer (some ⟨g,0,none⟩),.agg #[.int .i64 i.1,.int .i64 i.2.1,.int .i64 i.2.2.1,.int .i64 i.2.2.2]] w (c_c g b Sx X Y k E w):=by
 obtain ⟨op,ra,rb,rc⟩:=i;simp only at *;obtain ⟨W,hW⟩:=nm (w.alloc (Obj.cells (inC (op,ra,rb,rc)).toArray 66));have HI:=N21;have HB:=N3
 have HGS:=hid (show g < w.heap.size∧b < w.heap.size from ⟨a_P H.x (by simp),by
  obtain ⟨TC,h1,h2⟩:=H.tc;have h3:=b_f h2;have h4:repTh.k=13:=rfl;have h5:=H.hk;exact a_P h1 (by rw [h3,h4];omega)⟩)
 have HH:=hid (d_u HB.out H);have HC:=N57;obtain ⟨t,htt⟩:=mn (thW X k);rw [htt] at hpc hwf hE hZ;have ⟨HTT,HNN,HPC,HW⟩:=hh4 htt hN hpc hW;subst ho;have ⟨HY,HE,HZ,HWF⟩:=hh4 hY hE hZ hwf;have HRR:=hid (And.intro ha (And.intro hb hc));have HZT:=hid (show thW Z k=g_A t ra.toNat (b_K X.ws X.ts (rgt t rb)) by rw [←hZ];exact f_A (show k < ({ X with ws:=b_w X.ws X.ts 0 (rgt t rb) (rgt t ra) (rgt t rc) }:Wo).th.length from H.hk));have HZP:=N150;clear hY hE hZ hwf ha hb hc htt;clear hW H hN hpc
 go_enter Tryz.func94,Tryz.ntmps94
 go_upto_region 1 with fail
 rw [←HW.out]
 go_wp2_with fail
 refine HC.out.mono ?_;rintro e1 V ⟨rfl,m,hm⟩;have HB1:=N15;clear HC hm;have HHV:=hid (d_u HB1.out HH.out);have HIV:=hid (a_i HB1.out HI.out);have HBV:=hid (a_b HB.out HB1.out);have HBN:=N46;clear HB HB1 HH HI HW;obtain ⟨y0,-⟩:=HIV.out 0 _ rfl;have HC:=hid (f_7 Q g b Sx L X Z k (19,ra,rb,rc) 0 E V HHV.out (fun c hc=>HHV.out.new c hc) HNN.out HRR.out.1 HRR.out.2.1 HRR.out.2.2 (by rw [HTT.out];exact HWF.out) (by rw [HTT.out];exact HE.out) (by rw [HTT.out];exact HZ.out));exact J5
theorem k_l (Q:Nat→Prop) (g b:Nat) (Sx:Nat→Prop) (L:WoL) (X Y:Wo) (k:Nat) (i:Ins) (E:Int) (w:World) (H:Wk Q w g b L X k) (hN:Sx g∧Sx b) (hpc:0≤(thW X k).pc∧(thW X k).pc≤1000) (ho:i.1=20) (hwf:∀ j,j < 8→(Lit.int .i64 ((thW X k).r j)).wf=true) (ha:0≤i.2.1∧i.2.1≤7) (hb:0≤i.2.2.1∧i.2.2.1≤7) (hc:0≤i.2.2.2∧i.2.2.2≤7) (Z:Wo) (hE:b_v X.ws X.ts X.D X.bs k 1 (rgt (thW X k) i.2.2.1)=E) (hZ:b_j { X with ws:=b_w X.ws X.ts 1 (rgt (thW X k) i.2.2.1) (rgt (thW X k) i.2.1) (rgt (thW X k) i.2.2.2) } k (g_A (thW X k) i.2.1.toNat (b_K X.ws X.ts (rgt (thW X k) i.2.2.1)))=Z) (hY:b_j Z k (b_h (thW Z k))=Y) :
  Calls Tryz.prog 94 #[.pointer (some ⟨g,0,none⟩),.agg #[.int .i64 i.1,.int .i64 i.2.1,.int .i64 i.2.2.1,.int .i64 i.2.2.2]] w (c_c g b Sx X Y k E w):=by
 obtain ⟨op,ra,rb,rc⟩:=i;simp only at *;obtain ⟨W,hW⟩:=nm (w.alloc (Obj.cells (inC (op,ra,rb,rc)).toArray 66));have HI:=N21;have HB:=N3
 have HGS:=hid (show g < w.heap.size∧b < w.heap.size from ⟨a_P H.x (by simp),by
  obtain ⟨TC,h1,h2⟩:=H.tc;have h3:=b_f h2;have h4:repTh.k=13:=rfl;have h5:=H.hk;exact a_P h1 (by rw [h3,h4];omega)⟩)
 have HH:=hid (d_u HB.out H);have HC:=N57;obtain ⟨t,htt⟩:=mn (thW X k);rw [htt] at hpc hwf hE hZ;have ⟨HTT,HNN,HPC,HW⟩:=hh4 htt hN hpc hW;subst ho;have ⟨HY,HE,HZ,HWF⟩:=hh4 hY hE hZ hwf;have HRR:=hid (And.intro ha (And.intro hb hc));have HZT:=hid (show thW Z k=g_A t ra.toNat (b_K X.ws X.ts (rgt t rb)) by rw [←hZ];exact f_A (show k < ({ X with ws:=b_w X.ws X.ts 1 (rgt t rb) (rgt t ra) (rgt t rc) }:Wo).th.length from H.hk));have HZP:=N150;clear hY hE hZ hwf ha hb hc htt;clear hW H hN hpc
 go_enter Tryz.func94,Tryz.ntmps94
 go_upto_region 1 with fail
 rw [←HW.out]
 go_wp2_with fail
 refine HC.out.mono ?_;rintro e1 V ⟨rfl,m,hm⟩;have HB1:=N15;clear HC hm;have HHV:=hid (d_u HB1.out HH.out);have HIV:=hid (a_i HB1.out HI.out);have HBV:=hid (a_b HB.out HB1.out);have HBN:=N46;clear HB HB1 HH HI HW;obtain ⟨y0,-⟩:=HIV.out 0 _ rfl;have HC:=hid (f_7 Q g b Sx L X Z k (20,ra,rb,rc) 1 E V HHV.out (fun c hc=>HHV.out.new c hc) HNN.out HRR.out.1 HRR.out.2.1 HRR.out.2.2 (by rw [HTT.out];exact HWF.out) (by rw [HTT.out];exact HE.out) (by rw [HTT.out];exact HZ.out));exact J5
theorem k_m (Q:Nat→Prop) (g b:Nat) (Sx:Nat→Prop) (L:WoL) (X Y:Wo) (k:Nat) (i:Ins) (E:Int) (w:World) (H:Wk Q w g b L X k) (hN:Sx g∧Sx b) (hpc:0≤(thW X k).pc∧(thW X k).pc≤1000) (ho:i.1=21) (hwf:∀ j,j < 8→(Lit.int .i64 ((thW X k).r j)).wf=true) (ha:0≤i.2.1∧i.2.1≤7) (hb:0≤i.2.2.1∧i.2.2.1≤7) (hc:0≤i.2.2.2∧i.2.2.2≤7) (Z:Wo) (hE:b_v X.ws X.ts X.D X.bs k 2 (rgt (thW X k) i.2.2.1)=E) (hZ:b_j { X with ws:=b_w X.ws X.ts 2 (rgt (thW X k) i.2.2.1) (rgt (thW X k) i.2.1) (rgt (thW X k) i.2.2.2) } k (g_A (thW X k) i.2.1.toNat (b_K X.ws X.ts (rgt (thW X k) i.2.2.1)))=Z) (hY:b_j Z k (b_h (thW Z k))=Y) :
  Calls Tryz.prog 94 #[.pointer (some ⟨g,0,none⟩),.agg #[.int .i64 i.1,.int .i64 i.2.1,.int .i64 i.2.2.1,.int .i64 i.2.2.2]] w (c_c g b Sx X Y k E w):=by
 obtain ⟨op,ra,rb,rc⟩:=i;simp only at *;obtain ⟨W,hW⟩:=nm (w.alloc (Obj.cells (inC (op,ra,rb,rc)).toArray 66));have HI:=N21;have HB:=N3
 have HGS:=hid (show g < w.heap.size∧b < w.heap.size from ⟨a_P H.x (by simp),by
  obtain ⟨TC,h1,h2⟩:=H.tc;have h3:=b_f h2;have h4:repTh.k=13:=rfl;have h5:=H.hk;exact a_P h1 (by rw [h3,h4];omega)⟩)
 have HH:=hid (d_u HB.out H);have HC:=N57;obtain ⟨t,htt⟩:=mn (thW X k);rw [htt] at hpc hwf hE hZ;have ⟨HTT,HNN,HPC,HW⟩:=hh4 htt hN hpc hW;subst ho;have ⟨HY,HE,HZ,HWF⟩:=hh4 hY hE hZ hwf;have HRR:=hid (And.intro ha (And.intro hb hc));have HZT:=hid (show thW Z k=g_A t ra.toNat (b_K X.ws X.ts (rgt t rb)) by rw [←hZ];exact f_A (show k < ({ X with ws:=b_w X.ws X.ts 2 (rgt t rb) (rgt t ra) (rgt t rc) }:Wo).th.length from H.hk));have HZP:=N150;clear hY hE hZ hwf ha hb hc htt;clear hW H hN hpc
 go_enter Tryz.func94,Tryz.ntmps94
 go_upto_region 1 with fail
 rw [←HW.out]
 go_wp2_with fail
 refine HC.out.mono ?_;rintro e1 V ⟨rfl,m,hm⟩;have HB1:=N15;clear HC hm;have HHV:=hid (d_u HB1.out HH.out);have HIV:=hid (a_i HB1.out HI.out);have HBV:=hid (a_b HB.out HB1.out);have HBN:=N46;clear HB HB1 HH HI HW;obtain ⟨y0,-⟩:=HIV.out 0 _ rfl;have HC:=hid (f_7 Q g b Sx L X Z k (21,ra,rb,rc) 2 E V HHV.out (fun c hc=>HHV.out.new c hc) HNN.out HRR.out.1 HRR.out.2.1 HRR.out.2.2 (by rw [HTT.out];exact HWF.out) (by rw [HTT.out];exact HE.out) (by rw [HTT.out];exact HZ.out));exact J5
theorem k_n (Q:Nat→Prop) (g b:Nat) (Sx:Nat→Prop) (L:WoL) (X Y:Wo) (k:Nat) (i:Ins) (E:Int) (w:World) (H:Wk Q w g b L X k) (hN:Sx g∧Sx b) (hpc:0≤(thW X k).pc∧(thW X k).pc≤1000) (ho:i.1=24) (hwf:∀ j,j < 8→(Lit.int .i64 ((thW X k).r j)).wf=true) (ha:0≤i.2.1∧i.2.1≤7) (hb:0≤i.2.2.1∧i.2.2.1≤7) (Z:Wo) (hE:c_C X.ws X.ts (rgt (thW X k) i.2.1) (rgt (thW X k) i.2.2.1) 1=E) (hZ:{ X with ws:=c_2 X.ws X.ts (rgt (thW X k) i.2.1) (rgt (thW X k) i.2.2.1) 1,ts:=c_L X.ws X.ts (rgt (thW X k) i.2.1) (rgt (thW X k) i.2.2.1) 1 }=Z) (hY:b_j Z k (b_h (thW Z k))=Y) :
  Calls Tryz.prog 94 #[.pointer (some ⟨g,0,none⟩),.agg #[.int .i64 i.1,.int .i64 i.2.1,.int .i64 i.2.2.1,.int .i64 i.2.2.2]] w (c_c g b Sx X Y k E w):=by
 obtain ⟨op,ra,rb,rc⟩:=i;simp only at *;obtain ⟨W,hW⟩:=nm (w.alloc (Obj.cells (inC (op,ra,rb,rc)).toArray 66));have HI:=N21;have HB:=N3
 have HGS:=hid (show g < w.heap.size∧b < w.heap.size from ⟨a_P H.x (by simp),by
  obtain ⟨TC,h1,h2⟩:=H.tc;have h3:=b_f h2;have h4:repTh.k=13:=rfl;have h5:=H.hk;exact a_P h1 (by rw [h3,h4];omega)⟩)
 have HH:=hid (d_u HB.out H);have HC:=N57;obtain ⟨t,htt⟩:=mn (thW X k);rw [htt] at hpc hwf hE hZ;have ⟨HTT,HNN,HPC,HW⟩:=hh4 htt hN hpc hW;subst ho;have ⟨HY,HE,HZ,HWF⟩:=hh4 hY hE hZ hwf;have HRR:=hid (And.intro ha hb);have HZT:=hid (show thW Z k=t by rw [←hZ];exact htt);have HZP:=hid (show t.pc=t.pc from rfl);clear hY hE hZ hwf ha hb htt;clear hW H hN hpc
 go_enter Tryz.func94,Tryz.ntmps94
 go_upto_region 1 with fail
 rw [←HW.out]
 go_wp2_with fail
 refine HC.out.mono ?_;rintro e1 V ⟨rfl,m,hm⟩;have HB1:=N15;clear HC hm;have HHV:=hid (d_u HB1.out HH.out);have HIV:=hid (a_i HB1.out HI.out);have HBV:=hid (a_b HB.out HB1.out);have HBN:=N46;clear HB HB1 HH HI HW;obtain ⟨y0,-⟩:=HIV.out 0 _ rfl
 have HC:=hid ((show Calls Tryz.prog 124 #[.pointer (some ⟨g,0,none⟩),.agg #[.int .i64 24,.int .i64 ra,.int .i64 rb,.int .i64 rc],.int .i64 1] V (c_c g b Sx X Z k E V) from by
  have h:=p_s Q g b Sx L X k (24,ra,rb,rc) 1 V HHV.out (fun c hc=>HHV.out.new c hc) HNN.out.1 HRR.out.1 HRR.out.2 (by rw [HTT.out];exact HWF.out);rw [HTT.out] at h;have h1:=HE.out;have h2:=HZ.out;subst h1 h2;exact h))
 obtain ⟨y1,-⟩:=HIV.out 1 _ rfl;obtain ⟨y2,-⟩:=HIV.out 2 _ rfl;obtain ⟨y3,-⟩:=HIV.out 3 _ rfl
 go_wp2_with fail
 refine HC.out.mono ?_;clear HC y0 y1 y2 y3;rintro e2 V2 ⟨(⟨hz,rfl,Q2,L2,hh⟩ | ⟨hz,rfl,Q2,L2,hh⟩),hb2⟩
 ·have HZE:=hid hz;have HH2:=hid hh;have HB2:=hid (HBN.out.trans hb2);clear hz hh hb2;obtain ⟨fa2,fc2,la2,lc2,-,ht2⟩:=c_1 HH2.out;obtain ⟨p0,pf⟩:=ht2 0 _ rfl;have p0:V2.cell? ⟨b,k*13,none⟩=some (.int .i64 (thW Z k).pc):=p0;have pf:V2.frozen? ⟨b,k*13,none⟩=false:=pf;obtain ⟨pc,hpc2⟩:=mn ((thW Z k).pc);rw [hpc2] at p0;have hwk:=N180;exact J11
 ·go_wp2
  exact And.intro rfl ⟨.inr ⟨hz,rfl,Q2,L2,hh⟩,HBN.out.trans hb2⟩
theorem k_o (Q:Nat→Prop) (g b:Nat) (Sx:Nat→Prop) (L:WoL) (X Y:Wo) (k:Nat) (i:Ins) (E:Int) (w:World) (H:Wk Q w g b L X k) (hN:Sx g∧Sx b) (hpc:0≤(thW X k).pc∧(thW X k).pc≤1000) (ho:i.1=25) (hwf:∀ j,j < 8→(Lit.int .i64 ((thW X k).r j)).wf=true) (ha:0≤i.2.1∧i.2.1≤7) (hb:0≤i.2.2.1∧i.2.2.1≤7) (Z:Wo) (hE:c_C X.ws X.ts (rgt (thW X k) i.2.1) (rgt (thW X k) i.2.2.1) 2=E) (hZ:{ X with ws:=c_2 X.ws X.ts (rgt (thW X k) i.2.1) (rgt (thW X k) i.2.2.1) 2,ts:=c_L X.ws X.ts (rgt (thW X k) i.2.1) (rgt (thW X k) i.2.2.1) 2 }=Z) (hY:b_j Z k (b_h (thW Z k))=Y) :
  Calls Tryz.prog 94 #[.pointer (some ⟨g,0,none⟩),.agg #[.int .i64 i.1,.int .i64 i.2.1,.int .i64 i.2.2.1,.int .i64 i.2.2.2]] w (c_c g b Sx X Y k E w):=by
 obtain ⟨op,ra,rb,rc⟩:=i;simp only at *;obtain ⟨W,hW⟩:=nm (w.alloc (Obj.cells (inC (op,ra,rb,rc)).toArray 66));have HI:=N21;have HB:=N3
 have HGS:=hid (show g < w.heap.size∧b < w.heap.size from ⟨a_P H.x (by simp),by
  obtain ⟨TC,h1,h2⟩:=H.tc;have h3:=b_f h2;have h4:repTh.k=13:=rfl;have h5:=H.hk;exact a_P h1 (by rw [h3,h4];omega)⟩)
 have HH:=hid (d_u HB.out H);have HC:=N57;obtain ⟨t,htt⟩:=mn (thW X k);rw [htt] at hpc hwf hE hZ;have ⟨HTT,HNN,HPC,HW⟩:=hh4 htt hN hpc hW;subst ho;have ⟨HY,HE,HZ,HWF⟩:=hh4 hY hE hZ hwf;have HRR:=hid (And.intro ha hb);have HZT:=hid (show thW Z k=t by rw [←hZ];exact htt);have HZP:=hid (show t.pc=t.pc from rfl);clear hY hE hZ hwf ha hb htt;clear hW H hN hpc
 go_enter Tryz.func94,Tryz.ntmps94
 go_upto_region 1 with fail
 rw [←HW.out]
 go_wp2_with fail
 refine HC.out.mono ?_;rintro e1 V ⟨rfl,m,hm⟩;have HB1:=N15;clear HC hm;have HHV:=hid (d_u HB1.out HH.out);have HIV:=hid (a_i HB1.out HI.out);have HBV:=hid (a_b HB.out HB1.out);have HBN:=N46;clear HB HB1 HH HI HW;obtain ⟨y0,-⟩:=HIV.out 0 _ rfl
 have HC:=hid ((show Calls Tryz.prog 124 #[.pointer (some ⟨g,0,none⟩),.agg #[.int .i64 25,.int .i64 ra,.int .i64 rb,.int .i64 rc],.int .i64 2] V (c_c g b Sx X Z k E V) from by
  have h:=p_s Q g b Sx L X k (25,ra,rb,rc) 2 V HHV.out (fun c hc=>HHV.out.new c hc) HNN.out.1 HRR.out.1 HRR.out.2 (by rw [HTT.out];exact HWF.out);rw [HTT.out] at h;have h1:=HE.out;have h2:=HZ.out;subst h1 h2;exact h))
 obtain ⟨y1,-⟩:=HIV.out 1 _ rfl;obtain ⟨y2,-⟩:=HIV.out 2 _ rfl;obtain ⟨y3,-⟩:=HIV.out 3 _ rfl
 go_wp2_with fail
 refine HC.out.mono ?_;clear HC y0 y1 y2 y3;rintro e2 V2 ⟨(⟨hz,rfl,Q2,L2,hh⟩ | ⟨hz,rfl,Q2,L2,hh⟩),hb2⟩
 ·have HZE:=hid hz;have HH2:=hid hh;have HB2:=hid (HBN.out.trans hb2);clear hz hh hb2;obtain ⟨fa2,fc2,la2,lc2,-,ht2⟩:=c_1 HH2.out;obtain ⟨p0,pf⟩:=ht2 0 _ rfl;have p0:V2.cell? ⟨b,k*13,none⟩=some (.int .i64 (thW Z k).pc):=p0;have pf:V2.frozen? ⟨b,k*13,none⟩=false:=pf;obtain ⟨pc,hpc2⟩:=mn ((thW Z k).pc);rw [hpc2] at p0;have hwk:=N180;exact J11
 ·go_wp2
  exact And.intro rfl ⟨.inr ⟨hz,rfl,Q2,L2,hh⟩,HBN.out.trans hb2⟩
end Go.Proofs.YtogdpojnbgeknaaGreatDoor
