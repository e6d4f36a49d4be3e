/-
  The document's faults: all faults of a program's names.
-/
import Derived.Test.YtimoappbefindaaGreatUr
import Derived.Deep.DeepCutAuto
import Derived.BigQuiet
namespace Go.Proofs.YtimoappbefindaaGreat
open Go.RowKit Go.Maps
set_option maxRecDepth 100000
def Sfs (t:TypeId):Prop:=t=49∨t=9
theorem fA {t:TypeId} (h1:t≠49) (h2:t≠9):¬ Sfs t:=fun h=>h.elim h1 h2
theorem prmF_len (ps:List Pm) (j:Nat):(prmF ps j).length≤1:=by unfold prmF;split<;>simp
theorem ll (ps:List Pm):∀ k,(prmK ps k).length≤k
 |0=>by simp[prmK]
 |k+1=>by
  rw[fT,List.length_append]
  have:=ll ps k
  have:=prmF_len ps k
  omega
theorem kU {α β:Type} (f:α→List β) (c:Nat) (h:∀ a,(f a).length≤c):∀ l:List α,(l.flatMap f).length≤l.length*c
 |[]=>by simp
 |a::l=>by
  rw[List.flatMap_cons,List.length_append,List.length_cons,Nat.add_mul]
  have:=kU f c h l
  have:=h a
  omega
theorem l9 (gs:List Fn1) (k:Nat):(fV gs k).length≤1:=by unfold fV;split<;>simp
theorem fnF_len (gs:List Fn1) (hsz:∀ g∈gs,szE g.body≤65536) (hps:∀ g∈gs,g.pms.length≤65536) (k:Nat) (hk:k<gs.length):(fnF gs k).length≤200000:=by
 have hmem:gs.getD k fd∈gs:=by rw[List.getD_eq_getElem?_getD,List.getElem?_eq_getElem hk];exact List.getElem_mem hk
 unfold fnF bodF
 rw[List.length_append,List.length_append]
 have a:=l9 gs k
 have b:=ll (gs.getD k fd).pms (gs.getD k fd).pms.length
 have c:=kU (snF gs) 2 (qY gs) (snE ((gs.getD k fd).pms.map (·.name)) (gs.getD k fd).body)
 have d:=kF ((gs.getD k fd).pms.map (·.name)) (gs.getD k fd).body
 have e:=hsz _ hmem
 have f:=hps _ hmem
 omega
theorem ni (gs:List Fn1) (hsz:∀ g∈gs,szE g.body≤65536) (hps:∀ g∈gs,g.pms.length≤65536):∀ k,k≤gs.length→(fnK gs k).length≤k*200000
 |0,_=>by simp[fnK]
 |k+1,h=>by
  rw[nN,List.length_append]
  have:=ni gs hsz hps k (by omega)
  have:=fnF_len gs hsz hps k (by omega)
  omega
theorem FtW.up {w w':World} {B:Nat} {v:Value} {fs:List (Int × Int)} (h:FtW w B v fs) (hb:Below w.heap.size w w'):FtW w' B v fs:=bi h fun b hk=>hb.block b (aR h b hk).2
theorem OwN.up {w w':World} {B:Nat} {v:Value} {ws:List (List UInt8)} (h:OwN w B v ws) (hb:Below w.heap.size w w'):OwN w' B v ws:=bi h fun b hk=>hb.block b (aR h b hk).2
theorem PlW.has {w:World} {A:Nat→Prop} {g j:Nat} {ps:List Pm} (h:PlW w A (some ⟨g,0,none⟩) ps) (hj:j<ps.length):A g∧g<w.heap.size:=by
 rcases h with h|⟨g',e,ha,hl,_⟩
 ·rw[h] at hj;simp at hj
 ·cases e;exact⟨ha,hl⟩
theorem lT {w:World} {B:Nat} {v:Value} {fs:List (Int × Int)} (h:FtW w B v fs) (hB:B≤w.heap.size) (hn:fs.length≤1000000000000) (y z:Int) :
  ∃ v' w',(Builtin.append_ #[102,102] 102 #[v,.slice (some ⟨w.heap.size,0,none⟩) 1 1]).run Tryz.prog (w.alloc (.cells #[.int .i64 y,.int .i64 z] 49))=.ok v' w'∧FtW w' B v' (fs++[(y,z)])∧Kx (·=49) B w w':=by
 have hb:=ae w (.cells #[.int .i64 y,.int .i64 z] 49)
 have hB':=Bk.new w 49 #[.int .i64 y,.int .i64 z]
 obtain⟨v',w',h1,h2,h3⟩:=ft_one (cap:=1) (h.up hb) (Nat.le_trans hB hb.size) hn (hB'.cell 0) (hB'.cell 1)
 exact⟨v',w',h1,h2,(Kx.of hb).trans h3⟩
theorem on_new {w:World} {B:Nat} {v:Value} {ws:List (List UInt8)} (h:OwN w B v ws) (hB:B≤w.heap.size) (hn:ws.length≤1000000000) (s:List UInt8) :
  ∃ v' w',(Builtin.append_ #[104,104] 104 #[v,.slice (some ⟨w.heap.size,0,none⟩) 1 1]).run Tryz.prog (w.alloc (.cells #[.string (bs s)] 9))=.ok v' w'∧OwN w' B v' (ws++[s])∧Kx (·=9) B w w':=by
 have hb:=ae w (.cells #[.string (bs s)] 9)
 have hB':=Bk.new w 9 #[.string (bs s)]
 obtain⟨v',w',h1,h2,h3⟩:=on_one (cap:=1) (h.up hb) (Nat.le_trans hB hb.size) hn (hB'.cell 0)
 exact⟨v',w',h1,h2,(Kx.of hb).trans h3⟩
theorem lq {B:Nat} {w w':World} (h:Kx (·=49) B w w'):Kx Sfs B w w':=h.mono fun _ e=>.inl e
theorem sfs_st {B:Nat} {w w':World} (h:Kx (·=9) B w w'):Kx Sfs B w w':=h.mono fun _ e=>.inr e
theorem flat_step {α β:Type} (f:α→List β) (d:α) (l:List α) (k:Nat) (h:k<l.length):(l.take (k+1)).flatMap f=(l.take k).flatMap f++f (l.getD k d):=by
 rw[List.take_succ_eq_append_getElem h,List.flatMap_append,List.flatMap_singleton,List.getD_eq_getElem?_getD,List.getElem?_eq_getElem h]
 rfl
theorem hdN_ge {gs:List Fn1} {s:List UInt8} (h:¬ hdN gs s<0):∃ m:Nat,hdN gs s=m∧m<gs.length:=by
 unfold hdN at h ⊢
 cases e:gs.findIdx? (fun g=>g.name==s) with
 |none=>rw[e] at h;exact absurd (by decide) h
 |some m=>exact⟨m,rfl,(List.findIdx?_eq_some_iff_getElem.1 e).1⟩
set_option maxHeartbeats 16000000 in
theorem faults_any {w:World} {A:Nat→Prop} {ao:Option Addr} {gs:List Fn1} {c:Nat} (hF:FlW w A ao gs) (hA:∀ k,A k→k<w.heap.size) (hsz:∀ g∈gs,szE g.body≤65536) (hps:∀ g∈gs,g.pms.length≤65536) (hgs:gs.length≤65536) :
  Calls Tryz.prog 47 #[.agg #[.slice ao gs.length c]] w fun e w'=>(∃ v,e=.returned v∧FtW w' w.heap.size v (ftP gs))∧Below w.heap.size w w':=by
 have hb0:=ae w (.cells #[.slice ao gs.length c] 26)
 have hL:=Bk.new w 26 #[.slice ao gs.length c]
 go_enter Tryz.func47,Tryz.ntmps47
 go_upto_region 1 with fail
 have hFW:=hF.up hb0
 have hWs:(w.alloc (.cells #[.slice ao gs.length c] 26)).heap.size=w.heap.size+1:=by simp
 generalize w.alloc (.cells #[.slice ao gs.length c] 26)=W at *
 have c0:W.cell? ⟨w.heap.size,0,none⟩=some (.slice ao gs.length c):=hL.cell 0
 have HSZ:Hid (∀ g∈gs,szE g.body≤65536):=hsz
 have HPS:Hid (∀ g∈gs,g.pms.length≤65536):=hps
 have HB0:Hid (Below w.heap.size w W):=hb0
 clear hF hsz hps hb0
 go_wp2_with fail
 go_loopw [3,4] (fun u v wr=>∃ k:Nat,k≤gs.length∧v=.int .i64 k∧FtW wr w.heap.size u (fnK gs k)∧Kx Sfs w.heap.size W wr) (fun _ v _=>gs.length-(intOf v).toNat)
 case atStart=>exact⟨0,Nat.zero_le _,rfl,FtW.nil _ _,Kx.refl _ _ _⟩
 case round=>
  obtain⟨k,hkn,rfl,hOk,hKk⟩:=hrel
  have hLk:=hKk.bk hL (fA (by decide) (by decide))
  have c0:wr.cell? ⟨w.heap.size,0,none⟩=some (.slice ao gs.length c):=hLk.cell 0
  have hwr:W.heap.size≤wr.heap.size:=hKk.size
  by_cases hlt:k<gs.length
  ·have HS:Hid (fnK gs (k+1)=fnK gs k++fnF gs k):=nN gs k
   have hlk:=ni gs HSZ.out HPS.out k hkn
   have hmem:gs.getD k fd∈gs:=by rw[List.getD_eq_getElem?_getD,List.getElem?_eq_getElem hlt];exact List.getElem_mem hlt
   have hsG:=HSZ.out _ hmem
   have hpG:=HPS.out _ hmem
   have hFk:=hKk.fl hFW hA
   obtain⟨G,vs,rfl,_,hv,hxv⟩:=hFk.at k hlt
   have HF:Hid (fnF gs k=fV gs k++(prmK (gs.getD k fd).pms (gs.getD k fd).pms.length++bodF gs (gs.getD k fd))):=rfl
   have HH:Hid (fV gs k=if hdN gs (gs.getD k fd).name<k then [(30,((gs.getD k fd).pos:Int))] else []):=rfl
   obtain⟨o0,ho0⟩:∃ o0,o0=fnK gs k:=⟨_,rfl⟩
   rw[← ho0] at hOk HS hlk
   obtain⟨q,hq⟩:∃ q,q=gs.getD k fd:=⟨_,rfl⟩
   rw[← hq] at hxv hsG hpG HF HH
   clear hmem hq ho0
   obtain⟨gn,ps,gt,gb,gp⟩:=q
   dsimp only at hsG hpG HF HH
   obtain⟨ap,cp,es,rfl,hp1,hx1⟩:=hxv
   dsimp only at hp1 hx1 hv
   obtain⟨x0,x1,x2,x3,x4,x5,x6,rfl⟩:=aQ hx1.len
   obtain⟨d0,d1,d2,d3,d4,d5,d6,d7,d8,d9,d10⟩:=fJ (show wr.rangeAt G (k*11) [_,_,_,x0,x1,x2,x3,x4,x5,x6,_] from hv)
   have hZ:=Bk.new wr 60 #[.string ⟨#[]⟩,.slice none 0 0,.int .i64 0,.int .i64 0,.string ⟨#[]⟩,.string ⟨#[]⟩,.int .i64 0,.complex .f64 0 0,.slice none 0 0,.int .i64 0,.int .i64 0]
   have hone:∀ v∈[.string (bs gn),.slice ap ps.length cp,.int .i64 gt,x0,x1,x2,x3,x4,x5,x6,.int .i64 gp],v.oneCell'=true:=by
    have:=hx1.one
    simp only[List.mem_cons,List.not_mem_nil,or_false] at this ⊢
    rintro v (rfl|rfl|rfl|h|h|h|h|h|h|h|rfl)
    ·rfl
    ·rfl
    ·rfl
    all_goals first|rfl|exact this v (by simp[h])
   clear hv
   go_upto_region 6 with (refine ah rfl 60 (.tmp 5) (.tmp 23) rfl wr.heap.size 0 [.string (bs gn),.slice ap ps.length cp,.int .i64 gt,x0,x1,x2,x3,x4,x5,x6,.int .i64 gp] rfl rfl hZ (Nat.le_refl 11) Tryz.infoF11 hone ?_;intro w3 hV3 hO3)
   have hV3:Bk w3 wr.heap.size 60 [.string (bs gn),.slice ap ps.length cp,.int .i64 gt,x0,x1,x2,x3,x4,x5,x6,.int .i64 gp]:=hV3
   have hb3:Below wr.heap.size wr w3:=(ae wr _).trans (hO3.below (Nat.le_refl _))
   have hK3:=hKk.trans (.of hb3)
   have hO3':=(Kx.of (S:=Sfs) (B:=w.heap.size) hb3)
   have hF3:=hFk.up hb3
   have hx3:=hx1.up hb3
   have hp3:=hp1.up hb3
   have hL3:=hLk.up hb3
   have hOw:=hOk.up hb3
   have hw3:wr.heap.size<w3.heap.size:=hV3.lt
   have c0:w3.cell? ⟨w.heap.size,0,none⟩=some (.slice (some ⟨G,0,none⟩) gs.length c):=hL3.cell 0
   have e0:w3.cell? ⟨wr.heap.size,0,none⟩=some (.string (bs gn)):=hV3.cell 0
   have hh:=lV (c:=c) hF3 (by omega) gn
   clear hO3 hO3' hZ hone d0 d1 d2 d3 d4 d5 d6 d7 d8 d9 d10 hOk hx1 hp1 hFk hKk hb3 hLk
   go_upto_if 29 with (go_at_call 72;refine hh.mono ?_;rintro e w4 ⟨rfl,hb4⟩)
   have hK4:=hK3.trans (.of hb4)
   have hF4:=hF3.up hb4
   have hx4:=hx3.up hb4
   have hp4:=hp3.up hb4
   have hL4:=hL3.up hb4
   have hV4:=hV3.up hb4
   have hOw4:=hOw.up hb4
   have hw4:=hb4.size
   obtain⟨H,hH⟩:∃ H,H=fV gs k:=⟨_,rfl⟩
   rw[← hH] at HF HH
   have hHl:H.length≤1:=by rw[hH];exact l9 gs k
   clear hh hF3 hx3 hp3 hL3 hV3 hOw hK3 hH c0 e0
   go_cut [3] (fun v wx=>FtW wx w.heap.size v (o0++H)∧Kx Sfs w.heap.size w4 wx)
   case first=>
    have e4:w4.cell? ⟨wr.heap.size,10,none⟩=some (.int .i64 gp):=hV4.cell 10
    by_cases hd:hdN gs gn<k
    ·obtain⟨v',w',R,hO',hK'⟩:=lT hOw4 (by omega) (by omega) 30 gp
     have e:H=[(30,(gp:Int))]:=by rw[HH.out,if_pos hd]
     rw[← e] at hO'
     have HX:Hid (FtW w' w.heap.size v' (o0++H)∧Kx Sfs w.heap.size w4 w'):=⟨hO',lq hK'⟩
     clear hO' hK' e
     go_wp2_with (at_builtin;refine wpList_append_run rfl (.tmp 30) (.tmp 34) 102 rfl rfl _ _ rfl rfl _ _ (show _=_ from R) ?_)
     go_meet
     case rel=>exact HX.out
    ·have e:H=[]:=by rw[HH.out,if_neg hd]
     have HX:Hid (FtW w4 w.heap.size _ (o0++H)∧Kx Sfs w.heap.size w4 w4):=⟨by rw[e,List.append_nil];exact hOw4,Kx.refl _ _ _⟩
     clear e
     go_wp2_with fail
     go_meet
     case rel=>exact HX.out
   case rest=>
    obtain⟨hOc,hKc⟩:=hcut
    have hKW:=hK4.trans hKc
    have hF5:=hKc.fl hF4 hA
    have hx5:=hKc.ex hx4 hA
    have hp5:=hKc.pl hp4 hA
    have hL5:=hKc.bk hL4 (fA (by decide) (by decide))
    have hV5:=hKc.bk hV4 (fA (by decide) (by decide))
    have hwc:=hKc.size
    obtain⟨o1,ho1⟩:∃ o1,o1=o0++H:=⟨_,rfl⟩
    have hl1:o1.length≤k*200000+1:=by rw[ho1,List.length_append];omega
    have HS1:Hid (fnK gs (k+1)=o1++(prmK ps ps.length++bodF gs ⟨gn,ps,gt,gb,gp⟩)):=by rw[HS.out,HF.out,ho1,List.append_assoc];exact rfl
    rw[← ho1] at hOc
    have e1:wc.cell? ⟨wr.heap.size,1,none⟩=some (.slice ap ps.length cp):=hV5.cell 1
    obtain⟨bV,hbV⟩:∃ bV,bV=wr.heap.size:=⟨_,rfl⟩
    rw[← hbV] at hV5 e1 hw3 ⊢
    have hKb:w.heap.size<bV:=by omega
    clear hbV ho1 hKc hF4 hx4 hp4 hL4 hV4 hOw4 hK4 HF HH HS hHl hb4
    rename World=>Y
    go_wp2_with fail
    go_loopw [3,6,7] (fun u v i wr=>∃ k:Nat,k≤ps.length∧i=.int .i64 k∧FtW wr w.heap.size u (o1++prmK ps k)∧OwN wr w.heap.size v ((ps.take k).map fun x=>x.name)∧Kx Sfs w.heap.size Y wr) (fun _ _ i _=>ps.length-(intOf i).toNat)
    case atStart=>exact⟨0,Nat.zero_le _,rfl,by rw[show prmK ps 0=[] from rfl,List.append_nil];exact hOc,World.ownsRow_nil _ _ _ _,Kx.refl _ _ _⟩
    case round=>
     obtain⟨j,hjn,rfl,hOj,hNj,hKj⟩:=hrel
     have hVj:=hKj.bk hV5 (fA (by decide) (by decide))
     have e1:wr.cell? ⟨bV,1,none⟩=some (.slice ap ps.length cp):=hVj.cell 1
     have hwj:=hKj.size
     have hlj:=ll ps j
     by_cases hjt:j<ps.length
     ·have hpj:=hKj.pl hp5 hA
      obtain⟨g',rfl,hv⟩:=PlW.at hpj j hjt
      have HSj:Hid (prmK ps (j+1)=prmK ps j++prmF ps j):=fT ps j
      have HFj:Hid (prmF ps j=if (ps.getD j pd).name∈(ps.take j).map (fun x=>x.name) then [(30,((ps.getD j pd).pos:Int))] else []):=rfl
      have HNj:Hid ((ps.take (j+1)).map (fun x=>x.name)=(ps.take j).map (fun x=>x.name)++[(ps.getD j pd).name]):=lX ps j hjt
      have hnl:((ps.take j).map fun x=>x.name).length=j:=by rw[List.length_map,List.length_take];omega
      obtain⟨ns,hns⟩:∃ ns,ns=(ps.take j).map fun x=>x.name:=⟨_,rfl⟩
      rw[← hns] at hNj HFj HNj hnl
      have hnb:ns.length≤65536:=by omega
      obtain⟨q,hq⟩:∃ q,q=ps.getD j pd:=⟨_,rfl⟩
      rw[← hq] at hv HFj HNj
      clear hq hns hnl
      obtain⟨n1,t1,s1⟩:=q
      dsimp only at HFj HNj
      obtain⟨d0,d1,d2⟩:=sJ (show wr.rangeAt g' (j*3) [.string (bs n1),.int .i64 t1,.int .i64 s1] from hv)
      obtain⟨an,cn,rfl,hNs,_,_⟩:=hNj.names
      have hhas:=iA (cap:=cn) hNs (by omega) n1
      obtain⟨bb,hbb⟩:∃ bb,bb=decide (n1∈ns):=⟨_,rfl⟩
      have HBB:Hid (bb=decide (n1∈ns)):=hbb
      rw[← hbb] at hhas
      clear hbb
      obtain⟨F,hFe⟩:∃ F,F=prmF ps j:=⟨_,rfl⟩
      rw[← hFe] at HSj HFj
      clear hv hpj hFe hNs
      go_upto_if 50 with (go_at_call 50;refine hhas.mono ?_;rintro e w6 ⟨rfl,rfl⟩)
      go_cut [3] (fun v wx=>FtW wx w.heap.size v (o1++prmK ps (j+1))∧OwN wx w.heap.size (.slice an ns.length cn) ns∧Kx Sfs w.heap.size w6 wx)
      case first=>
       cases bb with
       |true=>
        have hm:n1∈ns:=of_decide_eq_true HBB.out.symm
        obtain⟨v',w',R,hO',hK'⟩:=lT hOj (by omega) (by rw[List.length_append];omega) 30 s1
        have e:prmK ps (j+1)=prmK ps j++[(30,(s1:Int))]:=by rw[HSj.out,HFj.out,if_pos hm]
        rw[List.append_assoc,← e] at hO'
        have HX:Hid (FtW w' w.heap.size v' (o1++prmK ps (j+1))∧OwN w' w.heap.size (.slice an ns.length cn) ns∧Kx Sfs w.heap.size w6 w'):=⟨hO',hK'.own hNj (by decide),lq hK'⟩
        clear hO' hK' e hm hhas HBB
        go_wp2_with (at_builtin;refine wpList_append_run rfl (.tmp 51) (.tmp 59) 102 rfl rfl _ _ rfl rfl _ _ (show _=_ from R) ?_)
        go_meet
        case rel=>exact HX.out
       |false=>
        have hm:¬ n1∈ns:=of_decide_eq_false HBB.out.symm
        have e:prmK ps (j+1)=prmK ps j:=by rw[HSj.out,HFj.out,if_neg hm,List.append_nil]
        have HX:Hid (FtW w6 w.heap.size _ (o1++prmK ps (j+1))∧OwN w6 w.heap.size (.slice an ns.length cn) ns∧Kx Sfs w.heap.size w6 w6):=⟨by rw[e];exact hOj,hNj,Kx.refl _ _ _⟩
        clear e hm hhas HBB
        go_wp2_with fail
        go_meet
        case rel=>exact HX.out
      case rest=>
       obtain⟨hO7,hN7,hK7⟩:=hcut
       have hw7:=hK7.size
       have hV7:=hK7.bk hVj (fA (by decide) (by decide))
       have hb7:Below w.heap.size w6 wc:=hK7.below (by omega)
       have e7:wc.cell? ⟨bV,1,none⟩=some (.slice (some ⟨g',0,none⟩) ps.length cp):=hV7.cell 1
       have hg:=hA _ (PlW.has hp5 hjt).1
       have d7:wc.cell? ⟨g',j*3,none⟩=some (.string (bs n1)):=(World.cell?_of_block (hb7.block g' hg)).trans d0
       obtain⟨v',w',R,hN',hK'⟩:=on_new hN7 (by omega) (by omega) n1
       rw[← HNj.out] at hN'
       have HX:Hid (FtW w' w.heap.size u3 (o1++prmK ps (j+1))∧OwN w' w.heap.size v' ((ps.take (j+1)).map fun x=>x.name)∧Kx Sfs w.heap.size Y w'):=⟨hK'.own hO7 (by decide),hN',(hKj.trans hK7).trans (sfs_st hK')⟩
       clear hN' hK' hO7 hN7 hK7 hOj hNj hKj hhas d0 d1 d2 hV7 hVj hF5 hx5 hp5 hL5 hV5 hKW hOc hb7 hwj hlj HSj HFj HNj
       go_wp2_with (at_builtin;refine wpList_append_run rfl (.tmp 61) (.tmp 68) 104 rfl rfl _ _ rfl rfl _ _ (show _=_ from R) ?_)
       go_roundw
       case rel=>exact⟨j+1,by omega,by go_num,HX.out⟩
       case measure=>simp[intOf];omega
     ·have hje:j=ps.length:=by omega
      subst hje
      rw[List.take_length] at hNj
      obtain⟨o2,ho2⟩:∃ o2,o2=o1++prmK ps ps.length:=⟨_,rfl⟩
      have hl2:o2.length≤k*200000+1+65536:=by rw[ho2,List.length_append];omega
      have HS2:Hid (fnK gs (k+1)=o2++(snE (ps.map fun x=>x.name) gb).flatMap (snF gs)):=by rw[HS1.out,ho2,List.append_assoc];exact rfl
      rw[← ho2] at hOj
      have hml:(ps.map fun x=>x.name).length=ps.length:=by rw[List.length_map]
      obtain⟨ns,hns⟩:∃ ns,ns=ps.map fun x=>x.name:=⟨_,rfl⟩
      rw[← hns] at hNj HS2 hml
      have hnb:ns.length≤65536:=by omega
      obtain⟨an,cn,rfl,hNs,hcn,_⟩:=hNj.names
      have hx6:=hKj.ex hx5 hA
      have hsn:=seen_any 65536 gb (by omega) (Nat.le_refl _) wr A [x0,x1,x2,x3,x4,x5,x6] ns an cn hx6 (fun b h=>by have:=hA b h;omega) hNs hcn (by omega)
      have hys:=kF ns gb
      obtain⟨ys,hy⟩:∃ ys,ys=snE ns gb:=⟨_,rfl⟩
      rw[← hy] at hsn HS2 hys
      have hF6:=hKj.fl hF5 hA
      have hL6:=hKj.bk hL5 (fA (by decide) (by decide))
      have hKW6:=hKW.trans hKj
      obtain⟨f0,f1,f2,f3,f4,f5,f6,f7,f8,f9,f10⟩:=Bk.eleven (show Bk wr bV 60 [_,_,_,_,_,_,_,_,_,_,_] from hVj)
      clear hy ho2 hns hml hx6 hNs hcn hNj hVj hV5 hF5 hx5 hp5 hL5 hKW hOc hlj HS1
      go_wp2_with fail
      refine hsn.mono ?_
      rintro e w8 ⟨⟨v8,rfl,hS8⟩,hb8⟩
      obtain⟨a8,c8,rfl,_⟩:=hS8.at
      have hF8:=hF6.up hb8
      have hL8:=hL6.up hb8
      have hO8:=hOj.up hb8
      have hKW8:=hKW6.trans (.of hb8)
      have hw8:=hb8.size
      clear hF6 hL6 hOj hKW6 hb8 hsn f0 f1 f2 f3 f4 f5 f6 f7 f8 f9 f10 e1 hKj
      have hyl:ys.length≤65536:=by omega
      rename World=>Y1
      rename World=>Y
      go_wp2_with fail
      go_loopw [3,9] (fun u i wr=>∃ m:Nat,m≤ys.length∧i=.int .i64 m∧FtW wr w.heap.size u (o2++(ys.take m).flatMap (snF gs))∧Kx Sfs w.heap.size Y wr) (fun _ i _=>ys.length-(intOf i).toNat)
      case atStart=>exact⟨0,Nat.zero_le _,rfl,by rw[List.take_zero,List.flatMap_nil,List.append_nil];exact hO8,Kx.refl _ _ _⟩
      case round=>
       obtain⟨m,hmn,rfl,hOm,hKm⟩:=hrel
       have hwm:=hKm.size
       by_cases hmt:m<ys.length
       ·obtain⟨a8',c8',e8,hat⟩:=(hKm.sn hS8 hA (fA (by decide) (by decide))).at
        cases e8
        obtain⟨g8,us,rfl,hr8,hb8,hx8⟩:=hat m hmt
        have HS3:Hid (o2++(ys.take (m+1)).flatMap (snF gs)=(o2++(ys.take m).flatMap (snF gs))++snF gs (ys.getD m yd)):=by rw[flat_step (snF gs) yd ys m hmt,List.append_assoc];exact rfl
        obtain⟨o3,ho3⟩:∃ o3,o3=o2++(ys.take m).flatMap (snF gs):=⟨_,rfl⟩
        have hl3:o3.length≤k*200000+1+65536+131072:=by
         rw[ho3,List.length_append]
         have a:=kU (snF gs) 2 (qY gs) (ys.take m)
         have b:(ys.take m).length≤65536:=by rw[List.length_take];omega
         omega
        rw[← ho3] at hOm HS3
        obtain⟨y,hye⟩:∃ y,y=ys.getD m yd:=⟨_,rfl⟩
        rw[← hye] at hb8 hx8 HS3
        clear hye ho3
        obtain⟨⟨op,name,tail,ty,p,q,xs,i⟩,fr⟩:=y
        dsimp only at hb8 hx8
        have hone:=hx8.one
        have HX8:=hx8
        cases hx8
        rename_i ax cx hel
        obtain⟨d0,d1,d2,d3,d4,d5,d6⟩:=oU hr8
        have hZ:=Bk.new wr 58 #[.int .i64 0,.string ⟨#[]⟩,.string ⟨#[]⟩,.int .i64 0,.complex .f64 0 0,.slice none 0 0,.int .i64 0]
        clear hr8 hel HX8
        go_upto_region 20 with (refine ah rfl 58 (.tmp 10) (.tmp 84) rfl wr.heap.size 0 [.int .i64 op,.string (bs name),.string (bs tail),.int .i64 ty,.complex .f64 (fl p) (fl q),.slice ax xs.length cx,.int .i64 i] rfl rfl hZ (Nat.le_refl 7) Tryz.infoE hone ?_;intro w9 hB9 hO9)
        have hB9':Bk w9 wr.heap.size 58 [.int .i64 op,.string (bs name),.string (bs tail),.int .i64 ty,.complex .f64 (fl p) (fl q),.slice ax xs.length cx,.int .i64 i]:=hB9
        have hb9:Below wr.heap.size wr w9:=(ae wr _).trans (hO9.below (Nat.le_refl _))
        have hO9':=hOm.up hb9
        have hK9:=hKm.trans (.of hb9)
        have hw9:wr.heap.size<w9.heap.size:=hB9'.lt
        have b9:w9.cell? ⟨g8,m*8+7,none⟩=some (.bool fr):=(World.cell?_of_block (hb9.block g8 (cu hb8))).trans hb8
        have hF9:=hK9.fl hF8 hA
        have hL9:=hK9.bk hL8 (fA (by decide) (by decide))
        obtain⟨b10,hb10⟩:∃ b10,b10=wr.heap.size:=⟨_,rfl⟩
        rw[← hb10] at hB9' hw9 ⊢
        have hwb:Y.heap.size≤b10:=by omega
        clear hb10 hZ hone hO9 hB9 d0 d1 d2 d3 d4 d5 d6 hOm hKm hb8 hat hb9
        go_upto_if 89 with fail
        go_cut [3] (fun v wx=>FtW wx w.heap.size v (o3++if fr=true then [(31,(i:Int))] else [])∧Kx Sfs w.heap.size w9 wx)
        case first=>
         have e9:w9.cell? ⟨b10,6,none⟩=some (.int .i64 i):=hB9'.cell 6
         cases fr with
         |true=>
          obtain⟨v',w',R,hO',hK'⟩:=lT hO9' (by omega) (by omega) 31 i
          have HX:Hid (FtW w' w.heap.size v' (o3++if true=true then [(31,(i:Int))] else [])∧Kx Sfs w.heap.size w9 w'):=⟨hO',lq hK'⟩
          clear hO' hK' hF9 hL9 hS8 hF8 hL8 hO8 hK9
          go_wp2_with (at_builtin;refine wpList_append_run rfl (.tmp 90) (.tmp 94) 102 rfl rfl _ _ rfl rfl _ _ (show _=_ from R) ?_)
          go_meet
          case rel=>exact HX.out
         |false=>
          have HX:Hid (FtW w9 w.heap.size _ (o3++if false=true then [(31,(i:Int))] else [])∧Kx Sfs w.heap.size w9 w9):=⟨by rw[if_neg (by decide),List.append_nil];exact hO9',Kx.refl _ _ _⟩
          clear hF9 hL9 hS8 hF8 hL8 hO8 hK9
          go_wp2_with fail
          go_meet
          case rel=>exact HX.out
        case rest=>
         obtain⟨hOd,hKd⟩:=hcut
         obtain⟨o4,ho4⟩:∃ o4,o4=o3++if fr=true then [(31,(i:Int))] else []:=⟨_,rfl⟩
         have hl4:o4.length≤k*200000+1+65536+131072+1:=by
          have h1:(if fr=true then [((31:Int),(i:Int))] else []).length≤1:=by split<;>simp
          rw[ho4,List.length_append]
          omega
         have HS4:Hid (o2++(ys.take (m+1)).flatMap (snF gs)=o4++if op=7 then calF gs name xs.length i else []):=by rw[HS3.out,ho4,List.append_assoc];exact rfl
         rw[← ho4] at hOd
         have hBd:=hKd.bk hB9' (fA (by decide) (by decide))
         have hFd:=hKd.fl hF9 hA
         have hLd:=hKd.bk hL9 (fA (by decide) (by decide))
         have hKe:=hK9.trans hKd
         have hwd:=hKd.size
         have k0:wc.cell? ⟨b10,0,none⟩=some (.int .i64 op):=hBd.cell 0
         have k1:wc.cell? ⟨b10,1,none⟩=some (.string (bs name)):=hBd.cell 1
         have k5:wc.cell? ⟨b10,5,none⟩=some (.slice ax xs.length cx):=hBd.cell 5
         have k6:wc.cell? ⟨b10,6,none⟩=some (.int .i64 i):=hBd.cell 6
         have l0:wc.cell? ⟨w.heap.size,0,none⟩=some (.slice (some ⟨G,0,none⟩) gs.length c):=hLd.cell 0
         clear ho4 hKd hF9 hL9 hB9' hO9' hK9 b9 HS3
         by_cases h7:op=7
         ·subst h7
          have hh:=lV (c:=c) hFd (by omega) name
          have HC:Hid (o2++(ys.take (m+1)).flatMap (snF gs)=o4++calF gs name xs.length i):=by
           have e7:=HS4.out
           rw[if_pos rfl] at e7
           exact e7
          obtain⟨z,hz⟩:∃ z,z=hdN gs name:=⟨_,rfl⟩
          have HZ:Hid (z=hdN gs name):=hz
          rw[← hz] at hh
          clear hz HS4 hS8 hF8 hL8 hO8 hl3
          go_upto_if 104 with (go_at_call 72;refine hh.mono ?_;rintro e wh ⟨rfl,hbh⟩)
          have hOh:=hOd.up hbh
          have hFh:=hFd.up hbh
          have hKh:=hKe.trans (.of hbh)
          have hwh:=hbh.size
          have j5:wh.cell? ⟨b10,5,none⟩=some (.slice ax xs.length cx):=(hBd.up hbh).cell 5
          have j6:wh.cell? ⟨b10,6,none⟩=some (.int .i64 i):=(hBd.up hbh).cell 6
          have j0:wh.cell? ⟨w.heap.size,0,none⟩=some (.slice (some ⟨G,0,none⟩) gs.length c):=(hLd.up hbh).cell 0
          clear hh hOd hFd hKe hBd hLd hbh k0 k1 k5 k6 l0
          by_cases hneg:z<0
          ·obtain⟨v',w',R,hO',hK'⟩:=lT hOh (by omega) (by omega) 32 i
           have e:calF gs name xs.length i=[(32,(i:Int))]:=by unfold calF;rw[← HZ.out,if_pos hneg]
           rw[← e,← HC.out] at hO'
           have HX:Hid (FtW w' w.heap.size v' (o2++(ys.take (m+1)).flatMap (snF gs))∧Kx Sfs w.heap.size Y w'):=⟨hO',hKh.trans (lq hK')⟩
           clear hO' hK' e hOh hFh hKh HC HZ
           go_wp2_with (at_builtin;refine wpList_append_run rfl (.tmp 105) (.tmp 109) 102 rfl rfl _ _ rfl rfl _ _ (show _=_ from R) ?_)
           go_roundw
           case rel=>exact⟨m+1,by omega,by go_num,HX.out⟩
           case measure=>simp[intOf];omega
          ·obtain⟨h,hzh,hlh⟩:=hdN_ge (gs:=gs) (s:=name) (by rw[← HZ.out];exact hneg)
           have ez:z=(h:Int):=by rw[HZ.out,hzh]
           subst ez
           obtain⟨G',vs,eG,_,hv,hxv⟩:=hFh.at h hlh
           cases eG
           obtain⟨ap',cp',es',rfl,_,_⟩:=hxv
           have j1:wh.cell? ⟨G,h*11+1,none⟩=some (.slice ap' (gs.getD h fd).pms.length cp'):=hv 1 _ rfl
           have HCl:Hid (calF gs name xs.length i=if (gs.getD h fd).pms.length≠xs.length then [(33,(i:Int))] else []):=by
            unfold calF
            rw[if_neg (by omega),hzh]
            exact rfl
           obtain⟨pn,hpn⟩:∃ pn,pn=(gs.getD h fd).pms.length:=⟨_,rfl⟩
           rw[← hpn] at j1 HCl
           clear hv hpn hFh hneg hzh HZ
           go_upto_region 26 with fail
           go_cut [121] (fun v wx=>v=.bool ((pn:Int) != (xs.length:Int))∧Below wh.heap.size wh wx)
           case first=>
            go_quiet (fail)
            go_wp2_with fail
            go_meet
            case rel=>exact⟨rfl,⟨rfl,rfl,rfl,Nat.le_refl _,fun _ _=>rfl⟩⟩
           case rest=>
            obtain⟨rfl,hbx⟩:=hcut
            have hOx:=hOh.up hbx
            have hKx:=hKh.trans (.of hbx)
            have hwx:=hbx.size
            have j7:wc.cell? ⟨b10,6,none⟩=some (.int .i64 i):=(World.cell?_of_block (hbx.block b10 (by omega))).trans j6
            clear hOh hKh hbx j0 j1 j5 j6
            by_cases hpx:pn=xs.length
            ·have gx:((pn:Int) != (xs.length:Int))=false:=by simp[hpx]
             have e:o2++(ys.take (m+1)).flatMap (snF gs)=o4:=by rw[HC.out,HCl.out,if_neg (by simp[hpx]),List.append_nil]
             have HX:Hid (FtW wc w.heap.size u3 (o2++(ys.take (m+1)).flatMap (snF gs))∧Kx Sfs w.heap.size Y wc):=⟨by rw[e];exact hOx,hKx⟩
             clear e hpx HC HCl hOx hKx
             go_wp2_with fail
             go_roundw
             case rel=>exact⟨m+1,by omega,by go_num,HX.out⟩
             case measure=>simp[intOf];omega
            ·have gx:((pn:Int) != (xs.length:Int))=true:=by simp;omega
             obtain⟨v',w',R,hO',hK'⟩:=lT hOx (by omega) (by omega) 33 i
             have e:o2++(ys.take (m+1)).flatMap (snF gs)=o4++[(33,(i:Int))]:=by rw[HC.out,HCl.out,if_pos hpx]
             rw[← e] at hO'
             have HX:Hid (FtW w' w.heap.size v' (o2++(ys.take (m+1)).flatMap (snF gs))∧Kx Sfs w.heap.size Y w'):=⟨hO',hKx.trans (lq hK')⟩
             clear e hpx HC HCl hOx hKx hO' hK'
             go_wp2_with (at_builtin;refine wpList_append_run rfl (.tmp 122) (.tmp 126) 102 rfl rfl _ _ rfl rfl _ _ (show _=_ from R) ?_)
             go_roundw
             case rel=>exact⟨m+1,by omega,by go_num,HX.out⟩
             case measure=>simp[intOf];omega
         ·have g7:(op != 7)=true:=by simpa using h7
          have e:o2++(ys.take (m+1)).flatMap (snF gs)=o4:=by rw[HS4.out,if_neg h7,List.append_nil]
          have HX:Hid (FtW wc w.heap.size _ (o2++(ys.take (m+1)).flatMap (snF gs))∧Kx Sfs w.heap.size Y wc):=⟨by rw[e];exact hOd,hKe⟩
          clear e h7 HS4 hOd hKe hBd hFd hLd hS8 hF8 hL8 hO8
          go_wp2_with fail
          go_roundw
          case rel=>exact⟨m+1,by omega,by go_num,HX.out⟩
          case measure=>simp[intOf];omega
       ·have hme:m=ys.length:=by omega
        subst hme
        rw[List.take_length,← HS2.out] at hOm
        have HX:Hid (Kx Sfs w.heap.size W wr):=hKW8.trans hKm
        clear hKm hKW8 hS8 hO8
        go_wp2_with fail
        go_roundw
        case rel=>exact⟨k+1,by omega,by go_num,hOm,HX.out⟩
        case measure=>simp[intOf];omega
  ·have hke:k=gs.length:=by omega
   subst hke
   have HB:Hid (Below w.heap.size w wr):=HB0.out.trans (hKk.below (by omega))
   go_wp2_with fail
   go_ret
   exact⟨⟨_,rfl,hOk⟩,HB.out⟩
end Go.Proofs.YtimoappbefindaaGreat
