/- Texts that the others lean on. -/
import Derived.Test.YtjlaihekocjggaaGreatDoorKQRMem
namespace Go.Proofs.YtjlaihekocjggaaGreatDoor
open Go.RowKit
theorem zay {ops:Array Oper} {o:Oper} {a:Act} {W:World} {K:Act → World → Prop} {Q:Exit → Act → World → Prop} {E:Prop} (s x:Operand) (d:Option Tmp) (t:TypeId)
  (ho:o.op = .call { callee:=.builtin .append,args:=#[s,x],argTypes:=#[t,t] }) (hd:o.dst = d) (hw:Region.wanted o (yielded ops a.tmps) = true)
  (base:Nat) (e:TypeId) (i:TypeInfo) (z:Value) (size bytes:Nat) (ht:Tryz.prog.underlying t = some (.slice e)) (hi:Tryz.prog.info? e = some i) (hz:i.zero = some z)
  (hsize:i.size = size) (hby:i.bytes = bytes) (hzs:z.cells.size = size) (hsz:0 < size)
  (v:Value) (n:Nat) (xs:List Value) (hs:a.eval s = v) (hown:W.ownsRow base e size v n xs)
  (ad:Addr) (m c:Nat) (news:List Value) (hx:a.eval x = .slice (some ad) m c) (hl:news.length = m * size) (hnews:∀ j u,news[j]? = some u → W.cell? (ad.add j) = some u) (h1:∀ u ∈ news,u.oneCell' = true)
  (h63:n + m ≤ maxLen) (hbytes:(n + m) * bytes ≤ 140737488355328) (hbase:base ≤ W.heap.size)
  (h:∀ v' w',w'.ownsRow base e size v' (n + m) (xs ++ news) → W.grownBy w' v.ownBlock → (v'.ownBlock = v.ownBlock ∨ v'.ownBlock = some W.heap.size) → K (a.put d v') w') :
  if Region.wanted o (yielded ops a.tmps) = true then Oper.wp Tryz.prog o a W K Q else E:=by
 subst hd
 rw [if_pos hw]
 obtain ⟨v',w',hr,h2,h3,_,h5⟩:=run_append_own_at (P:=Tryz.prog) W base t o.type e i z size bytes ht hi hz hsize hby hzs hsz v n xs hown ad m c news hl hnews h1 h63 hbytes hbase
 unfold Oper.wp execOp
 simp only [ho,resolve,invoke,builtin,Sem.run_bind,Sem.run_pure,Result.andThen_ok,List.map_toArray,List.map_cons,List.map_nil,hs,hx,hr]
 exact h v' w' h2 h3 h5
theorem zap {w:World} {base size n b:Nat} {e t:TypeId} {v:Value} {cs:List Value} {ds:Array Value} (h:w.ownsRow base e size v n cs) (k:w.heap[b]? = some (.cells ds t)) (hne:e ≠ t):v.ownBlock ≠ some b:=fun hv=>by
 obtain ⟨_,cur,hc⟩:=zeu h b hv
 exact zbf hc k hne rfl
theorem zfx {w:World} {base base' size n size' n':Nat} {e t:TypeId} {v u:Value} {cs ds:List Value} (h:w.ownsRow base e size v n cs) (k:w.ownsRow base' t size' u n' ds) (hne:e ≠ t):∀ x ∈ u.ownBlock.toList,v.ownBlock ≠ some x:=fun x hx=>by
 obtain ⟨_,cur,hc⟩:=zeu k x (by simpa using hx)
 exact zap h hc hne
theorem RsO.own {base:Nat} {P:Nat → Prop} {w:World} {v:Value} {l:List Ru} (h:RsO base P w v l):∃ cs,w.ownsRow base 65 15 v l.length cs:=by
 obtain ⟨rss,h1,_⟩:=h
 exact ⟨_,h1⟩
theorem Rdg.own {base:Nat} {F:Nat → Prop} {w:World} {b:Nat} {c:Cf} {vr vg:Value} {vs:List Value} (h:Rdg base F w b c vr vg vs) {i:Nat} {v:Value} (hv:vs[i]? = some v):∃ n cs,w.ownsRow base 65 15 v n cs:=by
 have hi:i < c.gs.length:=by
  rw [← h.len]
  exact (List.getElem?_eq_some_iff.1 hv).1
 obtain ⟨u,hu,hr⟩:=h.rs i c.gs[i] (List.getElem?_eq_getElem hi)
 rw [hv] at hu
 injection hu with hu
 subst hu
 obtain ⟨cs,hc⟩:=hr.own
 exact ⟨_,cs,hc⟩
theorem Rdg.lt {base:Nat} {F:Nat → Prop} {w:World} {b:Nat} {c:Cf} {vr vg:Value} {vs:List Value} (h:Rdg base F w b c vr vg vs):b < w.heap.size:=zah h.hd
theorem Rdg.addL {base:Nat} {F:Nat → Prop} {w w1 w2:World} {b:Nat} {c:Cf} {vr vg v':Value} {vs:List Value} (h:Rdg base F w b c vr vg vs) (r:Rl)
  (own:w1.ownsRow base 59 6 v' (c.rl.length + 1) (cellsR c.rl ++ [.int .i64 r.act,tx r.frm.name,.int .i64 r.frm.kind,tx r.frm.text,tx r.tgt,tx r.txt])) (hg:w.grownBy w1 vr.ownBlock) (hat:v'.ownBlock = vr.ownBlock ∨ v'.ownBlock = some w.heap.size)
  (q2:w2.heap[b]? = some (.cells #[v',vg] 84)) (o2:Off [b] w1 w2):Rdg base F w2 b ⟨c.rl ++ [r],c.gs⟩ v' vg vs:=by
 have o1:=zas hg
 have hb:=h.lt
 have hv':v'.ownBlock ≠ some b:=by
  rcases hat with e | e
  ·
   rw [e];exact zap h.rl h.hd (by decide)
  rw [e];intro e2;injection e2 with e2;omega
 refine ⟨h.bb,q2,?_,?_,h.len,fun i g hi=>?_,h.ap,fun x hx=>?_⟩
 ·
  have own':w1.ownsRow base 59 6 v' (c.rl ++ [r]).length (cellsR (c.rl ++ [r])):=by
   rw [List.length_append,show cellsR (c.rl ++ [r]) = cellsR c.rl ++ [.int .i64 r.act,tx r.frm.name,.int .i64 r.frm.kind,tx r.frm.text,tx r.tgt,tx r.txt] by simp [cellsR]]
   exact own
  exact zal own' o2 (by simpa using hv')
 ·
  exact zal (zal h.gs o1 (zfx h.gs h.rl (by decide))) o2 (by simpa using zap h.gs h.hd (by decide))
 ·
  obtain ⟨v,hv,hr⟩:=h.rs i g hi
  obtain ⟨cs,ho⟩:=hr.own
  refine ⟨v,hv,(hr.off o1 (fun x hx hF=>(h.fr x hF).2.2.2.1 (by simpa using hx)) (zfx ho h.rl (by decide))).off o2 (fun x hx hF=>?_) ?_⟩
  ·
   have:x = b:=by simpa using hx
   exact (h.fr x hF).2.2.1 this
  simpa using zap ho h.hd (by decide)
 obtain ⟨f1,f2,f3,f4,f5,f6⟩:=h.fr x hx
 have z1:=o1.size
 have z2:=o2.size
 refine ⟨by omega,f2,f3,?_,f5,f6⟩
 rcases hat with e | e
 ·
  rw [e];exact f4
 rw [e];intro e2;injection e2 with e2;omega
theorem Rdg.addG {base:Nat} {F:Nat → Prop} {w w1 w2:World} {b:Nat} {c:Cf} {vr vg v':Value} {vs:List Value} (h:Rdg base F w b c vr vg vs) (n:Str) (y:Int)
  (own:w1.ownsRow base 138 3 v' (c.gs.length + 1) (cellsG c.gs vs ++ [tx n,.int .i64 y,.slice none 0 0])) (hg:w.grownBy w1 vg.ownBlock) (hat:v'.ownBlock = vg.ownBlock ∨ v'.ownBlock = some w.heap.size)
  (q2:w2.heap[b]? = some (.cells #[vr,v'] 84)) (o2:Off [b] w1 w2):Rdg base F w2 b ⟨c.rl,c.gs ++ [(⟨n,y,[]⟩:Gr)]⟩ vr v' (vs ++ [.slice none 0 0]):=by
 have o1:=zas hg
 have hb:=h.lt
 have hv':v'.ownBlock ≠ some b:=by
  rcases hat with e | e
  ·
   rw [e];exact zap h.gs h.hd (by decide)
  rw [e];intro e2;injection e2 with e2;omega
 refine ⟨h.bb,q2,?_,?_,by simp [h.len],fun i g hi=>?_,fun i j v u hij hi hj=>?_,fun x hx=>?_⟩
 ·
  exact zal (zal h.rl o1 (zfx h.rl h.gs (by decide))) o2 (by simpa using zap h.rl h.hd (by decide))
 ·
  have own':w1.ownsRow base 138 3 v' (c.gs ++ [(⟨n,y,[]⟩:Gr)]).length (cellsG (c.gs ++ [(⟨n,y,[]⟩:Gr)]) (vs ++ [.slice none 0 0])):=by
   rw [List.length_append,show cellsG (c.gs ++ [(⟨n,y,[]⟩:Gr)]) (vs ++ [.slice none 0 0]) = cellsG c.gs vs ++ [tx n,.int .i64 y,.slice none 0 0] by unfold cellsG;rw [List.zip_append h.len.symm];simp]
   exact own
  exact zal own' o2 (by simpa using hv')
 ·
  by_cases hl:i < c.gs.length
  ·
   have hi:(c.gs ++ [(⟨n,y,[]⟩:Gr)])[i]? = some g:=hi
   rw [List.getElem?_append_left hl] at hi
   obtain ⟨v,hv,hr⟩:=h.rs i g hi
   obtain ⟨cs,ho⟩:=hr.own
   refine ⟨v,by rw [List.getElem?_append_left (by rw [h.len];exact hl)];exact hv,(hr.off o1 (fun x hx hF=>(h.fr x hF).2.2.2.2.1 (by simpa using hx)) (zfx ho h.gs (by decide))).off o2 (fun x hx hF=>?_) ?_⟩
   ·
    have:x = b:=by simpa using hx
    exact (h.fr x hF).2.2.1 this
   simpa using zap ho h.hd (by decide)
  have hi:(c.gs ++ [(⟨n,y,[]⟩:Gr)])[i]? = some g:=hi
  have e:i = c.gs.length:=by
   have:=(List.getElem?_eq_some_iff.1 hi).1
   simp at this
   omega
  subst e
  simp at hi
  subst hi
  refine ⟨.slice none 0 0,by rw [← h.len];simp,[],⟨rfl,Or.inl ⟨rfl,rfl⟩⟩,rfl,fun k r hk=>by simp at hk⟩
 ·
  by_cases hl:i < vs.length
  ·
   by_cases hm:j < vs.length
   ·
    rw [List.getElem?_append_left hl] at hi
    rw [List.getElem?_append_left hm] at hj
    exact h.ap i j v u hij hi hj
   have e:j = vs.length:=by
    have:=(List.getElem?_eq_some_iff.1 hj).1
    simp at this
    omega
   subst e
   simp at hj
   subst hj
   by_cases hn:v.ownBlock = none
   ·
    exact Or.inl hn
   exact Or.inr (by simpa [Value.ownBlock] using hn)
  have e:i = vs.length:=by
   have:=(List.getElem?_eq_some_iff.1 hi).1
   simp at this
   omega
  subst e
  simp at hi
  subst hi
  exact Or.inl rfl
 obtain ⟨f1,f2,f3,f4,f5,f6⟩:=h.fr x hx
 have z1:=o1.size
 have z2:=o2.size
 refine ⟨by omega,f2,f3,f4,?_,fun v hv=>?_⟩
 ·
  rcases hat with e | e
  ·
   rw [e];exact f5
  rw [e];intro e2;injection e2 with e2;omega
 rcases List.mem_append.1 hv with hv | hv
 ·
  exact f6 v hv
 simp at hv
 subst hv
 simp [Value.ownBlock]
theorem zeb (gs:List Gr) (vs:List Value) (h:vs.length = gs.length) (g:Gr) (u:Value):cellsG (gs ++ [g]) (vs ++ [u]) = cellsG gs vs ++ [tx g.name,.int .i64 g.ev,u]:=by
 unfold cellsG
 rw [List.zip_append h.symm]
 simp
theorem set_last3 (l:List Value) (n:Nat) (h:l.length = n * 3) (a b u v:Value):(l ++ [a,b,u]).set (n * 3 + 2) v = l ++ [a,b,v]:=by
 rw [← h,List.set_append_right _ _ (by omega)]
 simp
theorem Rdg.addR {base:Nat} {F F':Nat → Prop} {w w1 w2:World} {b gb:Nat} {vr vg u v':Value} {vs0:List Value} {gs0:List Gr} {g:Gr} {rl:List Rl} (h:Rdg base F w b ⟨rl,gs0 ++ [g]⟩ vr vg (vs0 ++ [u]))
  (r:Ru) (cs:Array Value) (hr:RuP F' w r cs) (hF:∀ x,F' x → x < w.heap.size ∧ base ≤ x ∧ x ≠ b ∧ vr.ownBlock ≠ some x ∧ vg.ownBlock ≠ some x ∧ ∀ v ∈ vs0 ++ [u],v.ownBlock ≠ some x)
  (rss:List (Array Value)) (hl:rss.length = g.rs.length) (hk:∀ (k:Nat) r,g.rs[k]? = some r → ∃ cs,rss[k]? = some cs ∧ RuP F w r cs) (hu:w.ownsRow base 65 15 u g.rs.length (rss.flatMap (·.toList)))
  (own:w1.ownsRow base 65 15 v' (g.rs.length + 1) (rss.flatMap (·.toList) ++ cs.toList)) (hg:w.grownBy w1 u.ownBlock) (hat:v'.ownBlock = u.ownBlock ∨ v'.ownBlock = some w.heap.size)
  (hgb:vg.ownBlock = some gb) (cur:Array Value) (hcur:w.heap[gb]? = some (.cells cur 138)) (q2:w2.heap[gb]? = some (.cells (cur.setIfInBounds (gs0.length * 3 + 2) v') 138)) (o2:Off [gb] w1 w2) :
  Rdg base (fun x=>F x ∨ F' x) w2 b ⟨rl,gs0 ++ [(⟨g.name,g.ev,g.rs ++ [r]⟩:Gr)]⟩ vr vg (vs0 ++ [v']):=by
 have o1:=zas hg
 have hb:=h.lt
 have hl0:vs0.length = gs0.length:=by have:=h.len;simpa using this
 have hgbl:gb < w.heap.size:=zah hcur
 have hv':v'.ownBlock ≠ some gb:=by
  rcases hat with e | e
  ·
   rw [e];exact zap hu hcur (by decide)
  rw [e];intro e2;injection e2 with e2;omega
 have hub:u.ownBlock ≠ some b:=zap hu h.hd (by decide)
 have hgb':b ≠ gb:=fun e=>by
  subst e
  exact zbf h.hd hcur (by decide) rfl
 have nF:∀ x ∈ u.ownBlock.toList,¬ (F x ∨ F' x):=fun x hx hq=>by
  have hx':u.ownBlock = some x:=by simpa using hx
  rcases hq with hq | hq
  ·
   exact (h.fr x hq).2.2.2.2.2 u (by simp) hx'
  exact (hF x hq).2.2.2.2.2 u (by simp) hx'
 have nG:∀ x ∈ [gb],¬ (F x ∨ F' x):=fun x hx hq=>by
  have hx':x = gb:=by simpa using hx
  subst hx'
  rcases hq with hq | hq
  ·
   exact (h.fr x hq).2.2.2.2.1 hgb
  exact (hF x hq).2.2.2.2.1 hgb
 refine ⟨h.bb,?_,?_,?_,by simp [hl0],fun i g' hi=>?_,fun i j v x hij hi hj=>?_,fun x hx=>?_⟩
 ·
  exact o2.heap (o1.heap h.hd (fun hm=>hub (by simpa using hm))) (by simpa using hgb')
 ·
  refine zal (zal h.rl o1 (zfx h.rl hu (by decide))) o2 (fun x hx=>?_)
  have hx':x = gb:=by simpa using hx
  subst hx'
  exact zap h.rl hcur (by decide)
 ·
  rcases h.gs.2 with ⟨e,h0⟩ | ⟨gg,cap,cur',e,hb0,hc',hn,hm,hs,ht⟩
  ·
   rw [e] at hgb;cases hgb
  have eg:gg = gb:=by rw [e] at hgb;simpa [Value.ownBlock] using hgb
  subst eg
  have ec:cur' = cur:=by
   rw [hcur] at hc'
   injection hc' with hc'
   injection hc' with a1 a2 a3
   exact a1.symm
  subst ec
  have hs3:(gs0 ++ [g]).length * 3 = gs0.length * 3 + 3:=by simp;omega
  have ht:cur'.toList.take ((gs0 ++ [g]).length * 3) = cellsG (gs0 ++ [g]) (vs0 ++ [u]):=ht
  have hn:(gs0 ++ [g]).length ≤ cap:=hn
  refine ⟨?_,Or.inr ⟨gg,cap,cur'.setIfInBounds (gs0.length * 3 + 2) v',by rw [e];simp,hb0,q2,by simpa using hn,hm,by simpa using hs,?_⟩⟩
  ·
   have:=zhl (gs0 ++ [(⟨g.name,g.ev,g.rs ++ [r]⟩:Gr)]) (vs0 ++ [v']) (by simp [hl0])
   exact this
  show (cur'.setIfInBounds (gs0.length * 3 + 2) v').toList.take ((gs0 ++ [(⟨g.name,g.ev,g.rs ++ [r]⟩:Gr)]).length * 3) = _
  rw [zeb _ _ hl0,Array.toList_setIfInBounds,List.take_set,show (gs0 ++ [(⟨g.name,g.ev,g.rs ++ [r]⟩:Gr)]).length = (gs0 ++ [g]).length by simp,ht,zeb _ _ hl0,set_last3 _ _ (zhl _ _ hl0)]
 ·
  have hi:(gs0 ++ [(⟨g.name,g.ev,g.rs ++ [r]⟩:Gr)])[i]? = some g':=hi
  by_cases hlt:i < gs0.length
  ·
   rw [List.getElem?_append_left hlt] at hi
   obtain ⟨v,hv,hro⟩:=h.rs i g' (by show (gs0 ++ [g])[i]? = _;rw [List.getElem?_append_left hlt];exact hi)
   obtain ⟨cs',ho⟩:=hro.own
   have hne:∀ x ∈ u.ownBlock.toList,v.ownBlock ≠ some x:=fun x hx=>by
    have hx':u.ownBlock = some x:=by simpa using hx
    rcases h.ap i gs0.length v u (by omega) hv (by rw [← hl0];simp) with e | e
    ·
     rw [e];simp
    rw [← hx'];exact e
   refine ⟨v,by rw [List.getElem?_append_left (by omega)] at hv ⊢;exact hv,?_⟩
   have hro2:RsO base (fun x=>F x ∨ F' x) w v g'.rs:=by
    obtain ⟨rs',a1,a2,a3⟩:=hro
    refine ⟨rs',a1,a2,fun k r hk=>?_⟩
    obtain ⟨cs,b1,b2⟩:=a3 k r hk
    exact ⟨cs,b1,b2.mono (fun _=>Or.inl)⟩
   refine (hro2.off o1 nF hne).off o2 nG (fun x hx=>?_)
   have hx':x = gb:=by simpa using hx
   subst hx'
   exact zap ho hcur (by decide)
  have e:i = gs0.length:=by
   have:=(List.getElem?_eq_some_iff.1 hi).1
   simp at this
   omega
  subst e
  simp at hi
  subst hi
  refine ⟨v',by rw [← hl0];simp,rss ++ [cs],?_,by simp [hl],fun k r' hk'=>?_⟩
  ·
   have:w1.ownsRow base 65 15 v' (g.rs ++ [r]).length ((rss ++ [cs]).flatMap (·.toList)):=by
    rw [List.length_append,List.flatMap_append]
    simpa using own
   exact zal this o2 (fun x hx=>by have hx':x = gb:=(by simpa using hx);subst hx';exact hv')
  have hk':(g.rs ++ [r])[k]? = some r':=hk'
  by_cases hlk:k < g.rs.length
  ·
   rw [List.getElem?_append_left hlk] at hk'
   obtain ⟨cs',b1,b2⟩:=hk k r' hk'
   refine ⟨cs',by rw [List.getElem?_append_left (by omega)];exact b1,?_⟩
   exact ((b2.mono (fun _=>Or.inl)).off o1 nF).off o2 nG
  have e:k = g.rs.length:=by
   have:=(List.getElem?_eq_some_iff.1 hk').1
   simp at this
   omega
  subst e
  simp at hk'
  subst hk'
  refine ⟨cs,by rw [← hl];simp,?_⟩
  exact ((hr.mono (fun _=>Or.inr)).off o1 nF).off o2 nG
 ·
  have key:∀ (i:Nat) v,(vs0 ++ [v'])[i]? = some v → i < vs0.length ∧ (vs0 ++ [u])[i]? = some v ∨ i = vs0.length ∧ v = v':=fun i v hi=>by
   by_cases hlt:i < vs0.length
   ·
    rw [List.getElem?_append_left hlt] at hi
    exact Or.inl ⟨hlt,by rw [List.getElem?_append_left hlt];exact hi⟩
   have e:i = vs0.length:=by
    have:=(List.getElem?_eq_some_iff.1 hi).1
    simp at this
    omega
   subst e
   simp at hi
   exact Or.inr ⟨rfl,hi.symm⟩
  have hlast:(vs0 ++ [u])[vs0.length]? = some u:=by simp
  have hfresh:∀ (i:Nat) v,(vs0 ++ [u])[i]? = some v → v.ownBlock ≠ some w.heap.size:=fun i v hv e=>by
   obtain ⟨n,cs',ho⟩:=h.own hv
   have:=(zan ho _ e).2
   omega
  rcases key i v hi with ⟨a1,a2⟩ | ⟨a1,a2⟩
  ·
   rcases key j x hj with ⟨b1,b2⟩ | ⟨b1,b2⟩
   ·
    exact h.ap i j v x hij a2 b2
   rcases hat with e | e
   ·
    rw [b2,e]
    exact h.ap i vs0.length v u (by omega) a2 hlast
   rw [b2,e]
   exact Or.inr (hfresh i v a2)
  rcases key j x hj with ⟨b1,b2⟩ | ⟨b1,b2⟩
  ·
   by_cases hn:v'.ownBlock = none
   ·
    exact Or.inl (by rw [a2];exact hn)
   refine Or.inr ?_
   rw [a2]
   rcases hat with e | e
   ·
    rw [e] at hn ⊢
    rcases h.ap vs0.length j u x (by omega) hlast b2 with e2 | e2
    ·
     exact absurd e2 hn
    exact e2
   rw [e]
   exact fun e2=>hfresh j x b2 e2.symm
  omega
 have z1:=o1.size
 have z2:=o2.size
 have all:x < w.heap.size ∧ base ≤ x ∧ x ≠ b ∧ vr.ownBlock ≠ some x ∧ vg.ownBlock ≠ some x ∧ ∀ v ∈ vs0 ++ [u],v.ownBlock ≠ some x:=by
  rcases hx with hx | hx
  ·
   exact h.fr x hx
  exact hF x hx
 obtain ⟨f1,f2,f3,f4,f5,f6⟩:=all
 refine ⟨by omega,f2,f3,f4,f5,fun v hv=>?_⟩
 rcases List.mem_append.1 hv with hv | hv
 ·
  exact f6 v (by simp [hv])
 have:v = v':=by simpa using hv
 rw [this]
 rcases hat with e | e
 ·
  rw [e];exact f6 u (by simp)
 rw [e];intro e2;injection e2 with e2;omega
end Go.Proofs.YtjlaihekocjggaaGreatDoor
