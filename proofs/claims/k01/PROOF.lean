import PyProof.Rows.All
import Wide.All
import OpenK.AllK
import Wide.FinOn
import PyProof.EqAt
import PyProof.EqKinds
import PyProof.TupleCall
import HandS.ForMost
import HandS.Walk
import HandS.Zip
import HandS.IsInst
import HandS.Wide
import HandS.Flow
import HandS.Exc
import KE.KxIndex
import KE.KxText
import PySem.Challenge.RW_hiddenrank_k01_names_and_values
set_option Elab.async false
set_option linter.all false
set_option maxRecDepth 100000
set_option maxHeartbeats 4000000
/-! general words: heaps, a frame rule for calls, data under growing heaps -/
namespace Hr
open PySem PySem.Spec PyProof.Rows L2
/-! ### heaps -/
theorem same_new {H : Hp} {p : Addr} {o : HO} (h : H p = none) : Same H (upd H p o) := fun b u e => by
  rw [upd_ne (ne_of_none e h)]
  exact e
theorem upd_comm {H : Hp} {a b : Addr} {o u : HO} (h : a ≠ b) : upd (upd H a o) b u = upd (upd H b u) a o := by
  funext c
  by_cases e : c = b
  · rw [e, upd_same, upd_ne (Ne.symm h), upd_same]
  · by_cases f : c = a
    · rw [f, upd_ne h, upd_same, upd_same]
    · rw [upd_ne e, upd_ne f, upd_ne f, upd_ne e]
theorem upd_id {H : Hp} {a : Addr} {o : HO} (h : H a = some o) : upd H a o = H := by
  funext c
  by_cases e : c = a
  · rw [e, upd_same, h]
  · rw [upd_ne e]
theorem Same.seqT {K : PySem.W.Frag} {H H' : Hp} {a : Addr} {xs : List V} (e : Same H H') (h : SqT K H a xs) : SqT K H' a xs := by
  rcases h with (h | ⟨o, h⟩) | h
  · exact .inl (.inl (e _ _ h))
  · exact .inl (.inr ⟨o, e _ _ h⟩)
  · exact .inr h
mutual
theorem dp_mono {K : PySem.W.Frag} {H H' : Hp} (e : Same H H') : ∀ {v : V} {d : PyData}, Dp K H v d → Dp K H' v d
  | _, _, .non => .non
  | _, _, .bl b => .bl b
  | _, _, .int i => .int i
  | _, _, .str x => .str x
  | _, _, .lst h t => .lst (e.seq h) (dpa_mono e t)
  | _, _, .tup h t => .tup (Same.seqT e h) (dpa_mono e t)
theorem dpa_mono {K : PySem.W.Frag} {H H' : Hp} (e : Same H H') : ∀ {vs : List V} {ds : List PyData}, DpAll K H vs ds → DpAll K H' vs ds
  | _, _, .nil => .nil
  | _, _, .cons h t => .cons (dp_mono e h) (dpa_mono e t)
end
/-! ### heaps without some lists -/
def dl (H : Hp) (S : List Addr) : Hp := fun a => if a ∈ S then none else H a
theorem dl_at {H : Hp} {S : List Addr} {a : Addr} (h : a ∈ S) : dl H S a = none := by unfold dl; rw [if_pos h]
theorem dl_ne {H : Hp} {S : List Addr} {a : Addr} (h : a ∉ S) : dl H S a = H a := by unfold dl; rw [if_neg h]
theorem dl_nil {H : Hp} : dl H [] = H := by funext a; exact dl_ne (by simp)
theorem dl_some {H : Hp} {S : List Addr} {a : Addr} {o : HO} (h : dl H S a = some o) : a ∉ S ∧ H a = some o := by
  by_cases e : a ∈ S
  · rw [dl_at e] at h; cases h
  · rw [dl_ne e] at h; exact ⟨e, h⟩
theorem dl_le {H : Hp} {S : List Addr} : Same (dl H S) H := fun a o e => (dl_some e).2
theorem dl_sub {H : Hp} {S S' : List Addr} (h : ∀ a ∈ S, a ∈ S') : Same (dl H S') (dl H S) := fun a o e => by
  obtain ⟨h1, h2⟩ := dl_some e
  rw [dl_ne fun z => h1 (h a z)]
  exact h2
theorem dl_mono {H H' : Hp} {S : List Addr} (s : Same H H') : Same (dl H S) (dl H' S) := fun a o e => by
  obtain ⟨h1, h2⟩ := dl_some e
  rw [dl_ne h1]
  exact s a o h2
theorem dl_upd {H : Hp} {S : List Addr} {a : Addr} {o : HO} (h : a ∈ S) : dl (upd H a o) S = dl H S := by
  funext c
  by_cases e : c ∈ S
  · rw [dl_at e, dl_at e]
  · rw [dl_ne e, dl_ne e, upd_ne fun z => e (by rw [z]; exact h)]
theorem dl_new {H : Hp} {S : List Addr} {p : Addr} {o : HO} (h : p ∉ S) : dl (upd H p o) S = upd (dl H S) p o := by
  funext c
  by_cases e : c ∈ S
  · rw [dl_at e, upd_ne fun z => h (by rw [← z]; exact e), dl_at e]
  · rw [dl_ne e]
    by_cases f : c = p
    · rw [f, upd_same, upd_same]
    · rw [upd_ne f, upd_ne f, dl_ne e]
/-- H' with what H has at S -/
def bk (H' H : Hp) (S : List Addr) : Hp := fun a => if a ∈ S then H a else H' a
theorem bk_at {H' H : Hp} {S : List Addr} {a : Addr} (h : a ∈ S) : bk H' H S a = H a := by unfold bk; rw [if_pos h]
theorem bk_ne {H' H : Hp} {S : List Addr} {a : Addr} (h : a ∉ S) : bk H' H S a = H' a := by unfold bk; rw [if_neg h]
theorem dl_bk {H' H : Hp} {S : List Addr} (h : ∀ a ∈ S, H' a = none) : dl (bk H' H S) S = H' := by
  funext c
  by_cases e : c ∈ S
  · rw [dl_at e, h c e]
  · rw [dl_ne e, bk_ne e]
theorem same_bk {H' H : Hp} {S : List Addr} (s : Same (dl H S) H') : Same H (bk H' H S) := fun a o e => by
  by_cases z : a ∈ S
  · rw [bk_at z]; exact e
  · rw [bk_ne z]; exact s a o (by rw [dl_ne z]; exact e)
theorem bk_le {H' H : Hp} {S : List Addr} (h : ∀ a ∈ S, H' a = none) : Same H' (bk H' H S) := fun a o e => by
  by_cases z : a ∈ S
  · rw [h a z] at e; cases e
  · rw [bk_ne z]; exact e
/-! ### the frame rule: tracked lists that the callee is not told of stay as they are -/
def Lists (H : Hp) (S : List Addr) : Prop := ∀ a ∈ S, ∃ xs, H a = some (.lst xs)
theorem Lists.ne {H : Hp} {S : List Addr} (hb : Lists H S) {a : Addr} {o : HO} (h : H a = some o) (d : ∀ xs, o ≠ .lst xs) : a ∉ S := fun z => by
  obtain ⟨xs, e⟩ := hb a z
  rw [h] at e
  exact d xs (Option.some.inj e)
theorem hok_dl {P : Program} {w : World} {H : Hp} {h : Heap} {S : List Addr} (ok : HOk P w H h) (hb : Lists H S) : HOk P w (dl H S) h := fun a o e => by
  refine (ok a o (dl_le _ _ e)).stay (fun _ _ _ q => q) (fun c q => ?_) fun c ys q => ?_
  · rw [dl_ne (hb.ne q fun _ z => by cases z)]; exact q
  · rw [dl_ne (hb.ne q fun _ z => by cases z)]; exact q
theorem env_dl {P : Program} {w : World} {K : PySem.W.Frag} {mg : Str → Option Value} {base : Heap} {A : Around} {outer : List Env} {s : Shared} {H : Hp} {S : List Addr} (E0 : Env0 P w K mg base A outer s H) (hb : Lists H S) :
    Env0 P w K mg base A outer s (dl H S) :=
  ⟨E0.frames, E0.mod, fun c o e => ⟨(E0.bs c o e).1, by
      by_cases z : c ∈ S
      · rw [dl_at z]
      · rw [dl_ne z]; exact (E0.bs c o e).2⟩, E0.bsz, E0.funs, fun c hc => by
      by_cases z : c ∈ S
      · rw [dl_at z]
      · rw [dl_ne z]; exact E0.frf c hc, hok_dl E0.hok hb, E0.bare⟩
/-- the promise with some tracked lists kept aside -/
def framed (sp : Sp) : Sp := fun vs H Q E => ∃ S : List Addr, Lists H S ∧ sp vs (dl H S) (fun v H' => (∀ a ∈ S, H' a = none) → Q v (bk H' H S)) fun c d H' => (∀ a ∈ S, H' a = none) → E c d (bk H' H S)
theorem un_bk {fs : List Addr} {H H' : Hp} {h h' : Heap} {S : List Addr} (u : Un fs [] (dl H S) H' h h') (hb : Lists H S) (ex : ∀ a ∈ S, ∃ o, h.get? a = some o) : (∀ a ∈ S, H' a = none) ∧ Un fs [] H (bk H' H S) h h' := by
  have fr : ∀ a ∈ S, H' a = none := fun a ha => by
    obtain ⟨o, ho⟩ := ex a ha
    exact u.free a o ho (dl_at ha) (by simp)
  have hid : ∀ c, H c = none → dl H S c = none := fun c n => by
    by_cases z : c ∈ S
    · rw [dl_at z]
    · rw [dl_ne z]; exact n
  refine ⟨fr, ⟨fun c q e n hc hx => u.keep c q e (hid c n) hc hx, fun c q e n hc hx => u.slot c q e (hid c n) hc hx, fun c q e n hx => ?_, u.there, fun c ys e => ?_, fun c q v e => ?_, fun c ps e => ?_⟩⟩
  · have z : c ∉ S := fun z => by
      obtain ⟨xs, k⟩ := hb c z
      rw [n] at k; cases k
    rw [bk_ne z]
    exact u.free c q e (hid c n) hx
  · have z := hb.ne e fun _ z => by cases z
    rw [bk_ne z]
    exact u.tups c ys (by rw [dl_ne z]; exact e)
  · have z := hb.ne e fun _ z => by cases z
    rw [bk_ne z]
    exact u.frzs c q v (by rw [dl_ne z]; exact e)
  · have z := hb.ne e fun _ z => by cases z
    rw [bk_ne z]
    exact u.tbls c ps (by rw [dl_ne z]; exact e)
theorem hok_bk {P : Program} {w : World} {H H' : Hp} {h' : Heap} {S : List Addr} (ok : HOk P w H' h') (fr : ∀ a ∈ S, H' a = none) (nb : ∀ a ∈ S, ∀ o, H a = some o → ObjOk P w (bk H' H S) h' a o) : HOk P w (bk H' H S) h' := fun a o e => by
  by_cases z : a ∈ S
  · rw [bk_at z] at e
    exact nb a z o e
  · rw [bk_ne z] at e
    refine (ok a o e).stay (fun _ _ _ q => q) (fun c q => ?_) fun c ys q => ?_
    · rw [bk_ne fun k => by rw [fr c k] at q; cases q]; exact q
    · rw [bk_ne fun k => by rw [fr c k] at q; cases q]; exact q
theorem frame_end {P : Program} {w : World} {K : PySem.W.Frag} {mg : Str → Option Value} {base : Heap} {A : Around} {outer : List Env} {s : Shared} {H H' : Hp} {S : List Addr} {h' : Heap} (e0 : Env0 P w K mg base A outer s H) (hb : Lists H S) (un : Un (frs outer) [] (dl H S) H' s.heap h') (hk : HOk P w H' h') :
    (∀ a ∈ S, H' a = none) ∧ Un (frs outer) [] H (bk H' H S) s.heap h' ∧ HOk P w (bk H' H S) h' := by
  have nf : ∀ a ∈ S, a ∉ frs outer := fun a ha z => by
    have := e0.frf a z
    obtain ⟨xs, k⟩ := hb a ha
    rw [k] at this; cases this
  obtain ⟨fr, un'⟩ := un_bk un hb fun a ha => by
    obtain ⟨xs, k⟩ := hb a ha
    obtain ⟨_, its, n, _, ob⟩ := (show ObjOk P w H s.heap a (.lst xs) from e0.hok a _ k)
    exact ⟨_, ob⟩
  refine ⟨fr, un', hok_bk hk fr fun a ha o e => ?_⟩
  obtain ⟨xs, k⟩ := hb a ha
  rw [k] at e
  cases e
  obtain ⟨zl, its, n, rv, ob⟩ := (show ObjOk P w H s.heap a (.lst xs) from e0.hok a _ k)
  exact ⟨zl, its, n, rv, un.keep a _ ob (dl_at ha) (nf a ha) (by simp)⟩
theorem FnOk.frame {P : Program} {w : World} {K : PySem.W.Frag} {mg : Str → Option Value} {base : Heap} {k : Nat} {f : Addr} {fd : FuncData} {ps : List Str} {sp : Sp} (F : FnOk P w K mg base CX0 k f fd ps sp) : FnOk P w K mg base CX0 k f fd ps (framed sp) := by
  refine ⟨fun vs H Q E ⟨S, _, h⟩ => F.len _ _ _ _ h, fun A outer s H args us vs Q E hr e0 bd vl h => ?_⟩
  obtain ⟨S, hb, h⟩ := h
  have r := F.run A outer s (dl H S) args us vs _ _ hr (env_dl e0 hb) bd vl h
  refine PySem.codeAny_mono r fun R s' q => ?_
  unfold CR at q ⊢
  split at q
  · obtain ⟨v, H', os, ag, un, hk, rl, qq⟩ := q
    obtain ⟨fr, un', hk'⟩ := frame_end e0 hb un hk
    exact ⟨v, _, os, ag, un', hk', rl, qq fr⟩
  · exact q
  · exact q.elim
end Hr

set_option Elab.async false
set_option linter.all false
set_option maxRecDepth 100000
set_option maxHeartbeats 4000000
namespace Hr
open PySem PySem.Spec PyProof.Rows L2
/-! ### a module's constant, a call by keywords alone, a text repeated -/
def Gv (mg : Str → Option Value) (x : Str) (v : V) : Prop := ∃ u, mg x = some u ∧ RelV v u
theorem pe_gv {X : Cx} {x : Str} {pos : Pos} {v : V} (hg : Gl X x) (h : Gv X.mg x v) (hd : (x == ("__debug__" : Str)) = false := by decide) : PE X (.Name x pos) (tC v) := by
  obtain ⟨u, hm, r⟩ := h
  exact pe_glob hg hm r hd
/-- all parameters by their names, in their order -/
structure KwB (fd : FuncData) (ps ks : List Str) : Prop where
  to : ∀ (s : Shared) (us : List Value), us.length = ps.length → BindsTo s fd ⟨[], ks.zip us⟩ (ps.zip us)
def tKw (sp : Sp) (E : XK) (tk : TA) : TE := fun σ H Q => tk σ H fun vs H1 => sp vs H1 Q E
section
variable {X : Cx} {CX : CXT} {k : Nat} {f : Addr} {fd : FuncData} {ps ks : List Str} {sp : Sp} {E : XK} {x : Str} {p pos : Pos} {kws : List Keyword} {tk : TA}
theorem pe_kw (F : FnOk X.prog X.w X.K X.mg X.base CX k f fd ps sp) (hr : Room k X.A) (hg : Gl X x) (hm : X.mg x = some (.ref f)) (hk : PySem.W.keepIn X.K (.ref f) = true) (hb : KwB fd ps ks) (hx : Passes CX X E) (hkw : PK X kws tk)
    (hall : (backToKw pos (keywordEach kws X.env)).all (·.1.isSome) = true := by rfl) (hks : (backToKw pos (keywordEach kws X.env)).filterMap (·.1) = ks := by rfl) (hdb : (x == ("__debug__" : Str)) = false := by decide)
    (hpl : ((backTo pos (starEach [] X.env)).any (·.1) || (backToKw pos (keywordEach kws X.env)).any (·.1.isNone)) = false := by rfl) :
    PE X (.Call (.Name x p) [] kws pos) (tKw sp E tk) := by
  refine ⟨fun pins s σ H Q I h => ?_⟩
  refine wpAny_Call_Name_kw (ld_glob I hg hm ?_ hdb)
  refine PySem.W.callWith_KW0 (h₀ := X.base) I.ok.mod.kin hk hall ?_ hpl
  refine thn (hkw.run pos pins s σ H _ I h) fun us s1 ⟨vs, H1, I1, r, q⟩ => ⟨I1.kIn, ?_⟩
  rw [hks]
  have hl : us.length = ps.length := by rw [← r.length]; exact F.len _ _ _ _ q
  refine wpAny_call (codeAny_mono (F.run X.A X.stack s1 H1 ⟨[], ks.zip us⟩ us vs Q E hr I1.env0 (hb.to s1 us hl) r q) fun r s' hq => ?_)
  cases r with
  | error e => exact hx pins σ H1 s1 e s' I1 hq
  | ok fl =>
    cases fl with
    | ret u => exact I1.after hq
    | next => exact False.elim hq
    | brk => exact False.elim hq
    | cont => exact False.elim hq
def rRepS : R2 := fun x y H Q => ∃ z i, x = .str z ∧ y = .int i ∧ z.length ≤ 16 ∧ 0 ≤ i ∧ i ≤ 1048576 ∧ Q (.str (Txt.mul z i)) H
theorem op_repS : OpR X (binaryOp .Mult) rRepS := by
  intro pins s σ H x y v u Q I rx ry h
  obtain ⟨z, i, rfl, rfl, hz, h0, h1, q⟩ := h
  obtain ⟨t, rfl⟩ := rx
  obtain ⟨t', rfl⟩ := ry
  exact PySem.W.KXi.mul rfl hz (by omega) (by omega) fun t2 k _ _ => ⟨.str (Txt.mul z i), H, I.tok _, ⟨_, rfl⟩, q⟩
end
theorem kb_of {K : PySem.W.Frag} {x qual : Str} {st : Stmt} {f : Addr} {fd : FuncData} {ps ks : List Str} (F : Fun K x qual st f fd)
    (h : ∀ (kV doc pm : Value) (an : Option Addr) (cdv ct : Value) (us : List Value), us.length = ps.length → bindArgs (PySem.W.fnOf x qual (defArgs st) (defBody st) (defScope st) .none kV doc pm an cdv ct) ⟨[], ks.zip us⟩ = pure (ps.zip us)) : KwB fd ps ks := by
  obtain ⟨oc, od, kV, doc, pm, an, cdv, ct, osl, rfl, lk, hcd⟩ := F.ex
  exact ⟨fun s us hl => .of_eq (h kV doc pm an cdv ct us hl)⟩
/-! ### the bag that a script is drawn from: at b, its ints at l -/
def Bag (H : Hp) (b l : Addr) : Prop := ∃ (ns : List Int) (i g s : Int), H b = some (.lst [.ref l, .int i, .int g, .int s]) ∧ H l = some (.lst (ns.map V.int)) ∧ ns.length ≤ 63 ∧ 0 ≤ i ∧ 0 ≤ g ∧ 0 ≤ s ∧ s < 2147483647
theorem Bag.tracked {H : Hp} {b l : Addr} (h : Bag H b l) : ∃ xs, H b = some (.lst xs) := by
  obtain ⟨ns, i, g, s, h, _⟩ := h
  exact ⟨_, h⟩
theorem Bag.ne {H : Hp} {b l : Addr} (h : Bag H b l) : l ≠ b := by
  obtain ⟨ns, i, g, s, h1, h2, _⟩ := h
  refine ne_of h2 h1 fun e => ?_
  cases ns with
  | nil => cases e
  | cons n r => cases (List.cons.inj (HO.lst.inj e)).1
theorem Bag.ne_new {H : Hp} {b l p : Addr} (h : Bag H b l) (hp : H p = none) : p ≠ b := by
  obtain ⟨xs, e⟩ := h.tracked
  exact (ne_of_none e hp).symm
theorem Bag.ne_newl {H : Hp} {b l p : Addr} (h : Bag H b l) (hp : H p = none) : p ≠ l := by
  obtain ⟨ns, i, g, s, h1, h2, _⟩ := h
  exact (ne_of_none h2 hp).symm
theorem Bag.of {H H' : Hp} {b l : Addr} (h : Bag H b l) (h1 : H' b = H b) (h2 : H' l = H l) : Bag H' b l := by
  obtain ⟨ns, i, g, t, hb, hl, r⟩ := h
  exact ⟨ns, i, g, t, by rw [h1]; exact hb, by rw [h2]; exact hl, r⟩
/-- a step: all but the bag is kept, the bag is a bag -/
structure Bx (b l : Addr) (H H' : Hp) : Prop where
  bag : Bag H' b l
  keep : ∀ a o, a ≠ b → H a = some o → H' a = some o
theorem Bx.refl {b l : Addr} {H : Hp} (h : Bag H b l) : Bx b l H H := ⟨h, fun _ _ _ e => e⟩
theorem Bx.trans {b l : Addr} {H H1 H2 : Hp} (x : Bx b l H H1) (y : Bx b l H1 H2) : Bx b l H H2 := ⟨y.bag, fun a o n e => y.keep a o n (x.keep a o n e)⟩
theorem Bx.new {b l p : Addr} {H : Hp} {o : HO} (h : Bag H b l) (hp : H p = none) : Bx b l H (upd H p o) :=
  ⟨h.of (upd_ne (h.ne_new hp).symm) (upd_ne (h.ne_newl hp).symm), fun a u _ e => by rw [upd_ne (ne_of_none e hp)]; exact e⟩
theorem Bx.bagstep {b l : Addr} {H : Hp} {xs : List V} (h : Bag (upd H b (.lst xs)) b l) : Bx b l H (upd H b (.lst xs)) := ⟨h, fun a o n e => by rw [upd_ne n]; exact e⟩
theorem Bx.same {b l : Addr} {H H' : Hp} {S : List Addr} (x : Bx b l H H') (hb : b ∈ S) : Same (dl H S) (dl H' S) := fun a o e => by
  obtain ⟨h1, h2⟩ := dl_some e
  rw [dl_ne h1]
  exact x.keep a o (fun z => h1 (by rw [z]; exact hb)) h2
theorem Bx.free {b l p : Addr} {H H' : Hp} (x : Bx b l H H') (h : H' p = none) : H p = none := by
  cases q : H p with
  | none => rfl
  | some o =>
    rw [x.keep p o (x.bag.ne_new h) q] at h
    cases h
/-- behind a framed call -/
theorem Bx.back {b l : Addr} {H H' : Hp} {S : List Addr} (h : Bag H b l) (hb : b ∈ S) (s : Same (dl H S) H') : Bx b l H (bk H' H S) := by
  have sm := same_bk (H := H) s
  obtain ⟨ns, i, g, t, h1, h2, r⟩ := h
  exact ⟨⟨ns, i, g, t, sm _ _ h1, sm _ _ h2, r⟩, fun a o _ e => sm a o e⟩
theorem Bag.lists {H : Hp} {b l : Addr} (h : Bag H b l) : Lists H [b] := fun a ha => by
  rw [List.mem_singleton.mp ha]
  exact h.tracked
def sp_bag (K : PySem.W.Frag) : Sp := fun vs H Q _ => ∃ (a : Addr) (ns : List Int), vs = [.ref a] ∧ SqL K H a (ns.map V.int) ∧ ns.length ≤ 63 ∧ ∀ b l H', Bag H' b l → H b = none → Same H H' → Q (.ref b) H'
def sp_pull : Sp := fun vs H Q _ => ∃ (b l : Addr) (n : Int), vs = [.ref b, .int n] ∧ Bag H b l ∧ 1 ≤ n ∧ n < 1073741824 ∧ ∀ (d : Int) (H' : Hp), 0 ≤ d → d < n → Bx b l H H' → Q (.int d) H'
/-- _law_of(bag, text) -/
def sp_ofS : Sp := fun vs H Q _ => ∃ (b l : Addr) (z : Str), vs = [.ref b, .str z] ∧ Bag H b l ∧ 1 ≤ z.length ∧ z.length ≤ 100000 ∧ ∀ (c : Nat) (H' : Hp), c ∈ z.cps.toList → Bx b l H H' → Q (.str ⟨#[c]⟩) H'
/-- _law_of(bag, list or tuple) -/
def sp_ofL (K : PySem.W.Frag) : Sp := fun vs H Q _ => ∃ (b l a : Addr) (xs : List V), vs = [.ref b, .ref a] ∧ a ≠ b ∧ Bag H b l ∧ (SqL K H a xs ∨ SqT K H a xs) ∧ 1 ≤ xs.length ∧ xs.length ≤ 100000 ∧ ∀ (x : V) (H' : Hp), x ∈ xs → Bx b l H H' → Q x H'
/-! ### data of one depth -/
mutual
def deep : Nat → PyData → Bool
  | 0, _ => false
  | n + 1, .list ds => decide (ds.length < 50000) && deepAll n ds
  | n + 1, .tuple ds => decide (ds.length < 50000) && deepAll n ds
  | _ + 1, .dict _ => false
  | _ + 1, _ => true
def deepAll : Nat → List PyData → Bool
  | _, [] => true
  | n, d :: ds => deep n d && deepAll n ds
end
theorem deep_list {n : Nat} {ds : List PyData} (h : deep (n + 1) (.list ds) = true) : ds.length < 50000 ∧ deepAll n ds = true := by
  unfold deep at h
  have := Bool.and_eq_true_iff.mp h
  exact ⟨of_decide_eq_true this.1, this.2⟩
theorem deep_tuple {n : Nat} {ds : List PyData} (h : deep (n + 1) (.tuple ds) = true) : ds.length < 50000 ∧ deepAll n ds = true := by
  unfold deep at h
  have := Bool.and_eq_true_iff.mp h
  exact ⟨of_decide_eq_true this.1, this.2⟩
theorem deep_zero {d : PyData} : deep 0 d = false := by unfold deep; rfl
theorem deep_cases (d : PyData) : (∃ ds, d = .list ds) ∨ (∃ ds, d = .tuple ds) ∨ (∃ ds, d = .dict ds) ∨ d = .none ∨ (∃ b, d = .bool b) ∨ (∃ i, d = .int i) ∨ (∃ x, d = .str x) := by
  cases d <;> simp
/-! ### isinstance of data -/
def tyN : PyData → String
  | .none => "NoneType"
  | .bool _ => "bool"
  | .int _ => "int"
  | .str _ => "str"
  | .list _ => "list"
  | .tuple _ => "tuple"
  | .dict _ => "dict"
theorem ty_of {K : PySem.W.Frag} {H : Hp} {x : V} {d : PyData} (h : Dp K H x d) : TyX K H x (.type (tyN d)) := by
  cases h with
  | non => exact .base .non
  | bl b => exact .base (.bl b)
  | int i => exact .base (.int i)
  | str x => exact .base (.str x)
  | lst h t =>
    rcases h with (h | ⟨o, h⟩) | ⟨o, its, n, h1, h2, _⟩
    · exact .base (.lst h)
    · exact .base (.frz h)
    · exact .kList h1 h2
  | tup h t =>
    rcases h with (h | ⟨o, h⟩) | ⟨o, its, n, h1, h2, _⟩
    · exact .base (.tup h)
    · exact .fTuple h
    · exact .kTuple h1 h2
theorem isi {K : PySem.W.Frag} {H : Hp} {x : V} {d : PyData} {n : String} {r : Bool} {Q : VK} (h : Dp K H x d) (e : kitB (tyN d) n = some r) (q : Q (.bl r) H) : rIsi K [x, .ty n] H Q := ⟨x, .ty n, _, _, r, rfl, .ty n, ty_of h, kit_ty e, q⟩
theorem kit_NoneType_bool : kitB "NoneType" "bool" = some false := by decide +kernel
theorem kit_NoneType_int : kitB "NoneType" "int" = some false := by decide +kernel
theorem kit_NoneType_str : kitB "NoneType" "str" = some false := by decide +kernel
theorem kit_NoneType_list : kitB "NoneType" "list" = some false := by decide +kernel
theorem kit_NoneType_tuple : kitB "NoneType" "tuple" = some false := by decide +kernel
theorem kit_bool_bool : kitB "bool" "bool" = some true := by decide +kernel
theorem kit_bool_int : kitB "bool" "int" = some true := by decide +kernel
theorem kit_bool_str : kitB "bool" "str" = some false := by decide +kernel
theorem kit_bool_list : kitB "bool" "list" = some false := by decide +kernel
theorem kit_bool_tuple : kitB "bool" "tuple" = some false := by decide +kernel
theorem kit_int_bool : kitB "int" "bool" = some false := by decide +kernel
theorem kit_int_int : kitB "int" "int" = some true := by decide +kernel
theorem kit_int_str : kitB "int" "str" = some false := by decide +kernel
theorem kit_int_list : kitB "int" "list" = some false := by decide +kernel
theorem kit_int_tuple : kitB "int" "tuple" = some false := by decide +kernel
theorem kit_str_bool : kitB "str" "bool" = some false := by decide +kernel
theorem kit_str_int : kitB "str" "int" = some false := by decide +kernel
theorem kit_str_str : kitB "str" "str" = some true := by decide +kernel
theorem kit_str_list : kitB "str" "list" = some false := by decide +kernel
theorem kit_str_tuple : kitB "str" "tuple" = some false := by decide +kernel
theorem kit_list_bool : kitB "list" "bool" = some false := by decide +kernel
theorem kit_list_int : kitB "list" "int" = some false := by decide +kernel
theorem kit_list_str : kitB "list" "str" = some false := by decide +kernel
theorem kit_list_list : kitB "list" "list" = some true := by decide +kernel
theorem kit_list_tuple : kitB "list" "tuple" = some false := by decide +kernel
theorem kit_tuple_bool : kitB "tuple" "bool" = some false := by decide +kernel
theorem kit_tuple_int : kitB "tuple" "int" = some false := by decide +kernel
theorem kit_tuple_str : kitB "tuple" "str" = some false := by decide +kernel
theorem kit_tuple_list : kitB "tuple" "list" = some false := by decide +kernel
theorem kit_tuple_tuple : kitB "tuple" "tuple" = some true := by decide +kernel
theorem ifT {c : Prop} [Decidable c] {A B : Prop} (hc : c) (h : A) : if decide c = true then A else B := by
  rw [decide_eq_true hc, if_pos rfl]
  exact h
theorem ifF {c : Prop} [Decidable c] {A B : Prop} (hc : ¬ c) (h : B) : if decide c = true then A else B := by
  rw [decide_eq_false hc, if_neg Bool.false_ne_true]
  exact h
theorem dpa_len {K : PySem.W.Frag} {H : Hp} : ∀ {vs : List V} {ds : List PyData}, DpAll K H vs ds → vs.length = ds.length
  | _, _, .nil => rfl
  | _, _, .cons _ t => by rw [List.length_cons, List.length_cons, dpa_len t]
theorem dpa_get {K : PySem.W.Frag} {H : Hp} : ∀ {vs : List V} {ds : List PyData} {i : Nat} {v : V}, DpAll K H vs ds → vs[i]? = some v → ∃ d, ds[i]? = some d ∧ Dp K H v d
  | _, _, _, _, .nil, e => by simp at e
  | _, _, 0, _, .cons h _, e => by
    simp at e
    subst e
    exact ⟨_, rfl, h⟩
  | _, _, i + 1, v, .cons _ t, e => by
    obtain ⟨d, h1, h2⟩ := dpa_get (i := i) (v := v) t (by simpa using e)
    exact ⟨d, by simpa using h1, h2⟩
theorem deep_get : ∀ {n : Nat} {ds : List PyData} {i : Nat} {d : PyData}, deepAll n ds = true → ds[i]? = some d → deep n d = true
  | _, [], _, _, _, e => by simp at e
  | n, a :: r, 0, d, h, e => by
    simp at e
    subst e
    unfold deepAll at h
    exact (Bool.and_eq_true_iff.mp h).1
  | n, a :: r, i + 1, d, h, e => by
    unfold deepAll at h
    exact deep_get (i := i) (Bool.and_eq_true_iff.mp h).2 (by simpa using e)
theorem walk_zipT {K : PySem.W.Frag} {a b : Addr} {xs ys : List V} {n : Nat} (hx : xs.length = n) (hy : ys.length = n) : Walk (RZ.ItzT K a b) n (fun H => SqT K H a xs ∧ SqT K H b ys) (YPair (fun i => xs[i]?) (fun i => ys[i]?)) := by
  refine ⟨fun i _ hi q => ?_, fun _ q => ⟨xs, ys, q.1, q.2, by omega⟩, fun i H v H' _ q y => ?_⟩
  · have h1 : i < xs.length := by omega
    have h2 : i < ys.length := by omega
    exact ⟨xs, ys, xs[i], ys[i], q.1, q.2, by simp [h1], by simp [h2]⟩
  · obtain ⟨T, x, z, h1, h2, h3, h4, h5⟩ := y
    exact ⟨T, x, z, h1, h2, h3, h4 xs q.1, h5 ys q.2⟩
theorem all_true {n : Nat} : (((List.range n).map fun _ => V.bl true) = ((List.replicate n true).map V.bl)) ∧ (List.replicate n true).all id = true := by
  constructor
  · rw [List.map_const', List.map_replicate, List.length_range]
  · simp
/-- _law_same(x, y), x and y the same data: True -/
def sp_same (K : PySem.W.Frag) (n : Nat) : Sp := fun vs H Q _ => ∃ (x y : V) (d : PyData), vs = [x, y] ∧ Dp K H x d ∧ Dp K H y d ∧ deep n d = true ∧ ∀ H', Same H H' → Q (.bl true) H'
def sp_law (K : PySem.W.Frag) : Sp := fun vs H Q _ => ∃ (a : Addr) (ns : List Int), vs = [.ref a] ∧ SqL K H a (ns.map V.int) ∧ ns.length ≤ 63 ∧ ∀ H', Q (.bl true) H'
end Hr
namespace Hr
open PySem PySem.Spec PyProof.Rows L2
theorem yes {te : TE} {σ : L2.St} {H : Hp} {Qe : VK} {Z : Hp → Prop} (h : te σ H Qe) : tYes σ H (fun b H3 => if b = true then te σ H3 Qe else Z H3) := by
  show (if true = true then te σ H Qe else Z H)
  rw [if_pos rfl]
  exact h
theorem szl {n : Nat} (h : n ≤ 100000) : n ≤ sizeLine := Nat.le_trans h (by decide)
theorem szt {n : Nat} (h : n < 100000) : n < sizeLine := Nat.lt_of_lt_of_le h (by decide)
/-! ### comprehensions: what is made by the elements is told of the heap without the list that grows (and without S) -/
theorem lc_bag {J : It} {n : Nat} {G : Hp → Prop} {Y : Nat → Hp → V → Hp → Prop} (w : Walk J n G Y) {g : TG} {tt : TT} {te : TE} {vs : List Nat} {σ : L2.St} {H1 : Hp} {D b l : Addr} {Qd : Hp → Prop} (S : List Addr) (hS : b ∈ S) (hb : Bag H1 b l) (hD : H1 D = none) (P : V → Hp → Prop) (hP : ∀ y H H', Same H H' → P y H → P y H') (hG : ∀ H, Bx b l H1 H → G H) (hn : n < 100000)
    (hs : ∀ i x H H' (Qe : V → Hp → Prop) (Z : Hp → Prop), i < n → Bx b l H1 H → Same (dl H1 S) (dl H (D :: S)) → (∃ xs, H D = some (.lst xs)) → (∀ y H4, Bx b l H H4 → P y (dl H4 (D :: S)) → Qe y H4) → Y i H x H' → g x (wipe σ vs) H' fun σ2 H2 => wipe σ2 vs = wipe σ vs ∧ tt σ2 H2 fun bb H3 => if bb = true then te σ2 H3 Qe else Z H3)
    (hd : ∀ H ys, Bx b l H1 H → ys.length = n → H D = some (.lst ys) → (∀ y ∈ ys, P y (dl H (D :: S))) → Qd H) :
    ∃ W : Nat → Nat → Hp → Prop, (∃ m, W 0 m (upd H1 D (.lst []))) ∧ ∀ i m H, W i m H →
      (J.stop i H ∧ Qd H) ∨ (J.go i H ∧ ∃ Nx : Hp → Prop, (∀ H', Nx H' → ∃ m', m' < m ∧ W (i + 1) m' H') ∧ ∀ x H', J.yld i H x H' → g x (wipe σ vs) H' fun σ2 H2 => wipe σ2 vs = wipe σ vs ∧ tt σ2 H2 fun b H3 =>
        if b = true then te σ2 H3 fun y H4 => ∃ acc, H4 D = some (.lst acc) ∧ acc.length < sizeLine ∧ Nx (upd H4 D (.lst (acc ++ [y]))) else Nx H3) := by
  have nD : D ≠ b := hb.ne_new hD
  have nL : D ≠ l := hb.ne_newl hD
  refine lc_it w (fun i H => Bx b l H1 H ∧ ∃ ys, H D = some (.lst ys) ∧ ys.length = i ∧ ∀ y ∈ ys, P y (dl H (D :: S))) ⟨Bx.new hb hD, [], upd_same, rfl, fun _ h => nomatch h⟩ (fun i H _ h => hG H h.1) ?_ ?_
  · rintro i x H H' hi ⟨bx, ys, hy, hl, hp⟩ y
    refine hs i x H H' _ _ hi bx (fun a o e => ?_) ⟨ys, hy⟩ (fun y H4 b4 p4 => ⟨ys, b4.keep D _ nD hy, szt (by omega), ⟨b4.bag.of (upd_ne nD.symm) (upd_ne nL.symm), fun a o n e => ?_⟩, ys ++ [y], upd_same, by simp [hl], fun z hz => ?_⟩) y
    · obtain ⟨h1, h2⟩ := dl_some e
      rw [dl_ne (fun z => (List.mem_cons.mp z).elim (fun z => ne_of_none h2 hD z) h1)]
      exact bx.keep a o (fun z => h1 (by rw [z]; exact hS)) h2
    · rw [upd_ne (ne_of_none e hD)]
      exact b4.keep a o n (bx.keep a o n e)
    · rw [dl_upd List.mem_cons_self]
      rcases List.mem_append.mp hz with hz | hz
      · exact hP z _ _ (b4.same (List.mem_cons_of_mem _ hS)) (hp z hz)
      · rw [List.mem_singleton.mp hz]; exact p4
  · rintro H ⟨bx, ys, hy, hl, hp⟩
    exact hd H ys bx hl hy hp
/-- without a bag: the i-th element's value is known -/
theorem lc_val {J : It} {n : Nat} {G : Hp → Prop} {Y : Nat → Hp → V → Hp → Prop} (w : Walk J n G Y) {g : TG} {tt : TT} {te : TE} {vs : List Nat} {σ : L2.St} {H1 : Hp} {D : Addr} {Qd : Hp → Prop} (hD : H1 D = none) (f : Nat → V) (hG : ∀ H, Same H1 H → G H) (hn : n < 100000)
    (hs : ∀ i x H H' (Qe : V → Hp → Prop) (Z : Hp → Prop), i < n → Same H1 H → (∀ H4, Same H H4 → Qe (f i) H4) → Y i H x H' → g x (wipe σ vs) H' fun σ2 H2 => wipe σ2 vs = wipe σ vs ∧ tt σ2 H2 fun bb H3 => if bb = true then te σ2 H3 Qe else Z H3)
    (hd : ∀ H, Same H1 H → H D = some (.lst ((List.range n).map f)) → Qd H) :
    ∃ W : Nat → Nat → Hp → Prop, (∃ m, W 0 m (upd H1 D (.lst []))) ∧ ∀ i m H, W i m H →
      (J.stop i H ∧ Qd H) ∨ (J.go i H ∧ ∃ Nx : Hp → Prop, (∀ H', Nx H' → ∃ m', m' < m ∧ W (i + 1) m' H') ∧ ∀ x H', J.yld i H x H' → g x (wipe σ vs) H' fun σ2 H2 => wipe σ2 vs = wipe σ vs ∧ tt σ2 H2 fun b H3 =>
        if b = true then te σ2 H3 fun y H4 => ∃ acc, H4 D = some (.lst acc) ∧ acc.length < sizeLine ∧ Nx (upd H4 D (.lst (acc ++ [y]))) else Nx H3) := by
  refine lc_it w (fun i H => Same H1 H ∧ H D = some (.lst ((List.range i).map f))) ⟨same_new hD, upd_same⟩ (fun i H _ h => hG H h.1) ?_ ?_
  · rintro i x H H' hi ⟨sm, hy⟩ y
    refine hs i x H H' _ _ hi sm (fun H4 s4 => ⟨_, s4 _ _ hy, szt (by rw [List.length_map, List.length_range]; omega), fun a o e => ?_, ?_⟩) y
    · rw [upd_ne (ne_of_none e hD)]
      exact s4 _ _ (sm _ _ e)
    · rw [upd_same, List.range_succ, List.map_append]
      rfl
  · rintro H ⟨sm, hy⟩
    exact hd H sm hy
theorem Bx.ofSame {b l : Addr} {H H' : Hp} (h : Bag H b l) (s : Same H H') : Bx b l H H' := by
  obtain ⟨ns, i, g, t, h1, h2, r⟩ := h
  exact ⟨⟨ns, i, g, t, s _ _ h1, s _ _ h2, r⟩, fun a o _ e => s a o e⟩
theorem Bag.ofSame {b l : Addr} {H H' : Hp} (h : Bag H b l) (s : Same H H') : Bag H' b l := (Bx.ofSame h s).bag
theorem strs_of {ys : List V} (h : ∀ y ∈ ys, ∃ c : Nat, y = .str ⟨#[c]⟩) : ∃ ss : List Str, ys = ss.map V.str ∧ ss.length = ys.length ∧ ∀ s ∈ ss, s.length = 1 := by
  induction ys with
  | nil => exact ⟨[], rfl, rfl, fun _ h => nomatch h⟩
  | cons y r ih =>
    obtain ⟨c, rfl⟩ := h y List.mem_cons_self
    obtain ⟨ss, e, l, k⟩ := ih fun z hz => h z (List.mem_cons_of_mem _ hz)
    refine ⟨⟨#[c]⟩ :: ss, by rw [e]; rfl, by rw [List.length_cons, l, List.length_cons], fun s hs => ?_⟩
    rcases List.mem_cons.mp hs with rfl | hs
    · rfl
    · exact k s hs
theorem sum_ones : ∀ {ss : List Str}, (∀ s ∈ ss, s.length = 1) → (ss.map (·.length)).sum = ss.length
  | [], _ => rfl
  | s :: r, h => by
    rw [List.map_cons, List.sum_cons, h s List.mem_cons_self, sum_ones fun z hz => h z (List.mem_cons_of_mem _ hz), List.length_cons]
    omega
theorem dl_bls {K : PySem.W.Frag} {H : Hp} : ∀ (bs : List Bool), DpAll K H (bs.map V.bl) (bs.map PyData.bool)
  | [] => .nil
  | b :: r => .cons (.bl b) (dl_bls r)
end Hr

set_option Elab.async false
set_option linter.all false
set_option maxRecDepth 100000
set_option maxHeartbeats 4000000
namespace Hr
open PySem PySem.Spec PyProof.Rows L2
def topS (i : Nat) : Stmt := PySem.Challenge.pw_hiddenrank_k01_names_and_values.main.body.getD i (.Pass ⟨0, 0, 0, 0⟩)
abbrev s_consists_of : Stmt := topS 4
abbrev N_consists_of : List Str := ["text", "characters", "character"]
theorem sc_consists_of : FnScope N_consists_of ["text", "characters"] (defScope s_consists_of) := ⟨rfl, rfl, rfl, by decide +kernel, rfl, by decide +kernel, by decide +kernel⟩
abbrev s_is_name : Stmt := topS 5
abbrev N_is_name : List Str := ["text"]
theorem sc_is_name : FnScope N_is_name ["text"] (defScope s_is_name) := ⟨rfl, rfl, rfl, by decide +kernel, rfl, by decide +kernel, by decide +kernel⟩
abbrev s_is_value : Stmt := topS 6
abbrev N_is_value : List Str := ["text"]
theorem sc_is_value : FnScope N_is_value ["text"] (defScope s_is_value) := ⟨rfl, rfl, rfl, by decide +kernel, rfl, by decide +kernel, by decide +kernel⟩
abbrev s__law_bag : Stmt := topS 8
abbrev N__law_bag : List Str := ["_law_script"]
theorem sc__law_bag : FnScope N__law_bag ["_law_script"] (defScope s__law_bag) := ⟨rfl, rfl, rfl, by decide +kernel, rfl, by decide +kernel, by decide +kernel⟩
abbrev s__law_pull : Stmt := topS 9
abbrev N__law_pull : List Str := ["_law_bag_here", "_law_sides", "_law_twice", "_law_cell", "_law_digit"]
theorem sc__law_pull : FnScope N__law_pull ["_law_bag_here", "_law_sides"] (defScope s__law_pull) := ⟨rfl, rfl, rfl, by decide +kernel, rfl, by decide +kernel, by decide +kernel⟩
abbrev s__law_of : Stmt := topS 10
abbrev N__law_of : List Str := ["_law_bag_here", "_law_some"]
theorem sc__law_of : FnScope N__law_of ["_law_bag_here", "_law_some"] (defScope s__law_of) := ⟨rfl, rfl, rfl, by decide +kernel, rfl, by decide +kernel, by decide +kernel⟩
abbrev s__law_same : Stmt := topS 11
abbrev N__law_same : List Str := ["_law_found", "_law_due", "_law_one", "_law_two"]
theorem sc__law_same : FnScope N__law_same ["_law_found", "_law_due"] (defScope s__law_same) := ⟨rfl, rfl, rfl, by decide +kernel, rfl, by decide +kernel, by decide +kernel⟩
abbrev s__law_is_name : Stmt := topS 12
abbrev N__law_is_name : List Str := ["_law_text_z", "_law_sign"]
theorem sc__law_is_name : FnScope N__law_is_name ["_law_text_z"] (defScope s__law_is_name) := ⟨rfl, rfl, rfl, by decide +kernel, rfl, by decide +kernel, by decide +kernel⟩
abbrev s__law_is_value : Stmt := topS 13
abbrev N__law_is_value : List Str := ["_law_text_z", "_law_signs", "_law_sign"]
theorem sc__law_is_value : FnScope N__law_is_value ["_law_text_z"] (defScope s__law_is_value) := ⟨rfl, rfl, rfl, by decide +kernel, rfl, by decide +kernel, by decide +kernel⟩
abbrev s_law : Stmt := topS 14
abbrev N_law : List Str := ["_law_script", "_law_bag_here", "_law_signs", "_law_turn", "_law_word", "_law_bend", "_law_due", "_law_at", "_law_k"]
theorem sc_law : FnScope N_law ["_law_script"] (defScope s_law) := ⟨rfl, rfl, rfl, by decide +kernel, rfl, by decide +kernel, by decide +kernel⟩
structure Txt (K : PySem.W.Frag) (mg : Str → Option Value) : Prop where
  m_all : mg "all" = none
  m_len : mg "len" = none
  m_list : mg "list" = none
  m_abs : mg "abs" = none
  m_zip : mg "zip" = none
  m_isinstance : mg "isinstance" = none
  m_tuple : mg "tuple" = none
  m_str : mg "str" = none
  m_int : mg "int" = none
  m_bool : mg "bool" = none
  m_range : mg "range" = none
  c_MAX_NAME : Gv mg "MAX_NAME" (.int 8)
  c_NAME_CHARACTERS : Gv mg "NAME_CHARACTERS" (.str "abcdefghijklmnopqrstuvwxyz")
  c_VALUE_CHARACTERS : Gv mg "VALUE_CHARACTERS" (.str "abcdefghijklmnopqrstuvwxyz0123456789")
  h_consists_of : ∃ f fd, Fun K "consists_of" "consists_of" s_consists_of f fd ∧ Binds K fd ["text", "characters"] [] ∧ mg "consists_of" = some (.ref f)
  h_is_name : ∃ f fd, Fun K "is_name" "is_name" s_is_name f fd ∧ Binds K fd ["text"] [] ∧ mg "is_name" = some (.ref f) ∧ KwB fd ["text"] ["text"]
  h_is_value : ∃ f fd, Fun K "is_value" "is_value" s_is_value f fd ∧ Binds K fd ["text"] [] ∧ mg "is_value" = some (.ref f) ∧ KwB fd ["text"] ["text"]
  h__law_bag : ∃ f fd, Fun K "_law_bag" "_law_bag" s__law_bag f fd ∧ Binds K fd ["_law_script"] [] ∧ mg "_law_bag" = some (.ref f)
  h__law_pull : ∃ f fd, Fun K "_law_pull" "_law_pull" s__law_pull f fd ∧ Binds K fd ["_law_bag_here", "_law_sides"] [] ∧ mg "_law_pull" = some (.ref f)
  h__law_of : ∃ f fd, Fun K "_law_of" "_law_of" s__law_of f fd ∧ Binds K fd ["_law_bag_here", "_law_some"] [] ∧ mg "_law_of" = some (.ref f)
  h__law_same : ∃ f fd, Fun K "_law_same" "_law_same" s__law_same f fd ∧ Binds K fd ["_law_found", "_law_due"] [] ∧ mg "_law_same" = some (.ref f)
  h__law_is_name : ∃ f fd, Fun K "_law_is_name" "_law_is_name" s__law_is_name f fd ∧ Binds K fd ["_law_text_z"] [] ∧ mg "_law_is_name" = some (.ref f)
  h__law_is_value : ∃ f fd, Fun K "_law_is_value" "_law_is_value" s__law_is_value f fd ∧ Binds K fd ["_law_text_z"] [] ∧ mg "_law_is_value" = some (.ref f)
section
variable {P : Program} {w : World} {K : PySem.W.Frag} {mg : Str → Option Value} {base : Heap}
theorem len_le (t : Str) {n : Nat} (h : t.length ≤ n) : t.cps.size ≤ n := h
theorem sign_at {t : Str} {i c : Nat} (h : t.cps[i]? = some c) : t.cps.toList.getD i 0 = c := by
  rw [List.getD_eq_getElem?_getD, Array.getElem?_toList, h]
  rfl
theorem range_getD {α β : Type} (l : List α) (d : α) (f : α → β) : (List.range l.length).map (fun i => f (l.getD i d)) = l.map f := by
  apply List.ext_getElem
  · simp
  · intro i h1 h2
    simp at h1
    simp [List.getD_eq_getElem?_getD, h1]
def allIn (t cs : Str) : Bool := t.cps.toList.all fun c => decide (c ∈ cs.cps.toList)
def consists (t cs : Str) : Bool := decide (1 ≤ (t.length : Int)) && (decide ((t.length : Int) ≤ 8) && allIn t cs)
theorem all_end {K : PySem.W.Frag} {t cs : Str} {H : Hp} {D : Addr} {Q : VK} {n : Nat} (hn : n = t.cps.toList.length) (c1 : decide (1 ≤ (t.length : Int)) = true) (c2 : decide ((t.length : Int) ≤ 8) = true) (hL : H D = some (.lst ((List.range n).map fun i => V.bl (decide (t.cps.toList.getD i 0 ∈ cs.cps.toList))))) (q : Q (.bl (consists t cs)) H) :
    ∃ (a : Addr) (bs : List Bool), [V.ref D] = [V.ref a] ∧ SqL K H a (bs.map V.bl) ∧ Q (.bl (bs.all id)) H := by
  subst hn
  refine ⟨D, (t.cps.toList.map fun c => decide (c ∈ cs.cps.toList)), rfl, .inl (.inl ?_), ?_⟩
  · rw [hL, List.map_map]
    exact congrArg (fun l => some (HO.lst l)) (range_getD t.cps.toList 0 (fun c => V.bl (decide (c ∈ cs.cps.toList))))
  · have e : consists t cs = (t.cps.toList.map fun c => decide (c ∈ cs.cps.toList)).all id := by
      unfold consists allIn
      rw [c1, c2, List.all_map]
      rfl
    exact e ▸ q
def sp_consists : Sp := fun vs H Q _ => ∃ t cs, vs = [.str t, .str cs] ∧ t.length ≤ 50000 ∧ ∀ H', Same H H' → Q (.bl (consists t cs)) H'
theorem ok_consists_of {f : Addr} {fd : FuncData} (T : Txt K mg) (F : Fun K "consists_of" "consists_of" s_consists_of f fd) : FnOk P w K mg base CX0 1 f fd ["text", "characters"] sp_consists := by
  refine F.ok sc_consists_of (fun vs H Q E h => ?_) (fun cdv A outer s H vs Q E hr h => ?_)
  · obtain ⟨t, cs, rfl, _⟩ := h
    rfl
  obtain ⟨t, cs, rfl, ht, q⟩ := h
  refine ⟨_, (pss_one (ps_ret (pe_and (pe_chain op_le op_le pe_int (pe_callB call_len_str (by rfl) T.m_len PySem.boot_len (pa_cons (pv 0) pa_nil)) (pe_gv (by rfl) T.c_MAX_NAME)) (pe_one (pe_callB (cr_all rfl) (by rfl) T.m_all (by decide +kernel) (pa_cons (pe_lc (own := [("character", 2)]) (g := gName 2) (by rfl) sc_consists_of.nd (pi_str (pv 0)) (blkOk_by (own := [("character", 2)]) (N := N_consists_of) (sc := defScope s_consists_of) (by decide +kernel)) (fun _ _ _ _ _ => pg_name (i := 2) sc_consists_of.nd rfl (.inl rfl)) (fun _ _ _ _ _ => pts_nil) (fun _ _ _ _ _ => (pe_cmpR op_in_sign (pv 2) (pv 1) (by rfl)))) pa_nil)))))), ?_⟩
  refine ⟨_, rfl, t, rfl, szl (Nat.le_trans ht (by decide)), 1, _, rfl, rfl, _, rfl, ?_⟩
  refine ite2 (fun c1 => ?_) (fun c1 => ?_)
  · refine ⟨_, _, rfl, rfl, _, rfl, ite2 (fun c2 => ?_) (fun c2 => ?_)⟩
    · refine ⟨_, rfl, t, rfl, fun D hD => ?_⟩
      refine lc_val walk_str hD (fun i => .bl (decide (t.cps.toList.getD i 0 ∈ cs.cps.toList))) (fun _ _ => trivial) (Nat.lt_of_le_of_lt (len_le t ht) (by decide)) (fun i x H1 H' Qe Z hi sm hq hy => ?_) (fun H1 sm hL => ?_)
      · obtain ⟨rfl, c, hc, rfl⟩ := hy
        refine ⟨rfl, yes ?_⟩
        refine ⟨_, rfl, _, rfl, c, cs, rfl, rfl, ?_⟩
        rw [← sign_at hc]
        exact hq _ (Same.refl _)
      · exact all_end rfl c1 c2 hL (q H1 sm)
    · have e : consists t cs = false := by
        unfold consists
        rw [c1, Bool.eq_false_iff.mpr c2]
        rfl
      exact e ▸ q _ (Same.refl _)
  · have e : consists t cs = false := by
      unfold consists
      rw [Bool.eq_false_iff.mpr c1]
      rfl
    exact ⟨_, rfl, iteF (e ▸ q _ (Same.refl _))⟩
def sp_word (cs : Str) : Sp := fun vs H Q _ => ∃ t, vs = [.str t] ∧ t.length ≤ 50000 ∧ ∀ H', Same H H' → Q (.bl (consists t cs)) H'
abbrev nameC : Str := "abcdefghijklmnopqrstuvwxyz"
abbrev valueC : Str := "abcdefghijklmnopqrstuvwxyz0123456789"
theorem ok_is_name {f : Addr} {fd : FuncData} (T : Txt K mg) (F : Fun K "is_name" "is_name" s_is_name f fd) : FnOk P w K mg base CX0 2 f fd ["text"] (sp_word nameC) := by
  obtain ⟨f_consists_of, fd_consists_of, F_consists_of, b_consists_of, g_consists_of⟩ := T.h_consists_of
  have G_consists_of := ok_consists_of (P := P) (w := w) (base := base) T F_consists_of
  refine F.ok sc_is_name (fun vs H Q E h => ?_) (fun cdv A outer s H vs Q E hr h => ?_)
  · obtain ⟨t, rfl, _⟩ := h
    rfl
  obtain ⟨t, rfl, ht, q⟩ := h
  have hr_consists_of := hr
  refine ⟨_, (pss_one (ps_ret (pe_call G_consists_of hr_consists_of (by rfl) g_consists_of F_consists_of.kp b_consists_of .nil pass0 (pa_cons (pv 0) (pa_cons (pe_gv (by rfl) T.c_NAME_CHARACTERS) pa_nil))))), ?_⟩
  exact ⟨_, rfl, t, _, rfl, ht, q⟩
theorem ok_is_value {f : Addr} {fd : FuncData} (T : Txt K mg) (F : Fun K "is_value" "is_value" s_is_value f fd) : FnOk P w K mg base CX0 2 f fd ["text"] (sp_word valueC) := by
  obtain ⟨f_consists_of, fd_consists_of, F_consists_of, b_consists_of, g_consists_of⟩ := T.h_consists_of
  have G_consists_of := ok_consists_of (P := P) (w := w) (base := base) T F_consists_of
  refine F.ok sc_is_value (fun vs H Q E h => ?_) (fun cdv A outer s H vs Q E hr h => ?_)
  · obtain ⟨t, rfl, _⟩ := h
    rfl
  obtain ⟨t, rfl, ht, q⟩ := h
  have hr_consists_of := hr
  refine ⟨_, (pss_one (ps_ret (pe_call G_consists_of hr_consists_of (by rfl) g_consists_of F_consists_of.kp b_consists_of .nil pass0 (pa_cons (pv 0) (pa_cons (pe_gv (by rfl) T.c_VALUE_CHARACTERS) pa_nil))))), ?_⟩
  exact ⟨_, rfl, t, _, rfl, ht, q⟩
theorem ok__law_is_name {f : Addr} {fd : FuncData} (T : Txt K mg) (F : Fun K "_law_is_name" "_law_is_name" s__law_is_name f fd) : FnOk P w K mg base CX0 1 f fd ["_law_text_z"] (sp_word nameC) := by
  refine F.ok sc__law_is_name (fun vs H Q E h => ?_) (fun cdv A outer s H vs Q E hr h => ?_)
  · obtain ⟨t, rfl, _⟩ := h
    rfl
  obtain ⟨t, rfl, ht, q⟩ := h
  refine ⟨_, (pss_one (ps_ret (pe_and (pe_chain op_le op_le pe_int (pe_callB call_len_str (by rfl) T.m_len PySem.boot_len (pa_cons (pv 0) pa_nil)) pe_int) (pe_one (pe_callB (cr_all rfl) (by rfl) T.m_all (by decide +kernel) (pa_cons (pe_lc (own := [("_law_sign", 1)]) (g := gName 1) (by rfl) sc__law_is_name.nd (pi_str (pv 0)) (blkOk_by (own := [("_law_sign", 1)]) (N := N__law_is_name) (sc := defScope s__law_is_name) (by decide +kernel)) (fun _ _ _ _ _ => pg_name (i := 1) sc__law_is_name.nd rfl (.inl rfl)) (fun _ _ _ _ _ => pts_nil) (fun _ _ _ _ _ => (pe_cmpR op_in_sign (pv 1) pe_str (by rfl)))) pa_nil)))))), ?_⟩
  refine ⟨_, rfl, t, rfl, szl (Nat.le_trans ht (by decide)), 1, _, rfl, rfl, _, rfl, ?_⟩
  refine ite2 (fun c1 => ?_) (fun c1 => ?_)
  · refine ⟨_, _, rfl, rfl, _, rfl, ite2 (fun c2 => ?_) (fun c2 => ?_)⟩
    · refine ⟨_, rfl, t, rfl, fun D hD => ?_⟩
      refine lc_val walk_str hD (fun i => .bl (decide (t.cps.toList.getD i 0 ∈ nameC.cps.toList))) (fun _ _ => trivial) (Nat.lt_of_le_of_lt (len_le t ht) (by decide)) (fun i x H1 H' Qe Z hi sm hq hy => ?_) (fun H1 sm hL => ?_)
      · obtain ⟨rfl, c, hc, rfl⟩ := hy
        refine ⟨rfl, yes ?_⟩
        refine ⟨_, rfl, c, nameC, rfl, rfl, ?_⟩
        rw [← sign_at hc]
        exact hq _ (Same.refl _)
      · exact all_end rfl c1 c2 hL (q H1 sm)
    · have e : consists t nameC = false := by
        unfold consists
        rw [c1, Bool.eq_false_iff.mpr c2]
        rfl
      exact e ▸ q _ (Same.refl _)
  · have e : consists t nameC = false := by
      unfold consists
      rw [Bool.eq_false_iff.mpr c1]
      rfl
    exact ⟨_, rfl, iteF (e ▸ q _ (Same.refl _))⟩
theorem ok__law_is_value {f : Addr} {fd : FuncData} (T : Txt K mg) (F : Fun K "_law_is_value" "_law_is_value" s__law_is_value f fd) : FnOk P w K mg base CX0 1 f fd ["_law_text_z"] (sp_word valueC) := by
  refine F.ok sc__law_is_value (fun vs H Q E h => ?_) (fun cdv A outer s H vs Q E hr h => ?_)
  · obtain ⟨t, rfl, _⟩ := h
    rfl
  obtain ⟨t, rfl, ht, q⟩ := h
  refine ⟨_, (pss_cons (ps_set (i := 1) sc__law_is_value.nd rfl (.inr rfl) pe_str)
      (pss_one (ps_ret (pe_and (pe_chain op_le op_le pe_int (pe_callB call_len_str (by rfl) T.m_len PySem.boot_len (pa_cons (pv 0) pa_nil)) pe_int) (pe_one (pe_callB (cr_all rfl) (by rfl) T.m_all (by decide +kernel) (pa_cons (pe_lc (own := [("_law_sign", 2)]) (g := gName 2) (by rfl) sc__law_is_value.nd (pi_str (pv 0)) (blkOk_by (own := [("_law_sign", 2)]) (N := N__law_is_value) (sc := defScope s__law_is_value) (by decide +kernel)) (fun _ _ _ _ _ => pg_name (i := 2) sc__law_is_value.nd rfl (.inl rfl)) (fun _ _ _ _ _ => pts_nil) (fun _ _ _ _ _ => (pe_cmpR op_in_sign (pv 2) (pv 1) (by rfl)))) pa_nil))))))), ?_⟩
  refine ⟨_, rfl, t, rfl, szl (Nat.le_trans ht (by decide)), 1, _, rfl, rfl, _, rfl, ?_⟩
  refine ite2 (fun c1 => ?_) (fun c1 => ?_)
  · refine ⟨_, _, rfl, rfl, _, rfl, ite2 (fun c2 => ?_) (fun c2 => ?_)⟩
    · refine ⟨_, rfl, t, rfl, fun D hD => ?_⟩
      refine lc_val walk_str hD (fun i => .bl (decide (t.cps.toList.getD i 0 ∈ valueC.cps.toList))) (fun _ _ => trivial) (Nat.lt_of_le_of_lt (len_le t ht) (by decide)) (fun i x H1 H' Qe Z hi sm hq hy => ?_) (fun H1 sm hL => ?_)
      · obtain ⟨rfl, c, hc, rfl⟩ := hy
        refine ⟨rfl, yes ?_⟩
        refine ⟨_, rfl, _, rfl, c, valueC, rfl, rfl, ?_⟩
        rw [← sign_at hc]
        exact hq _ (Same.refl _)
      · exact all_end rfl c1 c2 hL (q H1 sm)
    · have e : consists t valueC = false := by
        unfold consists
        rw [c1, Bool.eq_false_iff.mpr c2]
        rfl
      exact e ▸ q _ (Same.refl _)
  · have e : consists t valueC = false := by
      unfold consists
      rw [Bool.eq_false_iff.mpr c1]
      rfl
    exact ⟨_, rfl, iteF (e ▸ q _ (Same.refl _))⟩
theorem seqI {t1 t2 : TS} {D : Ends} {σ : L2.St} {H : Hp} (I : L2.St → Hp → Prop) (h2 : ∀ σ' H', I σ' H' → t2 D σ' H') (h1 : ∀ N : L2.St → Hp → Prop, (∀ σ' H', I σ' H' → N σ' H') → t1 { D with nx := N } σ H) : tSeq t1 t2 D σ H := h1 (t2 D) h2
theorem cut_ints (ns : List Int) (lo hi : Option Int) : ∃ ms : List Int, cutV (ns.map V.int) lo hi = ms.map V.int ∧ ms.length ≤ ns.length := by
  refine ⟨(ns.drop (HT.sIx (ns.map V.int).length 0 lo)).take (HT.sIx (ns.map V.int).length (ns.map V.int).length hi - HT.sIx (ns.map V.int).length 0 lo), ?_, ?_⟩
  · unfold cutV
    rw [List.map_take, List.map_drop]
  · rw [List.length_take, List.length_drop]
    omega
theorem at_int {ns : List Int} {i : Int} (h0 : 0 ≤ i) (h1 : i < ns.length) : ∃ c : Int, atI (ns.map V.int) i = some (.int c) := by
  have hk : i.toNat < ns.length := by omega
  have ek : i = ((i.toNat : Nat) : Int) := by omega
  have q : atI (ns.map V.int) ((i.toNat : Nat) : Int) = some (.int ns[i.toNat]) := atI_nat (by rw [List.getElem?_map, List.getElem?_eq_getElem hk] <;> rfl)
  rw [← ek] at q
  exact ⟨_, q⟩
theorem fmod_in {a n : Int} (h : 0 < n) : 0 ≤ a.fmod n ∧ a.fmod n < n := ⟨Int.fmod_nonneg_of_pos _ h, Int.fmod_lt_of_pos _ h⟩
theorem fdiv_in {a n : Int} (h : 0 < n) (h0 : 0 ≤ a) : 0 ≤ a.fdiv n := by
  rw [Int.fdiv_eq_ediv_of_nonneg _ (by omega)]
  exact Int.ediv_nonneg h0 (by omega)
theorem bag_at {H : Hp} {b l : Addr} {ns : List Int} {i g t : Int} (nl : l ≠ b) (hl : H l = some (.lst (ns.map V.int))) (h : ns.length ≤ 63) (h1 : 0 ≤ i) (h2 : 0 ≤ g) (h3 : 0 ≤ t) (h4 : t < 2147483647) : Bag (upd H b (.lst [.ref l, .int i, .int g, .int t])) b l :=
  ⟨ns, i, g, t, upd_same, by rw [upd_ne nl]; exact hl, h, h1, h2, h3, h4⟩
theorem bag_ne {b l : Addr} {ns : List Int} {i g s : Int} {H : Hp} (h : H b = some (.lst [.ref l, .int i, .int g, .int s])) (h' : H l = some (.lst (ns.map V.int))) : l ≠ b := by
  refine ne_of h' h fun e => ?_
  cases ns with
  | nil => cases e
  | cons n r => cases (List.cons.inj (HO.lst.inj e)).1
theorem ok__law_bag {f : Addr} {fd : FuncData} (T : Txt K mg) (F : Fun K "_law_bag" "_law_bag" s__law_bag f fd) : FnOk P w K mg base CX0 1 f fd ["_law_script"] (sp_bag K) := by
  refine F.ok sc__law_bag (fun vs H Q E h => ?_) (fun cdv A outer s H vs Q E hr h => ?_)
  · obtain ⟨a, ns, rfl, _⟩ := h
    rfl
  obtain ⟨a, ns, rfl, hS, hn, q⟩ := h
  refine ⟨_, (pss_one (ps_ret (pe_lst (pa_cons (pe_callTy call_list_of (by rfl) T.m_list (by decide +kernel) (pa_cons (pe_slice sl_list (pv 0) po_none (po_some pe_int)) pa_nil)) (pa_cons pe_int (pa_cons pe_int (pa_cons pe_int pa_nil))))))), ?_⟩
  obtain ⟨ms, em, hm⟩ := cut_ints ns none (some 63)
  refine ⟨_, rfl, 63, rfl, a, _, rfl, hS, fun p hp => ⟨p, ms.map V.int, rfl, .inl (.inl (.inl (by rw [upd_same, em]))), fun l hl => ⟨by show 4 ≤ sizeLine; decide, fun b hb => ?_⟩⟩⟩
  have s1 : Same H (upd H p (.lst (cutV (ns.map V.int) none (some 63)))) := same_new hp
  have s2 := same_new (o := .lst (ms.map V.int)) hl
  have s3 := same_new (o := .lst [V.ref l, .int 0, .int 0, .int 9485]) hb
  exact q b l _ ⟨ms, 0, 0, 9485, upd_same, s3 _ _ upd_same, by omega, by omega, by omega, by omega, by omega⟩ ((s1.trans s2).free hb) ((s1.trans s2).trans s3)
theorem ok__law_pull {f : Addr} {fd : FuncData} (T : Txt K mg) (F : Fun K "_law_pull" "_law_pull" s__law_pull f fd) : FnOk P w K mg base CX0 1 f fd ["_law_bag_here", "_law_sides"] sp_pull := by
  refine F.ok sc__law_pull (fun vs H Q E h => ?_) (fun cdv A outer s H vs Q E hr h => ?_)
  · obtain ⟨b, l, n, rfl, _⟩ := h
    rfl
  obtain ⟨b, l, n, rfl, ⟨ns, i, g, t, hb, hl, hlen, hi, hg, ht, ht'⟩, hn1, hn2, q⟩ := h
  have nl : l ≠ b := bag_ne hb hl
  refine ⟨_, (pss_cons (ps_if (PW.pt (pw_and (pt_cmpR op_eq (pe_ix ix_list (pv 0) pe_int (fun _ _ => rfl)) pe_int (nomark _)) (pw_and1 (pt_cmpR op_lt (pe_ix ix_list (pv 0) pe_int (fun _ _ => rfl)) (pe_callB call_len_seq (by rfl) T.m_len PySem.boot_len (pa_cons (pe_ix ix_list (pv 0) pe_int (fun _ _ => rfl)) pa_nil)) (nomark _))))) (pss_cons (ps_set (i := 3) sc__law_pull.nd rfl (.inl rfl) (pe_ix ix_list (pe_ix ix_list (pv 0) pe_int (fun _ _ => rfl)) (pe_ix ix_list (pv 0) pe_int (fun _ _ => rfl)) (fun _ _ => rfl)))
      (pss_cons (ps_asg (pe_op op_add (pe_ix ix_list (pv 0) pe_int (fun _ _ => rfl)) pe_int) (pg_sub (pv 0) pe_int set_list))
      (pss_one (ps_if (pt_cmpR op_ge (pe_callB call_abs (by rfl) T.m_abs (by decide +kernel) (pa_cons (pv 3) pa_nil)) (pe_op op_pow pe_int pe_int) (nomark _)) (pss_one (ps_asg (pe_callB call_abs (by rfl) T.m_abs (by decide +kernel) (pa_cons (pv 3) pa_nil)) (pg_sub (pv 0) pe_int set_list))) (pss_one (ps_asg (pe_op op_modN (pe_op op_add (pe_op op_add (pe_op op_mul (pe_ix ix_list (pv 0) pe_int (fun _ _ => rfl)) pe_int) (pe_op op_mul (pe_op op_modN (pv 3) pe_int) pe_int)) pe_int) pe_int) (pg_sub (pv 0) pe_int set_list))))))) pss_nil)
      (pss_cons (ps_if (pt_cmpR op_gt (pe_ix ix_list (pv 0) pe_int (fun _ _ => rfl)) pe_int (nomark _)) (pss_cons (ps_set (i := 4) sc__law_pull.nd rfl (.inl rfl) (pe_op op_modN (pe_ix ix_list (pv 0) pe_int (fun _ _ => rfl)) (pv 1)))
      (pss_cons (ps_asg (pe_op op_fdivN (pe_ix ix_list (pv 0) pe_int (fun _ _ => rfl)) (pv 1)) (pg_sub (pv 0) pe_int set_list))
      (pss_one (ps_ret (pv 4))))) pss_nil)
      (pss_cons (ps_set (i := 2) sc__law_pull.nd rfl (.inl rfl) (pe_op op_modN (pe_op op_mul (pe_ix ix_list (pv 0) pe_int (fun _ _ => rfl)) (pe_ix ix_list (pv 0) pe_int (fun _ _ => rfl))) pe_int))
      (pss_cons (ps_asg (pe_op op_modN (pe_op op_add (pe_op op_add (pe_op op_mul (pv 2) pe_int) (pe_op op_mul (pe_ix ix_list (pv 0) pe_int (fun _ _ => rfl)) pe_int)) pe_int) pe_int) (pg_sub (pv 0) pe_int set_list))
      (pss_one (ps_ret (pe_op op_modN (pe_op op_fdivN (pe_ix ix_list (pv 0) pe_int (fun _ _ => rfl)) pe_int) (pv 1)))))))), ?_⟩
  refine seqI (fun σ' H' => ∃ (x : Option V) (i g t : Int), σ' = [some (.ref b), some (.int n), none, x, none] ∧ H' = upd H b (.lst [.ref l, .int i, .int g, .int t]) ∧ 0 ≤ i ∧ 0 ≤ g ∧ 0 ≤ t ∧ t < 2147483647) ?_ ?_
  · rintro σ' H' ⟨x, i, g, t, rfl, rfl, hi, hg, ht, ht'⟩
    have hb1 : (upd H b (.lst [.ref l, .int i, .int g, .int t])) b = some (.lst [.ref l, .int i, .int g, .int t]) := upd_same
    refine ⟨_, rfl, b, _, _, _, rfl, rfl, SqL.of hb1, rfl, _, _, rfl, rfl, _, rfl, ite2 (fun c => ?_) (fun c => ?_)⟩
    · have e := fmod_in (a := g) (n := n) (by omega)
      refine ⟨_, rfl, b, _, _, _, rfl, rfl, SqL.of hb1, rfl, _, rfl, _, _, rfl, rfl, by omega, ?_⟩
      refine ⟨_, rfl, b, _, _, _, rfl, rfl, SqL.of hb1, rfl, _, rfl, _, _, rfl, rfl, ⟨by omega, by omega⟩, ?_⟩
      refine ⟨_, rfl, b, _, 2, 2, rfl, rfl, hb1, rfl, _, rfl, ?_⟩
      rw [upd_upd]
      exact q _ _ e.1 e.2 (Bx.bagstep (bag_at nl hl hlen hi (fdiv_in (by omega) hg) ht ht'))
    · refine ⟨_, rfl, b, _, _, _, rfl, rfl, SqL.of hb1, rfl, _, rfl, b, _, _, _, rfl, rfl, SqL.of hb1, rfl, _, _, rfl, rfl, .inl ⟨by omega, by omega⟩, _, _, rfl, rfl, by omega, ?_⟩
      have e1 := fmod_in (a := t * t) (n := 2147483629) (by omega)
      refine ⟨_, rfl, _, _, rfl, rfl, .inl ⟨by omega, by omega⟩, _, rfl, b, _, _, _, rfl, rfl, SqL.of hb1, rfl, _, _, rfl, rfl, .inl ⟨by omega, by omega⟩, _, _, rfl, rfl, _, _, rfl, rfl, _, _, rfl, rfl, by omega, ?_⟩
      have e2 := fmod_in (a := (t * t).fmod 2147483629 * 16807 + t * 40692 + 12345) (n := 2147483647) (by omega)
      refine ⟨_, rfl, b, _, 3, 3, rfl, rfl, hb1, rfl, ?_⟩
      refine ⟨_, rfl, b, _, 3, _, rfl, rfl, SqL.of upd_same, rfl, _, _, rfl, rfl, ⟨by omega, by omega⟩, _, rfl, _, _, rfl, rfl, by omega, ?_⟩
      have e3 := fmod_in (a := (((t * t).fmod 2147483629 * 16807 + t * 40692 + 12345).fmod 2147483647).fdiv 64) (n := n) (by omega)
      rw [upd_upd]
      exact q _ _ e3.1 e3.2 (Bx.bagstep (bag_at nl hl hlen hi hg e2.1 e2.2))
  · intro N hN
    refine ⟨_, rfl, b, _, _, _, rfl, rfl, SqL.of hb, rfl, rfl, _, rfl, ite2 (fun c => ?_) (fun c => ?_)⟩
    · refine ⟨_, rfl, b, _, _, _, rfl, rfl, SqL.of hb, rfl, _, rfl, b, _, _, _, rfl, rfl, SqL.of hb, rfl, l, _, rfl, .inl (SqL.of hl), _, _, rfl, rfl, _, rfl, ite2 (fun c2 => ?_) (fun c2 => ?_)⟩
      · have c3 : i < ns.length := by
          have := of_decide_eq_true c2
          rw [List.length_map] at this
          exact this
        obtain ⟨v, hv⟩ := at_int hi c3
        refine ⟨_, rfl, b, _, _, _, rfl, rfl, SqL.of hb, rfl, _, rfl, b, _, _, _, rfl, rfl, SqL.of hb, rfl, l, _, i, .int v, rfl, rfl, SqL.of hl, hv, ?_⟩
        refine ⟨_, rfl, b, _, _, _, rfl, rfl, SqL.of hb, rfl, _, _, rfl, rfl, _, rfl, b, _, 1, 1, rfl, rfl, hb, rfl, ?_⟩
        refine ⟨_, rfl, v, rfl, 10, 18, rfl, rfl, ⟨by decide, by decide, by decide⟩, _, _, rfl, rfl, _, rfl, ite2 (fun c4 => ?_) (fun c4 => ?_)⟩
        · refine ⟨_, rfl, v, rfl, _, rfl, b, _, 2, 2, rfl, rfl, upd_same, rfl, ?_⟩
          refine hN _ _ ⟨_, i + 1, (if v < 0 then -v else v), t, rfl, ?_, by omega, by split <;> omega, ht, ht'⟩
          rw [upd_upd]
          rfl
        · have e1 := fmod_in (a := v) (n := 1000003) (by omega)
          have e2 := fmod_in (a := t * 48271 + v.fmod 1000003 * 911 + 7) (n := 2147483647) (by omega)
          refine ⟨_, rfl, b, _, 3, .int t, rfl, rfl, SqL.of upd_same, rfl, _, _, rfl, rfl, .inl ⟨by omega, by omega⟩, _, rfl, _, _, rfl, rfl, by omega, _, _, rfl, rfl, .inl ⟨by omega, by omega⟩, _, _, rfl, rfl, _, _, rfl, rfl, _, _, rfl, rfl, by omega, ?_⟩
          refine ⟨_, rfl, b, _, 3, 3, rfl, rfl, upd_same, rfl, ?_⟩
          refine hN _ _ ⟨_, i + 1, g, _, rfl, ?_, by omega, hg, e2.1, e2.2⟩
          rw [upd_upd]
          rfl
      · exact hN _ _ ⟨none, i, g, t, rfl, (upd_id hb).symm, hi, hg, ht, ht'⟩
    · exact hN _ _ ⟨none, i, g, t, rfl, (upd_id hb).symm, hi, hg, ht, ht'⟩
theorem ok__law_ofS {f : Addr} {fd : FuncData} (T : Txt K mg) (F : Fun K "_law_of" "_law_of" s__law_of f fd) : FnOk P w K mg base CX0 2 f fd ["_law_bag_here", "_law_some"] sp_ofS := by
  obtain ⟨f__law_pull, fd__law_pull, F__law_pull, b__law_pull, g__law_pull⟩ := T.h__law_pull
  have G__law_pull := ok__law_pull (P := P) (w := w) (base := base) T F__law_pull
  refine F.ok sc__law_of (fun vs H Q E h => ?_) (fun cdv A outer s H vs Q E hr h => ?_)
  · obtain ⟨b, l, z, rfl, _⟩ := h
    rfl
  obtain ⟨b, l, z, rfl, hb, h1, h2, q⟩ := h
  have hr__law_pull := hr
  refine ⟨_, (pss_one (ps_ret (pe_ix ix_str (pv 1) (pe_call G__law_pull hr__law_pull (by rfl) g__law_pull F__law_pull.kp b__law_pull .nil pass0 (pa_cons (pv 0) (pa_cons (pe_callB call_len_str (by rfl) T.m_len PySem.boot_len (pa_cons (pv 1) pa_nil)) pa_nil))) (fun _ _ => rfl)))), ?_⟩
  refine ⟨_, rfl, _, rfl, _, rfl, z, rfl, szl h2, b, l, _, rfl, hb, by omega, by omega, fun d H' d0 d1 bx => ?_⟩
  have hk : d.toNat < z.cps.toList.length := by
    have : z.cps.toList.length = z.length := rfl
    omega
  have e : atI z.cps.toList d = some z.cps.toList[d.toNat] := by
    have q : atI z.cps.toList ((d.toNat : Nat) : Int) = some z.cps.toList[d.toNat] := atI_nat (List.getElem?_eq_getElem hk)
    rwa [show ((d.toNat : Nat) : Int) = d by omega] at q
  exact ⟨z, d, _, rfl, rfl, szl h2, e, q _ H' (List.getElem_mem hk) bx⟩
theorem ok__law_same_step {f : Addr} {fd : FuncData} {n : Nat} (T : Txt K mg) (F : Fun K "_law_same" "_law_same" s__law_same f fd) (G__law_same : FnOk P w K mg base CX0 n f fd ["_law_found", "_law_due"] (sp_same K n)) (b__law_same : Binds K fd ["_law_found", "_law_due"] []) (g__law_same : mg "_law_same" = some (.ref f)) : FnOk P w K mg base CX0 (n + 1) f fd ["_law_found", "_law_due"] (sp_same K (n + 1)) := by
  have F__law_same := F
  refine F.ok sc__law_same (fun vs H Q E h => ?_) (fun cdv A outer s H vs Q E hr h => ?_)
  · obtain ⟨x, y, d, rfl, _⟩ := h
    rfl
  obtain ⟨x, y, d, rfl, hx, hy, hd, q⟩ := h
  have hr__law_same := hr
  refine ⟨_, (pss_cons (ps_if (pt_cmpR op_isN (pv 1) pe_non (nomark _)) (pss_one (ps_ret (pe_cmpR op_isN (pv 0) pe_non (nomark _)))) pss_nil)
      (pss_cons (ps_if (PW.pt (pw_or (pt_val (pe_callB call_isi (by rfl) T.m_isinstance (by decide +kernel) (pa_cons (pv 1) (pa_cons (pe_bltn (v := .ty "bool") (by rfl) T.m_bool (by decide +kernel) rfl) pa_nil)))) (pw_or1 (pt_val (pe_callB call_isi (by rfl) T.m_isinstance (by decide +kernel) (pa_cons (pv 0) (pa_cons (pe_bltn (v := .ty "bool") (by rfl) T.m_bool (by decide +kernel) rfl) pa_nil))))))) (pss_one (ps_ret (pe_and (pe_callB call_isi (by rfl) T.m_isinstance (by decide +kernel) (pa_cons (pv 1) (pa_cons (pe_bltn (v := .ty "bool") (by rfl) T.m_bool (by decide +kernel) rfl) pa_nil))) (pe_and (pe_callB call_isi (by rfl) T.m_isinstance (by decide +kernel) (pa_cons (pv 0) (pa_cons (pe_bltn (v := .ty "bool") (by rfl) T.m_bool (by decide +kernel) rfl) pa_nil))) (pe_one (pe_cmpR op_eq (pv 0) (pv 1) (nomark _))))))) pss_nil)
      (pss_cons (ps_if (PW.pt (pw_or (pt_val (pe_callB call_isi (by rfl) T.m_isinstance (by decide +kernel) (pa_cons (pv 1) (pa_cons (pe_bltn (v := .ty "int") (by rfl) T.m_int (by decide +kernel) rfl) pa_nil)))) (pw_or1 (pt_val (pe_callB call_isi (by rfl) T.m_isinstance (by decide +kernel) (pa_cons (pv 1) (pa_cons (pe_bltn (v := .ty "str") (by rfl) T.m_str (by decide +kernel) rfl) pa_nil))))))) (pss_one (ps_ret (pe_and (pe_cmpR op_eq (pe_callB call_isi (by rfl) T.m_isinstance (by decide +kernel) (pa_cons (pv 0) (pa_cons (pe_bltn (v := .ty "int") (by rfl) T.m_int (by decide +kernel) rfl) pa_nil))) (pe_callB call_isi (by rfl) T.m_isinstance (by decide +kernel) (pa_cons (pv 1) (pa_cons (pe_bltn (v := .ty "int") (by rfl) T.m_int (by decide +kernel) rfl) pa_nil))) (nomark _)) (pe_and (pe_cmpR op_eq (pe_callB call_isi (by rfl) T.m_isinstance (by decide +kernel) (pa_cons (pv 0) (pa_cons (pe_bltn (v := .ty "str") (by rfl) T.m_str (by decide +kernel) rfl) pa_nil))) (pe_callB call_isi (by rfl) T.m_isinstance (by decide +kernel) (pa_cons (pv 1) (pa_cons (pe_bltn (v := .ty "str") (by rfl) T.m_str (by decide +kernel) rfl) pa_nil))) (nomark _)) (pe_one (pe_cmpR op_eq (pv 0) (pv 1) (nomark _))))))) pss_nil)
      (pss_cons (ps_if (PW.pt (pw_or (pt_cmpR op_ne (pe_callB call_isi (by rfl) T.m_isinstance (by decide +kernel) (pa_cons (pv 1) (pa_cons (pe_bltn (v := .ty "list") (by rfl) T.m_list (by decide +kernel) rfl) pa_nil))) (pe_callB call_isi (by rfl) T.m_isinstance (by decide +kernel) (pa_cons (pv 0) (pa_cons (pe_bltn (v := .ty "list") (by rfl) T.m_list (by decide +kernel) rfl) pa_nil))) (nomark _)) (pw_or1 (pt_cmpR op_ne (pe_callB call_isi (by rfl) T.m_isinstance (by decide +kernel) (pa_cons (pv 1) (pa_cons (pe_bltn (v := .ty "tuple") (by rfl) T.m_tuple (by decide +kernel) rfl) pa_nil))) (pe_callB call_isi (by rfl) T.m_isinstance (by decide +kernel) (pa_cons (pv 0) (pa_cons (pe_bltn (v := .ty "tuple") (by rfl) T.m_tuple (by decide +kernel) rfl) pa_nil))) (nomark _))))) (pss_one (ps_ret pe_bl)) pss_nil)
      (pss_one (ps_ret (pe_and (pe_cmpR op_eq (pe_callB call_len_seq (by rfl) T.m_len PySem.boot_len (pa_cons (pv 0) pa_nil)) (pe_callB call_len_seq (by rfl) T.m_len PySem.boot_len (pa_cons (pv 1) pa_nil)) (nomark _)) (pe_one (pe_callB (cr_all rfl) (by rfl) T.m_all (by decide +kernel) (pa_cons (pe_lc (own := [("_law_one", 2), ("_law_two", 3)]) (g := gTup K 2 (gCons (gName 2) (gCons (gName 3) gNil))) (by rfl) sc__law_same.nd (RZ.pi_zipA (by rfl) T.m_zip (pa_cons (pv 0) (pa_cons (pv 1) pa_nil))) (blkOk_by (own := [("_law_one", 2), ("_law_two", 3)]) (N := N__law_same) (sc := defScope s__law_same) (by decide +kernel)) (fun _ _ _ _ _ => pg_tup rfl (pgs_cons (pg_name (i := 2) sc__law_same.nd rfl (.inl rfl)) (pgs_cons (pg_name (i := 3) sc__law_same.nd rfl (.inl rfl)) pgs_nil))) (fun _ _ _ _ _ => pts_nil) (fun _ _ _ _ _ => (pe_call G__law_same hr__law_same (by rfl) g__law_same F__law_same.kp b__law_same .nil pass0 (pa_cons (pv 2) (pa_cons (pv 3) pa_nil))))) pa_nil)))))))))), ?_⟩
  have hxx := hx
  have hyy := hy
  have qq := q H (Same.refl _)
  rcases deep_cases d with ⟨ds, rfl⟩ | ⟨ds, rfl⟩ | ⟨ds, rfl⟩ | rfl | ⟨b, rfl⟩ | ⟨i, rfl⟩ | ⟨z, rfl⟩
  · cases hx with
    | @lst a xs _ h1 t1 =>
      cases hy with
      | @lst a2 ys _ h2 t2 =>
        have l1 := dpa_len t1
        have l2 := dpa_len t2
        refine ⟨_, rfl, rfl, _, rfl, ifF (fun z => nomatch z) ?_⟩
        refine ⟨_, rfl, _, _, _, _, _, rfl, .ty _, ty_of hyy, kit_ty kit_list_bool, ⟨_, rfl, iteF ⟨_, rfl, _, _, _, _, _, rfl, .ty _, ty_of hxx, kit_ty kit_list_bool, ⟨_, rfl, iteF ?_⟩⟩⟩⟩
        refine ⟨_, rfl, _, _, _, _, _, rfl, .ty _, ty_of hyy, kit_ty kit_list_int, ⟨_, rfl, iteF ⟨_, rfl, _, _, _, _, _, rfl, .ty _, ty_of hyy, kit_ty kit_list_str, ⟨_, rfl, iteF ?_⟩⟩⟩⟩
        refine ⟨_, rfl, _, _, _, _, _, rfl, .ty _, ty_of hyy, kit_ty kit_list_list, ⟨_, rfl, _, _, _, _, _, rfl, .ty _, ty_of hxx, kit_ty kit_list_list, ⟨rfl, _, rfl, iteF ⟨_, rfl, _, _, _, _, _, rfl, .ty _, ty_of hyy, kit_ty kit_list_tuple, ⟨_, rfl, _, _, _, _, _, rfl, .ty _, ty_of hxx, kit_ty kit_list_tuple, ⟨rfl, _, rfl, iteF ?_⟩⟩⟩⟩⟩⟩
        refine ⟨_, rfl, a, xs, rfl, .inl h1, _, rfl, a2, ys, rfl, .inl h2, rfl, _, rfl, ifT (by rw [l1, l2]) ?_⟩
        refine ⟨_, rfl, _, rfl, a, a2, xs, ys, rfl, .inl ⟨h1, h2, fun D hD => ?_⟩⟩
        refine lc_val (n := ds.length) (walk_zip (xs := xs) (ys := ys) (by rw [l1, l2]; simp)) hD (fun _ => .bl true) (fun H' s' => ⟨s'.seq h1, s'.seq h2⟩) (Nat.lt_trans (deep_list hd).1 (by decide)) (fun i x H1 H' Qe Z hi sm hq hy => ?_) (fun H1 sm hL => ?_)
        · obtain ⟨p, u, v, rfl, np, rfl, e1, e2⟩ := hy
          obtain ⟨d1, g1, k1⟩ := dpa_get t1 e1
          obtain ⟨d2, g2, k2⟩ := dpa_get t2 e2
          have ed : d1 = d2 := Option.some.inj (g1.symm.trans g2)
          subst ed
          have s1 := same_new (o := .tup [u, v]) np
          refine ⟨p, [u, v], rfl, .inl (.inl upd_same), rfl, u, [v], rfl, v, [], rfl, rfl, rfl, yes ?_⟩
          exact ⟨_, rfl, _, rfl, u, v, d1, rfl, dp_mono (sm.trans s1) k1, dp_mono (sm.trans s1) k2, deep_get (deep_list hd).2 g1, fun H4 s4 => hq H4 (s1.trans s4)⟩
        · exact ⟨D, List.replicate ds.length true, rfl, .inl (.inl (by rw [hL, all_true.1])), by rw [all_true.2]; exact q H1 sm⟩
  · cases hx with
    | @tup a xs _ h1 t1 =>
      cases hy with
      | @tup a2 ys _ h2 t2 =>
        have l1 := dpa_len t1
        have l2 := dpa_len t2
        refine ⟨_, rfl, rfl, _, rfl, ifF (fun z => nomatch z) ?_⟩
        refine ⟨_, rfl, _, _, _, _, _, rfl, .ty _, ty_of hyy, kit_ty kit_tuple_bool, ⟨_, rfl, iteF ⟨_, rfl, _, _, _, _, _, rfl, .ty _, ty_of hxx, kit_ty kit_tuple_bool, ⟨_, rfl, iteF ?_⟩⟩⟩⟩
        refine ⟨_, rfl, _, _, _, _, _, rfl, .ty _, ty_of hyy, kit_ty kit_tuple_int, ⟨_, rfl, iteF ⟨_, rfl, _, _, _, _, _, rfl, .ty _, ty_of hyy, kit_ty kit_tuple_str, ⟨_, rfl, iteF ?_⟩⟩⟩⟩
        refine ⟨_, rfl, _, _, _, _, _, rfl, .ty _, ty_of hyy, kit_ty kit_tuple_list, ⟨_, rfl, _, _, _, _, _, rfl, .ty _, ty_of hxx, kit_ty kit_tuple_list, ⟨rfl, _, rfl, iteF ⟨_, rfl, _, _, _, _, _, rfl, .ty _, ty_of hyy, kit_ty kit_tuple_tuple, ⟨_, rfl, _, _, _, _, _, rfl, .ty _, ty_of hxx, kit_ty kit_tuple_tuple, ⟨rfl, _, rfl, iteF ?_⟩⟩⟩⟩⟩⟩
        refine ⟨_, rfl, a, xs, rfl, .inr h1, _, rfl, a2, ys, rfl, .inr h2, rfl, _, rfl, ifT (by rw [l1, l2]) ?_⟩
        refine ⟨_, rfl, _, rfl, a, a2, xs, ys, rfl, .inr ⟨h1, h2, fun D hD => ?_⟩⟩
        refine lc_val (n := ds.length) (walk_zipT (xs := xs) (ys := ys) l1 l2) hD (fun _ => .bl true) (fun H' s' => ⟨Same.seqT s' h1, Same.seqT s' h2⟩) (Nat.lt_trans (deep_tuple hd).1 (by decide)) (fun i x H1 H' Qe Z hi sm hq hy => ?_) (fun H1 sm hL => ?_)
        · obtain ⟨p, u, v, rfl, np, rfl, e1, e2⟩ := hy
          obtain ⟨d1, g1, k1⟩ := dpa_get t1 e1
          obtain ⟨d2, g2, k2⟩ := dpa_get t2 e2
          have ed : d1 = d2 := Option.some.inj (g1.symm.trans g2)
          subst ed
          have s1 := same_new (o := .tup [u, v]) np
          refine ⟨p, [u, v], rfl, .inl (.inl upd_same), rfl, u, [v], rfl, v, [], rfl, rfl, rfl, yes ?_⟩
          exact ⟨_, rfl, _, rfl, u, v, d1, rfl, dp_mono (sm.trans s1) k1, dp_mono (sm.trans s1) k2, deep_get (deep_tuple hd).2 g1, fun H4 s4 => hq H4 (s1.trans s4)⟩
        · exact ⟨D, List.replicate ds.length true, rfl, .inl (.inl (by rw [hL, all_true.1])), by rw [all_true.2]; exact q H1 sm⟩
  · cases hx
  · cases hx
    cases hy
    exact ⟨_, rfl, rfl, _, rfl, ifT rfl ⟨_, rfl, rfl, qq⟩⟩
  · cases hx
    cases hy
    refine ⟨_, rfl, rfl, _, rfl, ifF (fun z => nomatch z) ?_⟩
    refine ⟨_, rfl, _, _, _, _, _, rfl, .ty _, ty_of hyy, kit_ty kit_bool_bool, ⟨_, rfl, iteT ?_⟩⟩
    refine iteT ⟨_, rfl, _, _, _, _, _, rfl, .ty _, ty_of hyy, kit_ty kit_bool_bool, ⟨_, rfl, iteT ⟨_, rfl, _, _, _, _, _, rfl, .ty _, ty_of hxx, kit_ty kit_bool_bool, ⟨_, rfl, iteT ⟨_, rfl, _, rfl, rfl, ?_⟩⟩⟩⟩⟩
    rw [decide_eq_true rfl]
    exact qq
  · cases hx
    cases hy
    refine ⟨_, rfl, rfl, _, rfl, ifF (fun z => nomatch z) ?_⟩
    refine ⟨_, rfl, _, _, _, _, _, rfl, .ty _, ty_of hyy, kit_ty kit_int_bool, ⟨_, rfl, iteF ⟨_, rfl, _, _, _, _, _, rfl, .ty _, ty_of hxx, kit_ty kit_int_bool, ⟨_, rfl, iteF ?_⟩⟩⟩⟩
    refine ⟨_, rfl, _, _, _, _, _, rfl, .ty _, ty_of hyy, kit_ty kit_int_int, ⟨_, rfl, iteT ?_⟩⟩
    refine iteT ⟨_, rfl, _, _, _, _, _, rfl, .ty _, ty_of hxx, kit_ty kit_int_int, ⟨_, rfl, _, _, _, _, _, rfl, .ty _, ty_of hyy, kit_ty kit_int_int, ⟨rfl, _, rfl, ifT rfl ⟨_, rfl, _, _, _, _, _, rfl, .ty _, ty_of hxx, kit_ty kit_int_str, ⟨_, rfl, _, _, _, _, _, rfl, .ty _, ty_of hyy, kit_ty kit_int_str, ⟨rfl, _, rfl, ifT rfl ⟨_, rfl, _, rfl, rfl, ?_⟩⟩⟩⟩⟩⟩⟩
    rw [decide_eq_true rfl]
    exact qq
  · cases hx
    cases hy
    refine ⟨_, rfl, rfl, _, rfl, ifF (fun z => nomatch z) ?_⟩
    refine ⟨_, rfl, _, _, _, _, _, rfl, .ty _, ty_of hyy, kit_ty kit_str_bool, ⟨_, rfl, iteF ⟨_, rfl, _, _, _, _, _, rfl, .ty _, ty_of hxx, kit_ty kit_str_bool, ⟨_, rfl, iteF ?_⟩⟩⟩⟩
    refine ⟨_, rfl, _, _, _, _, _, rfl, .ty _, ty_of hyy, kit_ty kit_str_int, ⟨_, rfl, iteF ⟨_, rfl, _, _, _, _, _, rfl, .ty _, ty_of hyy, kit_ty kit_str_str, ⟨_, rfl, ?_⟩⟩⟩⟩
    refine iteT ⟨_, rfl, _, _, _, _, _, rfl, .ty _, ty_of hxx, kit_ty kit_str_int, ⟨_, rfl, _, _, _, _, _, rfl, .ty _, ty_of hyy, kit_ty kit_str_int, ⟨rfl, _, rfl, ifT rfl ⟨_, rfl, _, _, _, _, _, rfl, .ty _, ty_of hxx, kit_ty kit_str_str, ⟨_, rfl, _, _, _, _, _, rfl, .ty _, ty_of hyy, kit_ty kit_str_str, ⟨rfl, _, rfl, ifT rfl ⟨_, rfl, _, rfl, rfl, ?_⟩⟩⟩⟩⟩⟩⟩
    rw [decide_eq_true rfl]
    exact qq
theorem ok__law_same (T : Txt K mg) {f : Addr} {fd : FuncData} (F : Fun K "_law_same" "_law_same" s__law_same f fd) (b : Binds K fd ["_law_found", "_law_due"] []) (g : mg "_law_same" = some (.ref f)) : ∀ n, FnOk P w K mg base CX0 n f fd ["_law_found", "_law_due"] (sp_same K n)
  | 0 => by
    have no : ∀ vs H Q E, ¬ sp_same K 0 vs H Q E := fun vs H Q E h => by
      obtain ⟨x, y, d, _, _, _, hd, _⟩ := h
      rw [deep_zero] at hd
      cases hd
    exact ⟨fun vs H Q E h => absurd h (no vs H Q E), fun A outer s H args us vs Q E _ _ _ _ h => absurd h (no vs H Q E)⟩
  | n + 1 => ok__law_same_step T F (ok__law_same T F b g n) b g
theorem ok_law {f : Addr} {fd : FuncData} (T : Txt K mg) (F : Fun K "law" "law" s_law f fd) : FnOk P w K mg base CX0 9 f fd ["_law_script"] (sp_law K) := by
  obtain ⟨f__law_bag, fd__law_bag, F__law_bag, b__law_bag, g__law_bag⟩ := T.h__law_bag
  obtain ⟨f__law_same, fd__law_same, F__law_same, b__law_same, g__law_same⟩ := T.h__law_same
  obtain ⟨f__law_pull, fd__law_pull, F__law_pull, b__law_pull, g__law_pull⟩ := T.h__law_pull
  obtain ⟨f__law_is_name, fd__law_is_name, F__law_is_name, b__law_is_name, g__law_is_name⟩ := T.h__law_is_name
  obtain ⟨f__law_is_value, fd__law_is_value, F__law_is_value, b__law_is_value, g__law_is_value⟩ := T.h__law_is_value
  obtain ⟨f_is_name, fd_is_name, F_is_name, b_is_name, g_is_name, kb_is_name⟩ := T.h_is_name
  obtain ⟨f_is_value, fd_is_value, F_is_value, b_is_value, g_is_value, kb_is_value⟩ := T.h_is_value
  obtain ⟨f__law_of, fd__law_of, F__law_of, b__law_of, g__law_of⟩ := T.h__law_of
  have G__law_bag := ok__law_bag (P := P) (w := w) (base := base) T F__law_bag
  have G__law_pull := ok__law_pull (P := P) (w := w) (base := base) T F__law_pull
  have G__law_of := ok__law_ofS (P := P) (w := w) (base := base) T F__law_of
  have G__law_same := ok__law_same (P := P) (w := w) (base := base) T F__law_same b__law_same g__law_same 2
  have G__law_is_name := ok__law_is_name (P := P) (w := w) (base := base) T F__law_is_name
  have G__law_is_value := ok__law_is_value (P := P) (w := w) (base := base) T F__law_is_value
  have G_is_name := ok_is_name (P := P) (w := w) (base := base) T F_is_name
  have G_is_value := ok_is_value (P := P) (w := w) (base := base) T F_is_value
  refine F.ok sc_law (fun vs H Q E h => ?_) (fun cdv A outer s H vs Q E hr h => ?_)
  · obtain ⟨a, ns, rfl, _⟩ := h
    rfl
  obtain ⟨a, ns, rfl, hS, hn, q⟩ := h
  have hr__law_bag : Room 1 _ := hr.mono (by decide)
  have hr__law_pull : Room 1 _ := hr.mono (by decide)
  have hr__law_of : Room 2 _ := hr.mono (by decide)
  have hr__law_same : Room 2 _ := hr.mono (by decide)
  have hr__law_is_name : Room 1 _ := hr.mono (by decide)
  have hr__law_is_value : Room 1 _ := hr.mono (by decide)
  have hr_is_name : Room 2 _ := hr.mono (by decide)
  have hr_is_value : Room 2 _ := hr.mono (by decide)
  refine ⟨_, (pss_cons (ps_set (i := 1) sc_law.nd rfl (.inr rfl) (pe_call G__law_bag hr__law_bag (by rfl) g__law_bag F__law_bag.kp b__law_bag .nil pass0 (pa_cons (pv 0) pa_nil)))
      (pss_cons (ps_set (i := 2) sc_law.nd rfl (.inr rfl) pe_str)
      (pss_cons (ps_for PassesOwn.never rfl (pi_range1 (by rfl) T.m_range (pa_cons pe_int pa_nil)) (pg_name (i := 3) sc_law.nd rfl (.inl rfl)) (pss_cons (ps_set (i := 4) sc_law.nd rfl (.inl rfl) (pe_join pe_str (pe_lc (own := [("_law_k", 8)]) (g := gName 8) (by rfl) sc_law.nd (pi_range1 (by rfl) T.m_range (pa_cons (pe_call G__law_pull hr__law_pull (by rfl) g__law_pull F__law_pull.kp b__law_pull .nil pass0 (pa_cons (pv 1) (pa_cons pe_int pa_nil))) pa_nil)) (blkOk_by (own := [("_law_k", 8)]) (N := N_law) (sc := defScope s_law) (by decide +kernel)) (fun _ _ _ _ _ => pg_name (i := 8) sc_law.nd rfl (.inl rfl)) (fun _ _ _ _ _ => pts_nil) (fun _ _ _ _ _ => (pe_call G__law_of hr__law_of (by rfl) g__law_of F__law_of.kp b__law_of .nil pass0 (pa_cons (pv 1) (pa_cons (pe_slice sl_str (pv 2) po_none (po_some pe_int)) pa_nil)))))))
      (pss_cons (ps_for PassesOwn.never rfl (pi_range1 (by rfl) T.m_range (pa_cons (pe_call G__law_pull hr__law_pull (by rfl) g__law_pull F__law_pull.kp b__law_pull .nil pass0 (pa_cons (pv 1) (pa_cons pe_int pa_nil))) pa_nil)) (pg_name (i := 5) sc_law.nd rfl (.inl rfl)) (pss_cons (ps_set (i := 7) sc_law.nd rfl (.inl rfl) (pe_call G__law_pull hr__law_pull (by rfl) g__law_pull F__law_pull.kp b__law_pull .nil pass0 (pa_cons (pv 1) (pa_cons (pe_op op_add (pe_callB call_len_str (by rfl) T.m_len PySem.boot_len (pa_cons (pv 4) pa_nil)) pe_int) pa_nil))))
      (pss_one (ps_set (i := 4) sc_law.nd rfl (.inl rfl) (pe_op op_add_str (pe_op op_add_str (pe_slice sl_str (pv 4) po_none (po_some (pv 7))) (pe_call G__law_of hr__law_of (by rfl) g__law_of F__law_of.kp b__law_of .nil pass0 (pa_cons (pv 1) (pa_cons (pv 2) pa_nil)))) (pe_slice sl_str (pv 4) (po_some (pe_op op_add (pv 7) (pe_call G__law_pull hr__law_pull (by rfl) g__law_pull F__law_pull.kp b__law_pull .nil pass0 (pa_cons (pv 1) (pa_cons pe_int pa_nil))))) po_none))))))
      (pss_cons (ps_set (i := 6) sc_law.nd rfl (.inl rfl) (pe_lst (pa_cons (pe_call G__law_is_name hr__law_is_name (by rfl) g__law_is_name F__law_is_name.kp b__law_is_name .nil pass0 (pa_cons (pv 4) pa_nil)) (pa_cons (pe_call G__law_is_value hr__law_is_value (by rfl) g__law_is_value F__law_is_value.kp b__law_is_value .nil pass0 (pa_cons (pv 4) pa_nil)) pa_nil))))
      (pss_one (ps_if (pt_not (pt_val (pe_call G__law_same hr__law_same (by rfl) g__law_same F__law_same.kp b__law_same .nil pass0 (pa_cons (pe_lst (pa_cons (pe_call G_is_name hr_is_name (by rfl) g_is_name F_is_name.kp b_is_name .nil pass0 (pa_cons (pv 4) pa_nil)) (pa_cons (pe_call G_is_value hr_is_value (by rfl) g_is_value F_is_value.kp b_is_value .nil pass0 (pa_cons (pv 4) pa_nil)) (pa_cons (pe_kw G_is_name hr_is_name (by rfl) g_is_name F_is_name.kp kb_is_name pass0 (pk_cons (pv 4) pk_nil)) (pa_cons (pe_kw G_is_value hr_is_value (by rfl) g_is_value F_is_value.kp kb_is_value pass0 (pk_cons (pv 4) pk_nil)) pa_nil))))) (pa_cons (pe_op op_cat (pv 6) (pv 6)) pa_nil))))) (pss_one (ps_ret pe_bl)) pss_nil))))))
      (pss_one (ps_ret (pe_call G__law_same hr__law_same (by rfl) g__law_same F__law_same.kp b__law_same .nil pass0 (pa_cons (pe_lst (pa_cons (pe_call G_is_name hr_is_name (by rfl) g_is_name F_is_name.kp b_is_name .nil pass0 (pa_cons pe_str pa_nil)) (pa_cons (pe_call G_is_value hr_is_value (by rfl) g_is_value F_is_value.kp b_is_value .nil pass0 (pa_cons pe_str pa_nil)) (pa_cons (pe_call G_is_value hr_is_value (by rfl) g_is_value F_is_value.kp b_is_value .nil pass0 (pa_cons pe_str pa_nil)) (pa_cons (pe_call G_is_name hr_is_name (by rfl) g_is_name F_is_name.kp b_is_name .nil pass0 (pa_cons (pe_op op_repS pe_str pe_int) pa_nil)) (pa_cons (pe_gv (by rfl) T.c_MAX_NAME) pa_nil)))))) (pa_cons (pe_lst (pa_cons pe_bl (pa_cons pe_bl (pa_cons pe_bl (pa_cons pe_bl (pa_cons pe_int pa_nil)))))) pa_nil)))))))), ?_⟩
  refine ⟨_, rfl, a, ns, rfl, hS, hn, fun b l H1 hb _ _ => ?_⟩
  refine ⟨12, rfl, by decide, by decide, for_it (walk_range (lo := 0) (n := 12)) (fun i σ H => ∃ x3 x4 x5 x6 x7, σ = [some (.ref a), some (.ref b), some (.str "abcdefghijklmnopqrstuvwxyz0123456789AZ _-~\n"), x3, x4, x5, x6, x7, none] ∧ Bag H b l) ⟨none, none, none, none, none, rfl, hb⟩ (fun _ _ _ _ _ => trivial) (fun i x σ H2 H' hi hI hy => ?_) (fun σ H2 hI => ?_)⟩
  · obtain ⟨x3, x4, x5, x6, x7, rfl, hb2⟩ := hI
    obtain ⟨rfl, rfl⟩ := hy
    refine ⟨⟨_, rfl⟩, _, rfl, b, l, 10, rfl, hb2, by decide, by decide, fun d H3 d0 d1 bx3 => ⟨d, rfl, by omega, by omega, fun D hD => ?_⟩⟩
    refine lc_bag (walk_range (lo := 0) (n := d.toNat)) [b] List.mem_cons_self bx3.bag hD (fun y _ => ∃ c, y = .str ⟨#[c]⟩) (fun _ _ _ _ h => h) (fun _ _ => trivial) (by omega) (fun i x H4 H5 Qe Z hi bx4 sm hDl hq hy => ?_) (fun H4 ys bx4 hl hD4 hp => ?_)
    · obtain ⟨rfl, rfl⟩ := hy
      refine ⟨rfl, yes ?_⟩
      refine ⟨_, rfl, _, rfl, 26, rfl, _, rfl, by decide, b, l, _, rfl, bx4.bag, by decide, by decide, fun c H6 hc bx6 => hq _ H6 bx6 ⟨c, rfl⟩⟩
    · obtain ⟨ss, rfl, hsl, h1⟩ := strs_of hp
      have hlen : ss.length ≤ 9 := by omega
      have hj := PySem.W.KT.join_ones ss h1
      refine ⟨_, D, ss, rfl, rfl, .inl (SqL.of hD4), by rw [sum_ones h1]; show ss.length + ss.length * 0 ≤ 16777216; omega, ?_⟩
      have bx := bx3.trans bx4
      -- the bends
      refine ⟨_, rfl, b, l, 3, rfl, bx.bag, by decide, by decide, fun d2 H5 d20 d21 bx5 => ⟨d2, rfl, by omega, by omega, ?_⟩⟩
      refine for_it (walk_range (lo := 0) (n := d2.toNat)) (fun i σ H => ∃ x3 x5 x6 x7 z, σ = [some (.ref a), some (.ref b), some (.str "abcdefghijklmnopqrstuvwxyz0123456789AZ _-~\n"), x3, some (.str z), x5, x6, x7, none] ∧ Bag H b l ∧ z.length + 1 ≤ 11 * 2 ^ i) ⟨_, _, _, _, _, rfl, bx5.bag, by rw [hj]; show ss.length + 1 ≤ 11 * 1; omega⟩ (fun _ _ _ _ _ => trivial) (fun i x σ H6 H7 hi hI hy => ?_) (fun σ H6 hI => ?_)
      · obtain ⟨x3, x5, x6, x7, z, rfl, hb6, hz⟩ := hI
        obtain ⟨rfl, rfl⟩ := hy
        have hi2 : i = 0 ∨ i = 1 := by omega
        have hz2 : z.length ≤ 21 := by
          rcases hi2 with rfl | rfl <;> omega
        have hzs : z.length ≤ sizeLine := szl (by omega)
        have c1 := cutS_length z
        refine ⟨_, rfl, _, rfl, z, rfl, hzs, _, _, rfl, rfl, b, l, _, rfl, hb6, by omega, by omega, fun at_ H8 a0 a1 bx8 => ?_⟩
        refine ⟨_, rfl, _, rfl, at_, rfl, z, rfl, hzs, _, rfl, _, rfl, b, l, _, rfl, bx8.bag, by decide, by decide, fun c H9 hc bx9 => ⟨_, _, rfl, rfl, szl (by have := c1 none (some at_); show _ + 1 ≤ _; omega), ?_⟩⟩
        refine ⟨_, rfl, _, rfl, _, rfl, b, l, 2, rfl, bx9.bag, by decide, by decide, fun k H10 k0 k1 bx10 => ⟨_, _, rfl, rfl, _, rfl, z, rfl, hzs, ?_⟩⟩
        have l1 := c1 none (some at_)
        have l2 := c1 (some (at_ + k)) none
        have l3 : (cutS z none (some at_) ++ ⟨#[c]⟩).length = (cutS z none (some at_)).length + 1 := strLen_append _ _
        have l4 : ((cutS z none (some at_) ++ ⟨#[c]⟩) ++ cutS z (some (at_ + k)) none).length = (cutS z none (some at_) ++ ⟨#[c]⟩).length + (cutS z (some (at_ + k)) none).length := strLen_append _ _
        refine ⟨_, _, rfl, rfl, szl (by omega), ?_⟩
        refine ⟨_, _, _, _, _, rfl, bx10.bag, ?_⟩
        rw [l4, l3, Nat.pow_succ]
        omega
      · obtain ⟨x3, x5, x6, x7, z, rfl, hb6, hz⟩ := hI
        have hz2 : z.length ≤ 43 := by
          have hd : d2.toNat = 0 ∨ d2.toNat = 1 ∨ d2.toNat = 2 := by omega
          rcases hd with e | e | e <;> rw [e] at hz <;> omega
        have hz3 : z.length ≤ 50000 := by omega
        -- due
        refine ⟨_, rfl, z, rfl, hz3, fun H7 s7 => ⟨_, rfl, z, rfl, hz3, fun H8 s8 => ⟨by show 2 ≤ sizeLine; decide, fun p hp => ?_⟩⟩⟩
        have sp := same_new (o := .lst [.bl (consists z nameC), .bl (consists z valueC)]) hp
        -- found
        refine ⟨_, rfl, z, rfl, hz3, fun H9 s9 => ⟨_, rfl, z, rfl, hz3, fun H10 s10 => ⟨_, rfl, z, rfl, hz3, fun H11 s11 => ⟨_, rfl, z, rfl, hz3, fun H12 s12 => ⟨by show 4 ≤ sizeLine; decide, fun p2 hp2 => ?_⟩⟩⟩⟩⟩
        have sA := ((s9.trans s10).trans s11).trans s12
        have sq := same_new (o := .lst [.bl (consists z nameC), .bl (consists z valueC), .bl (consists z nameC), .bl (consists z valueC)]) hp2
        have hpp := sq _ _ (sA _ _ (upd_same (H := H8) (a := p) (o := .lst [.bl (consists z nameC), .bl (consists z valueC)])))
        refine ⟨_, rfl, _, rfl, p, p, _, _, rfl, rfl, hpp, hpp, by show 4 ≤ sizeLine; decide, fun p3 hp3 => ?_⟩
        have sr := same_new (o := .lst [.bl (consists z nameC), .bl (consists z valueC), .bl (consists z nameC), .bl (consists z valueC)]) hp3
        have bls := fun H => dl_bls (K := K) (H := H) [consists z nameC, consists z valueC, consists z nameC, consists z valueC]
        refine ⟨_, _, .list ([consists z nameC, consists z valueC, consists z nameC, consists z valueC].map PyData.bool), rfl, .lst (SqL.of (sr _ _ upd_same)) (bls _), .lst (SqL.of upd_same) (bls _), rfl, fun H13 s13 => ⟨_, rfl, iteF ?_⟩⟩
        refine ⟨_, _, _, _, _, rfl, ?_⟩
        exact hb6.ofSame (((((((s7.trans s8).trans sp).trans sA).trans sq).trans sr)).trans s13)
  · obtain ⟨x3, x4, x5, x6, x7, rfl, hb2⟩ := hI
    refine ⟨"", rfl, by decide, fun H3 s3 => ⟨"", rfl, by decide, fun H4 s4 => ⟨"0", rfl, by decide, fun H5 s5 => ⟨_, _, rfl, rfl, by decide, by decide, by decide, _, rfl, by decide, fun H6 s6 => ⟨by show 5 ≤ sizeLine; decide, fun p hp => ⟨by show 5 ≤ sizeLine; decide, fun p2 hp2 => ?_⟩⟩⟩⟩⟩⟩
    have e1 : consists "" nameC = false := by decide
    have e2 : consists "" valueC = false := by decide
    have e3 : consists "0" valueC = true := by decide
    have e4 : consists (Txt.mul "a" 8) nameC = true := by decide
    have sq := same_new (o := .lst [.bl false, .bl false, .bl true, .bl true, .int 8]) hp2
    have dat : ∀ H, DpAll K H [.bl false, .bl false, .bl true, .bl true, .int 8] [.bool false, .bool false, .bool true, .bool true, .int 8] := fun H => .cons (.bl _) (.cons (.bl _) (.cons (.bl _) (.cons (.bl _) (.cons (.int _) .nil))))
    refine ⟨_, _, .list [.bool false, .bool false, .bool true, .bool true, .int 8], rfl, .lst (SqL.of (sq _ _ (by rw [upd_same, e1, e2, e3, e4]))) (dat _), .lst (SqL.of upd_same) (dat _), rfl, fun H7 s7 => q _⟩
end
theorem all_mk {l : PySem.W.OpenLaw} {w : World} {K : PySem.W.Frag} {h : Heap} {mg : Str → Option Value} {fa : Addr} (X : K.In h) (G : h.Ns mainGlobals mg) (hfa : mg "law" = some (.ref fa))
    {f0 : Addr} {od0 an0 : Option Addr} {sl0 : Array (Option Value)} {oc0 kV0 dc0 pm0 cd0 ct0 : Value}
    (a0 : PySem.W.nsIn K mainGlobals "consists_of" = some (some (.ref f0))) (l0 : K.lookup f0 = some ⟨oc0, od0, .func (PySem.W.fnOf "consists_of" "consists_of" (defArgs s_consists_of) (defBody s_consists_of) (defScope s_consists_of) .none kV0 dc0 pm0 an0 cd0 ct0), sl0⟩) (c0 : PySem.W.codeIn K cd0 "consists_of" = true) (k0 : PySem.W.keepIn K (.ref f0) = true)
    {f1 : Addr} {od1 an1 : Option Addr} {sl1 : Array (Option Value)} {oc1 kV1 dc1 pm1 cd1 ct1 : Value}
    (a1 : PySem.W.nsIn K mainGlobals "is_name" = some (some (.ref f1))) (l1 : K.lookup f1 = some ⟨oc1, od1, .func (PySem.W.fnOf "is_name" "is_name" (defArgs s_is_name) (defBody s_is_name) (defScope s_is_name) .none kV1 dc1 pm1 an1 cd1 ct1), sl1⟩) (c1 : PySem.W.codeIn K cd1 "is_name" = true) (k1 : PySem.W.keepIn K (.ref f1) = true)
    {f2 : Addr} {od2 an2 : Option Addr} {sl2 : Array (Option Value)} {oc2 kV2 dc2 pm2 cd2 ct2 : Value}
    (a2 : PySem.W.nsIn K mainGlobals "is_value" = some (some (.ref f2))) (l2 : K.lookup f2 = some ⟨oc2, od2, .func (PySem.W.fnOf "is_value" "is_value" (defArgs s_is_value) (defBody s_is_value) (defScope s_is_value) .none kV2 dc2 pm2 an2 cd2 ct2), sl2⟩) (c2 : PySem.W.codeIn K cd2 "is_value" = true) (k2 : PySem.W.keepIn K (.ref f2) = true)
    {f3 : Addr} {od3 an3 : Option Addr} {sl3 : Array (Option Value)} {oc3 kV3 dc3 pm3 cd3 ct3 : Value}
    (a3 : PySem.W.nsIn K mainGlobals "_law_bag" = some (some (.ref f3))) (l3 : K.lookup f3 = some ⟨oc3, od3, .func (PySem.W.fnOf "_law_bag" "_law_bag" (defArgs s__law_bag) (defBody s__law_bag) (defScope s__law_bag) .none kV3 dc3 pm3 an3 cd3 ct3), sl3⟩) (c3 : PySem.W.codeIn K cd3 "_law_bag" = true) (k3 : PySem.W.keepIn K (.ref f3) = true)
    {f4 : Addr} {od4 an4 : Option Addr} {sl4 : Array (Option Value)} {oc4 kV4 dc4 pm4 cd4 ct4 : Value}
    (a4 : PySem.W.nsIn K mainGlobals "_law_pull" = some (some (.ref f4))) (l4 : K.lookup f4 = some ⟨oc4, od4, .func (PySem.W.fnOf "_law_pull" "_law_pull" (defArgs s__law_pull) (defBody s__law_pull) (defScope s__law_pull) .none kV4 dc4 pm4 an4 cd4 ct4), sl4⟩) (c4 : PySem.W.codeIn K cd4 "_law_pull" = true) (k4 : PySem.W.keepIn K (.ref f4) = true)
    {f5 : Addr} {od5 an5 : Option Addr} {sl5 : Array (Option Value)} {oc5 kV5 dc5 pm5 cd5 ct5 : Value}
    (a5 : PySem.W.nsIn K mainGlobals "_law_of" = some (some (.ref f5))) (l5 : K.lookup f5 = some ⟨oc5, od5, .func (PySem.W.fnOf "_law_of" "_law_of" (defArgs s__law_of) (defBody s__law_of) (defScope s__law_of) .none kV5 dc5 pm5 an5 cd5 ct5), sl5⟩) (c5 : PySem.W.codeIn K cd5 "_law_of" = true) (k5 : PySem.W.keepIn K (.ref f5) = true)
    {f6 : Addr} {od6 an6 : Option Addr} {sl6 : Array (Option Value)} {oc6 kV6 dc6 pm6 cd6 ct6 : Value}
    (a6 : PySem.W.nsIn K mainGlobals "_law_same" = some (some (.ref f6))) (l6 : K.lookup f6 = some ⟨oc6, od6, .func (PySem.W.fnOf "_law_same" "_law_same" (defArgs s__law_same) (defBody s__law_same) (defScope s__law_same) .none kV6 dc6 pm6 an6 cd6 ct6), sl6⟩) (c6 : PySem.W.codeIn K cd6 "_law_same" = true) (k6 : PySem.W.keepIn K (.ref f6) = true)
    {f7 : Addr} {od7 an7 : Option Addr} {sl7 : Array (Option Value)} {oc7 kV7 dc7 pm7 cd7 ct7 : Value}
    (a7 : PySem.W.nsIn K mainGlobals "_law_is_name" = some (some (.ref f7))) (l7 : K.lookup f7 = some ⟨oc7, od7, .func (PySem.W.fnOf "_law_is_name" "_law_is_name" (defArgs s__law_is_name) (defBody s__law_is_name) (defScope s__law_is_name) .none kV7 dc7 pm7 an7 cd7 ct7), sl7⟩) (c7 : PySem.W.codeIn K cd7 "_law_is_name" = true) (k7 : PySem.W.keepIn K (.ref f7) = true)
    {f8 : Addr} {od8 an8 : Option Addr} {sl8 : Array (Option Value)} {oc8 kV8 dc8 pm8 cd8 ct8 : Value}
    (a8 : PySem.W.nsIn K mainGlobals "_law_is_value" = some (some (.ref f8))) (l8 : K.lookup f8 = some ⟨oc8, od8, .func (PySem.W.fnOf "_law_is_value" "_law_is_value" (defArgs s__law_is_value) (defBody s__law_is_value) (defScope s__law_is_value) .none kV8 dc8 pm8 an8 cd8 ct8), sl8⟩) (c8 : PySem.W.codeIn K cd8 "_law_is_value" = true) (k8 : PySem.W.keepIn K (.ref f8) = true)
    {f9 : Addr} {od9 an9 : Option Addr} {sl9 : Array (Option Value)} {oc9 kV9 dc9 pm9 cd9 ct9 : Value}
    (a9 : PySem.W.nsIn K mainGlobals "law" = some (some (.ref f9))) (l9 : K.lookup f9 = some ⟨oc9, od9, .func (PySem.W.fnOf "law" "law" (defArgs s_law) (defBody s_law) (defScope s_law) .none kV9 dc9 pm9 an9 cd9 ct9), sl9⟩) (c9 : PySem.W.codeIn K cd9 "law" = true) (k9 : PySem.W.keepIn K (.ref f9) = true)
    (z0 : PySem.W.nsIn K mainGlobals "all" = some none)
    (z1 : PySem.W.nsIn K mainGlobals "len" = some none)
    (z2 : PySem.W.nsIn K mainGlobals "list" = some none)
    (z3 : PySem.W.nsIn K mainGlobals "abs" = some none)
    (z4 : PySem.W.nsIn K mainGlobals "zip" = some none)
    (z5 : PySem.W.nsIn K mainGlobals "isinstance" = some none)
    (z6 : PySem.W.nsIn K mainGlobals "tuple" = some none)
    (z7 : PySem.W.nsIn K mainGlobals "str" = some none)
    (z8 : PySem.W.nsIn K mainGlobals "int" = some none)
    (z9 : PySem.W.nsIn K mainGlobals "bool" = some none)
    (z10 : PySem.W.nsIn K mainGlobals "range" = some none)
    {t0 : Tok} (e0 : PySem.W.nsIn K mainGlobals "MAX_NAME" = some (some (.int 8 t0)))
    {t1 : Tok} (e1 : PySem.W.nsIn K mainGlobals "NAME_CHARACTERS" = some (some (.str "abcdefghijklmnopqrstuvwxyz" t1)))
    {t2 : Tok} (e2 : PySem.W.nsIn K mainGlobals "VALUE_CHARACTERS" = some (some (.str "abcdefghijklmnopqrstuvwxyz0123456789" t2)))
    : ∃ fd : FuncData, (∀ (s : Shared) (v : Value), BindsTo s fd ⟨[v], []⟩ [("_law_script", v)]) ∧ ∀ base : Heap, K.In base → base.Ns mainGlobals mg → FnOk l.prog w K mg base CX0 9 fa fd ["_law_script"] (sp_law K) := by
  have e := hfa.symm.trans (PySem.W.mg_of X G a9)
  cases e
  have F0 := fun_mk (st := s_consists_of) l0 c0 k0
  have b0 := F0.binds (ps := ["text", "characters"]) fun _ _ _ _ _ _ us hl => match us, hl with | [_, _], _ => rfl
  have F1 := fun_mk (st := s_is_name) l1 c1 k1
  have b1 := F1.binds (ps := ["text"]) fun _ _ _ _ _ _ us hl => match us, hl with | [_], _ => rfl
  have q1 : KwB _ ["text"] ["text"] := kb_of F1 fun _ _ _ _ _ _ us hl => match us, hl with | [_], _ => rfl
  have F2 := fun_mk (st := s_is_value) l2 c2 k2
  have b2 := F2.binds (ps := ["text"]) fun _ _ _ _ _ _ us hl => match us, hl with | [_], _ => rfl
  have q2 : KwB _ ["text"] ["text"] := kb_of F2 fun _ _ _ _ _ _ us hl => match us, hl with | [_], _ => rfl
  have F3 := fun_mk (st := s__law_bag) l3 c3 k3
  have b3 := F3.binds (ps := ["_law_script"]) fun _ _ _ _ _ _ us hl => match us, hl with | [_], _ => rfl
  have F4 := fun_mk (st := s__law_pull) l4 c4 k4
  have b4 := F4.binds (ps := ["_law_bag_here", "_law_sides"]) fun _ _ _ _ _ _ us hl => match us, hl with | [_, _], _ => rfl
  have F5 := fun_mk (st := s__law_of) l5 c5 k5
  have b5 := F5.binds (ps := ["_law_bag_here", "_law_some"]) fun _ _ _ _ _ _ us hl => match us, hl with | [_, _], _ => rfl
  have F6 := fun_mk (st := s__law_same) l6 c6 k6
  have b6 := F6.binds (ps := ["_law_found", "_law_due"]) fun _ _ _ _ _ _ us hl => match us, hl with | [_, _], _ => rfl
  have F7 := fun_mk (st := s__law_is_name) l7 c7 k7
  have b7 := F7.binds (ps := ["_law_text_z"]) fun _ _ _ _ _ _ us hl => match us, hl with | [_], _ => rfl
  have F8 := fun_mk (st := s__law_is_value) l8 c8 k8
  have b8 := F8.binds (ps := ["_law_text_z"]) fun _ _ _ _ _ _ us hl => match us, hl with | [_], _ => rfl
  have F9 := fun_mk (st := s_law) l9 c9 k9
  have T : Txt K mg := {
    m_all := PySem.W.mg_none_of X G z0,
    m_len := PySem.W.mg_none_of X G z1,
    m_list := PySem.W.mg_none_of X G z2,
    m_abs := PySem.W.mg_none_of X G z3,
    m_zip := PySem.W.mg_none_of X G z4,
    m_isinstance := PySem.W.mg_none_of X G z5,
    m_tuple := PySem.W.mg_none_of X G z6,
    m_str := PySem.W.mg_none_of X G z7,
    m_int := PySem.W.mg_none_of X G z8,
    m_bool := PySem.W.mg_none_of X G z9,
    m_range := PySem.W.mg_none_of X G z10,
    c_MAX_NAME := ⟨_, PySem.W.mg_of X G e0, ⟨_, rfl⟩⟩,
    c_NAME_CHARACTERS := ⟨_, PySem.W.mg_of X G e1, ⟨_, rfl⟩⟩,
    c_VALUE_CHARACTERS := ⟨_, PySem.W.mg_of X G e2, ⟨_, rfl⟩⟩,
    h_consists_of := ⟨_, _, F0, b0, PySem.W.mg_of X G a0⟩,
    h_is_name := ⟨_, _, F1, b1, PySem.W.mg_of X G a1, q1⟩,
    h_is_value := ⟨_, _, F2, b2, PySem.W.mg_of X G a2, q2⟩,
    h__law_bag := ⟨_, _, F3, b3, PySem.W.mg_of X G a3⟩,
    h__law_pull := ⟨_, _, F4, b4, PySem.W.mg_of X G a4⟩,
    h__law_of := ⟨_, _, F5, b5, PySem.W.mg_of X G a5⟩,
    h__law_same := ⟨_, _, F6, b6, PySem.W.mg_of X G a6⟩,
    h__law_is_name := ⟨_, _, F7, b7, PySem.W.mg_of X G a7⟩,
    h__law_is_value := ⟨_, _, F8, b8, PySem.W.mg_of X G a8⟩ }
  exact ⟨PySem.W.fnOf "law" "law" (defArgs s_law) (defBody s_law) (defScope s_law) .none kV9 dc9 pm9 an9 cd9 ct9, fun s v => .of_eq rfl, fun base _ _ => ok_law T F9⟩
end Hr
open PySem PySem.W PyProof.Rows
set_option maxRecDepth 100000 in
set_option maxHeartbeats 0 in
theorem PySem.Challenge.cw_hiddenrank_k01_names_and_values_holds : PySem.Challenge.rw_hiddenrank_k01_names_and_values.Holds := by
  w_on; o_law; k_head; (case hw => w_witness2)
  k_fill
  refine L2.walk_ofK (l := PySem.Challenge.rw_hiddenrank_k01_names_and_values) (n := 63) (k := 9) (x := "_law_script") (CX := L2.CX0) (sp := Hr.sp_law) rfl (by decide) rfl ⟨rfl, by decide, by decide⟩ (fun w h Y => PySem.W.kIn_of Y) ?F (fun _ _ a ns hl _ hS => ⟨a, ns, rfl, hS, hl, fun _ => rfl⟩) (fun _ _ _ _ h => h)
  case F =>
    intro w mg fa h KX G hmg
    refine' Hr.all_mk KX G hmg ?a0 ?l0 ?c0 ?k0 ?a1 ?l1 ?c1 ?k1 ?a2 ?l2 ?c2 ?k2 ?a3 ?l3 ?c3 ?k3 ?a4 ?l4 ?c4 ?k4 ?a5 ?l5 ?c5 ?k5 ?a6 ?l6 ?c6 ?k6 ?a7 ?l7 ?c7 ?k7 ?a8 ?l8 ?c8 ?k8 ?a9 ?l9 ?c9 ?k9 ?z0 ?z1 ?z2 ?z3 ?z4 ?z5 ?z6 ?z7 ?z8 ?z9 ?z10 ?e0 ?e1 ?e2
    (case a0 => k_is)
    (case l0 => k_is)
    (case c0 => k_is)
    (case k0 => k_is)
    (case a1 => k_is)
    (case l1 => k_is)
    (case c1 => k_is)
    (case k1 => k_is)
    (case a2 => k_is)
    (case l2 => k_is)
    (case c2 => k_is)
    (case k2 => k_is)
    (case a3 => k_is)
    (case l3 => k_is)
    (case c3 => k_is)
    (case k3 => k_is)
    (case a4 => k_is)
    (case l4 => k_is)
    (case c4 => k_is)
    (case k4 => k_is)
    (case a5 => k_is)
    (case l5 => k_is)
    (case c5 => k_is)
    (case k5 => k_is)
    (case a6 => k_is)
    (case l6 => k_is)
    (case c6 => k_is)
    (case k6 => k_is)
    (case a7 => k_is)
    (case l7 => k_is)
    (case c7 => k_is)
    (case k7 => k_is)
    (case a8 => k_is)
    (case l8 => k_is)
    (case c8 => k_is)
    (case k8 => k_is)
    (case a9 => k_is)
    (case l9 => k_is)
    (case c9 => k_is)
    (case k9 => k_is)
    (case z0 => k_is)
    (case z1 => k_is)
    (case z2 => k_is)
    (case z3 => k_is)
    (case z4 => k_is)
    (case z5 => k_is)
    (case z6 => k_is)
    (case z7 => k_is)
    (case z8 => k_is)
    (case z9 => k_is)
    (case z10 => k_is)
    (case e0 => k_is)
    (case e1 => k_is)
    (case e2 => k_is)
