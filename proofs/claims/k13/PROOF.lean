import PyProof.Rows.All
import Wide.All
import OpenK.AllK
import Wide.FinOn
import PyProof.EqAt
import PyProof.EqKinds
import PyProof.TupleCall
import HandS.ForMost
import HandS.Walk
import HandS.Zip
import HandS.IsInst
import HandS.Wide
import HandS.Flow
import HandS.Exc
import KE.KxIndex
import KE.KxText
import HandS.Deep
import HandS.SortKw
import HandS.Style
import HandS.TupAny
import KE.DatumOrd
import HandS.Conv
import HandS.Rev
import HandS.Strs
import KE.KDictZip
import KE.KDictItemsList
import HandS.ListItems
import HandS.TryOnly
import PyProof.P3Eq
import KE.GoesEnum
import PySem.Challenge.RW_hiddenrank_k13_conditions_and_requests
set_option Elab.async false
set_option linter.all false
set_option maxRecDepth 100000
set_option maxHeartbeats 4000000
/-! general words: heaps, a frame rule for calls, data under growing heaps -/
namespace Hr
open PySem PySem.Spec PyProof.Rows L2
/-! ### heaps -/
theorem same_new {H : Hp} {p : Addr} {o : HO} (h : H p = none) : Same H (upd H p o) := fun b u e => by
  rw [upd_ne (ne_of_none e h)]
  exact e
theorem upd_comm {H : Hp} {a b : Addr} {o u : HO} (h : a ≠ b) : upd (upd H a o) b u = upd (upd H b u) a o := by
  funext c
  by_cases e : c = b
  · rw [e, upd_same, upd_ne (Ne.symm h), upd_same]
  · by_cases f : c = a
    · rw [f, upd_ne h, upd_same, upd_same]
    · rw [upd_ne e, upd_ne f, upd_ne f, upd_ne e]
theorem upd_id {H : Hp} {a : Addr} {o : HO} (h : H a = some o) : upd H a o = H := by
  funext c
  by_cases e : c = a
  · rw [e, upd_same, h]
  · rw [upd_ne e]
theorem Same.seqT {K : PySem.W.Frag} {H H' : Hp} {a : Addr} {xs : List V} (e : Same H H') (h : SqT K H a xs) : SqT K H' a xs := by
  rcases h with (h | ⟨o, h⟩) | h
  · exact .inl (.inl (e _ _ h))
  · exact .inl (.inr ⟨o, e _ _ h⟩)
  · exact .inr h
mutual
theorem dp_mono {K : PySem.W.Frag} {H H' : Hp} (e : Same H H') : ∀ {v : V} {d : PyData}, Dp K H v d → Dp K H' v d
  | _, _, .non => .non
  | _, _, .bl b => .bl b
  | _, _, .int i => .int i
  | _, _, .str x => .str x
  | _, _, .lst h t => .lst (e.seq h) (dpa_mono e t)
  | _, _, .tup h t => .tup (Same.seqT e h) (dpa_mono e t)
theorem dpa_mono {K : PySem.W.Frag} {H H' : Hp} (e : Same H H') : ∀ {vs : List V} {ds : List PyData}, DpAll K H vs ds → DpAll K H' vs ds
  | _, _, .nil => .nil
  | _, _, .cons h t => .cons (dp_mono e h) (dpa_mono e t)
end
/-! ### heaps without some lists -/
def dl (H : Hp) (S : List Addr) : Hp := fun a => if a ∈ S then none else H a
theorem dl_at {H : Hp} {S : List Addr} {a : Addr} (h : a ∈ S) : dl H S a = none := by unfold dl; rw [if_pos h]
theorem dl_ne {H : Hp} {S : List Addr} {a : Addr} (h : a ∉ S) : dl H S a = H a := by unfold dl; rw [if_neg h]
theorem dl_nil {H : Hp} : dl H [] = H := by funext a; exact dl_ne (by simp)
theorem dl_some {H : Hp} {S : List Addr} {a : Addr} {o : HO} (h : dl H S a = some o) : a ∉ S ∧ H a = some o := by
  by_cases e : a ∈ S
  · rw [dl_at e] at h; cases h
  · rw [dl_ne e] at h; exact ⟨e, h⟩
theorem dl_le {H : Hp} {S : List Addr} : Same (dl H S) H := fun a o e => (dl_some e).2
theorem dl_sub {H : Hp} {S S' : List Addr} (h : ∀ a ∈ S, a ∈ S') : Same (dl H S') (dl H S) := fun a o e => by
  obtain ⟨h1, h2⟩ := dl_some e
  rw [dl_ne fun z => h1 (h a z)]
  exact h2
theorem dl_mono {H H' : Hp} {S : List Addr} (s : Same H H') : Same (dl H S) (dl H' S) := fun a o e => by
  obtain ⟨h1, h2⟩ := dl_some e
  rw [dl_ne h1]
  exact s a o h2
theorem dl_upd {H : Hp} {S : List Addr} {a : Addr} {o : HO} (h : a ∈ S) : dl (upd H a o) S = dl H S := by
  funext c
  by_cases e : c ∈ S
  · rw [dl_at e, dl_at e]
  · rw [dl_ne e, dl_ne e, upd_ne fun z => e (by rw [z]; exact h)]
theorem dl_new {H : Hp} {S : List Addr} {p : Addr} {o : HO} (h : p ∉ S) : dl (upd H p o) S = upd (dl H S) p o := by
  funext c
  by_cases e : c ∈ S
  · rw [dl_at e, upd_ne fun z => h (by rw [← z]; exact e), dl_at e]
  · rw [dl_ne e]
    by_cases f : c = p
    · rw [f, upd_same, upd_same]
    · rw [upd_ne f, upd_ne f, dl_ne e]
/-- H' with what H has at S -/
def bk (H' H : Hp) (S : List Addr) : Hp := fun a => if a ∈ S then H a else H' a
theorem bk_at {H' H : Hp} {S : List Addr} {a : Addr} (h : a ∈ S) : bk H' H S a = H a := by unfold bk; rw [if_pos h]
theorem bk_ne {H' H : Hp} {S : List Addr} {a : Addr} (h : a ∉ S) : bk H' H S a = H' a := by unfold bk; rw [if_neg h]
theorem dl_bk {H' H : Hp} {S : List Addr} (h : ∀ a ∈ S, H' a = none) : dl (bk H' H S) S = H' := by
  funext c
  by_cases e : c ∈ S
  · rw [dl_at e, h c e]
  · rw [dl_ne e, bk_ne e]
theorem same_bk {H' H : Hp} {S : List Addr} (s : Same (dl H S) H') : Same H (bk H' H S) := fun a o e => by
  by_cases z : a ∈ S
  · rw [bk_at z]; exact e
  · rw [bk_ne z]; exact s a o (by rw [dl_ne z]; exact e)
theorem bk_le {H' H : Hp} {S : List Addr} (h : ∀ a ∈ S, H' a = none) : Same H' (bk H' H S) := fun a o e => by
  by_cases z : a ∈ S
  · rw [h a z] at e; cases e
  · rw [bk_ne z]; exact e
/-! ### the frame rule: tracked lists that the callee is not told of stay as they are -/
def Lists (H : Hp) (S : List Addr) : Prop := ∀ a ∈ S, ∃ xs, H a = some (.lst xs)
theorem Lists.ne {H : Hp} {S : List Addr} (hb : Lists H S) {a : Addr} {o : HO} (h : H a = some o) (d : ∀ xs, o ≠ .lst xs) : a ∉ S := fun z => by
  obtain ⟨xs, e⟩ := hb a z
  rw [h] at e
  exact d xs (Option.some.inj e)
theorem hok_dl {P : Program} {w : World} {H : Hp} {h : Heap} {S : List Addr} (ok : HOk P w H h) (hb : Lists H S) : HOk P w (dl H S) h := fun a o e => by
  refine (ok a o (dl_le _ _ e)).stay (fun _ _ _ q => q) (fun c q => ?_) fun c ys q => ?_
  · rw [dl_ne (hb.ne q fun _ z => by cases z)]; exact q
  · rw [dl_ne (hb.ne q fun _ z => by cases z)]; exact q
theorem env_dl {P : Program} {w : World} {K : PySem.W.Frag} {mg : Str → Option Value} {base : Heap} {A : Around} {outer : List Env} {s : Shared} {H : Hp} {S : List Addr} (E0 : Env0 P w K mg base A outer s H) (hb : Lists H S) :
    Env0 P w K mg base A outer s (dl H S) :=
  ⟨E0.frames, E0.mod, fun c o e => ⟨(E0.bs c o e).1, by
      by_cases z : c ∈ S
      · rw [dl_at z]
      · rw [dl_ne z]; exact (E0.bs c o e).2⟩, E0.bsz, E0.funs, fun c hc => by
      by_cases z : c ∈ S
      · rw [dl_at z]
      · rw [dl_ne z]; exact E0.frf c hc, hok_dl E0.hok hb, E0.bare⟩
/-- the promise with some tracked lists kept aside -/
def framed (sp : Sp) : Sp := fun vs H Q E => ∃ S : List Addr, Lists H S ∧ sp vs (dl H S) (fun v H' => (∀ a ∈ S, H' a = none) → Q v (bk H' H S)) fun c d H' => (∀ a ∈ S, H' a = none) → E c d (bk H' H S)
theorem un_bk {fs : List Addr} {H H' : Hp} {h h' : Heap} {S : List Addr} (u : Un fs [] (dl H S) H' h h') (hb : Lists H S) (ex : ∀ a ∈ S, ∃ o, h.get? a = some o) : (∀ a ∈ S, H' a = none) ∧ Un fs [] H (bk H' H S) h h' := by
  have fr : ∀ a ∈ S, H' a = none := fun a ha => by
    obtain ⟨o, ho⟩ := ex a ha
    exact u.free a o ho (dl_at ha) (by simp)
  have hid : ∀ c, H c = none → dl H S c = none := fun c n => by
    by_cases z : c ∈ S
    · rw [dl_at z]
    · rw [dl_ne z]; exact n
  refine ⟨fr, ⟨fun c q e n hc hx => u.keep c q e (hid c n) hc hx, fun c q e n hc hx => u.slot c q e (hid c n) hc hx, fun c q e n hx => ?_, u.there, fun c ys e => ?_, fun c q v e => ?_, fun c ps e => ?_⟩⟩
  · have z : c ∉ S := fun z => by
      obtain ⟨xs, k⟩ := hb c z
      rw [n] at k; cases k
    rw [bk_ne z]
    exact u.free c q e (hid c n) hx
  · have z := hb.ne e fun _ z => by cases z
    rw [bk_ne z]
    exact u.tups c ys (by rw [dl_ne z]; exact e)
  · have z := hb.ne e fun _ z => by cases z
    rw [bk_ne z]
    exact u.frzs c q v (by rw [dl_ne z]; exact e)
  · have z := hb.ne e fun _ z => by cases z
    rw [bk_ne z]
    exact u.tbls c ps (by rw [dl_ne z]; exact e)
theorem hok_bk {P : Program} {w : World} {H H' : Hp} {h' : Heap} {S : List Addr} (ok : HOk P w H' h') (fr : ∀ a ∈ S, H' a = none) (nb : ∀ a ∈ S, ∀ o, H a = some o → ObjOk P w (bk H' H S) h' a o) : HOk P w (bk H' H S) h' := fun a o e => by
  by_cases z : a ∈ S
  · rw [bk_at z] at e
    exact nb a z o e
  · rw [bk_ne z] at e
    refine (ok a o e).stay (fun _ _ _ q => q) (fun c q => ?_) fun c ys q => ?_
    · rw [bk_ne fun k => by rw [fr c k] at q; cases q]; exact q
    · rw [bk_ne fun k => by rw [fr c k] at q; cases q]; exact q
theorem frame_end {P : Program} {w : World} {K : PySem.W.Frag} {mg : Str → Option Value} {base : Heap} {A : Around} {outer : List Env} {s : Shared} {H H' : Hp} {S : List Addr} {h' : Heap} (e0 : Env0 P w K mg base A outer s H) (hb : Lists H S) (un : Un (frs outer) [] (dl H S) H' s.heap h') (hk : HOk P w H' h') :
    (∀ a ∈ S, H' a = none) ∧ Un (frs outer) [] H (bk H' H S) s.heap h' ∧ HOk P w (bk H' H S) h' := by
  have nf : ∀ a ∈ S, a ∉ frs outer := fun a ha z => by
    have := e0.frf a z
    obtain ⟨xs, k⟩ := hb a ha
    rw [k] at this; cases this
  obtain ⟨fr, un'⟩ := un_bk un hb fun a ha => by
    obtain ⟨xs, k⟩ := hb a ha
    obtain ⟨_, its, n, _, ob⟩ := (show ObjOk P w H s.heap a (.lst xs) from e0.hok a _ k)
    exact ⟨_, ob⟩
  refine ⟨fr, un', hok_bk hk fr fun a ha o e => ?_⟩
  obtain ⟨xs, k⟩ := hb a ha
  rw [k] at e
  cases e
  obtain ⟨zl, its, n, rv, ob⟩ := (show ObjOk P w H s.heap a (.lst xs) from e0.hok a _ k)
  exact ⟨zl, its, n, rv, un.keep a _ ob (dl_at ha) (nf a ha) (by simp)⟩
theorem FnOk.frame {P : Program} {w : World} {K : PySem.W.Frag} {mg : Str → Option Value} {base : Heap} {k : Nat} {f : Addr} {fd : FuncData} {ps : List Str} {sp : Sp} (F : FnOk P w K mg base CX0 k f fd ps sp) : FnOk P w K mg base CX0 k f fd ps (framed sp) := by
  refine ⟨fun vs H Q E ⟨S, _, h⟩ => F.len _ _ _ _ h, fun A outer s H args us vs Q E hr e0 bd vl h => ?_⟩
  obtain ⟨S, hb, h⟩ := h
  have r := F.run A outer s (dl H S) args us vs _ _ hr (env_dl e0 hb) bd vl h
  refine PySem.codeAny_mono r fun R s' q => ?_
  unfold CR at q ⊢
  split at q
  · obtain ⟨v, H', os, ag, un, hk, rl, qq⟩ := q
    obtain ⟨fr, un', hk'⟩ := frame_end e0 hb un hk
    exact ⟨v, _, os, ag, un', hk', rl, qq fr⟩
  · exact q
  · exact q.elim
end Hr

set_option Elab.async false
set_option linter.all false
set_option maxRecDepth 100000
set_option maxHeartbeats 4000000
namespace Hr
open PySem PySem.Spec PyProof.Rows L2
/-! ### a module's constant, a call by keywords alone, a text repeated -/
def Gv (mg : Str → Option Value) (x : Str) (v : V) : Prop := ∃ u, mg x = some u ∧ RelV v u
theorem pe_gv {X : Cx} {x : Str} {pos : Pos} {v : V} (hg : Gl X x) (h : Gv X.mg x v) (hd : (x == ("__debug__" : Str)) = false := by decide) : PE X (.Name x pos) (tC v) := by
  obtain ⟨u, hm, r⟩ := h
  exact pe_glob hg hm r hd
/-- all parameters by their names, in their order -/
structure KwB (fd : FuncData) (ps ks : List Str) : Prop where
  to : ∀ (s : Shared) (us : List Value), us.length = ps.length → BindsTo s fd ⟨[], ks.zip us⟩ (ps.zip us)
def tKw (sp : Sp) (E : XK) (tk : TA) : TE := fun σ H Q => tk σ H fun vs H1 => sp vs H1 Q E
section
variable {X : Cx} {CX : CXT} {k : Nat} {f : Addr} {fd : FuncData} {ps ks : List Str} {sp : Sp} {E : XK} {x : Str} {p pos : Pos} {kws : List Keyword} {tk : TA}
theorem pe_kw (F : FnOk X.prog X.w X.K X.mg X.base CX k f fd ps sp) (hr : Room k X.A) (hg : Gl X x) (hm : X.mg x = some (.ref f)) (hk : PySem.W.keepIn X.K (.ref f) = true) (hb : KwB fd ps ks) (hx : Passes CX X E) (hkw : PK X kws tk)
    (hall : (backToKw pos (keywordEach kws X.env)).all (·.1.isSome) = true := by rfl) (hks : (backToKw pos (keywordEach kws X.env)).filterMap (·.1) = ks := by rfl) (hdb : (x == ("__debug__" : Str)) = false := by decide)
    (hpl : ((backTo pos (starEach [] X.env)).any (·.1) || (backToKw pos (keywordEach kws X.env)).any (·.1.isNone)) = false := by rfl) :
    PE X (.Call (.Name x p) [] kws pos) (tKw sp E tk) := by
  refine ⟨fun pins s σ H Q I h => ?_⟩
  refine wpAny_Call_Name_kw (ld_glob I hg hm ?_ hdb)
  refine PySem.W.callWith_KW0 (h₀ := X.base) I.ok.mod.kin hk hall ?_ hpl
  refine thn (hkw.run pos pins s σ H _ I h) fun us s1 ⟨vs, H1, I1, r, q⟩ => ⟨I1.kIn, ?_⟩
  rw [hks]
  have hl : us.length = ps.length := by rw [← r.length]; exact F.len _ _ _ _ q
  refine wpAny_call (codeAny_mono (F.run X.A X.stack s1 H1 ⟨[], ks.zip us⟩ us vs Q E hr I1.env0 (hb.to s1 us hl) r q) fun r s' hq => ?_)
  cases r with
  | error e => exact hx pins σ H1 s1 e s' I1 hq
  | ok fl =>
    cases fl with
    | ret u => exact I1.after hq
    | next => exact False.elim hq
    | brk => exact False.elim hq
    | cont => exact False.elim hq
def rRepS : R2 := fun x y H Q => ∃ z i, x = .str z ∧ y = .int i ∧ z.length ≤ 16 ∧ 0 ≤ i ∧ i ≤ 1048576 ∧ Q (.str (Txt.mul z i)) H
theorem op_repS : OpR X (binaryOp .Mult) rRepS := by
  intro pins s σ H x y v u Q I rx ry h
  obtain ⟨z, i, rfl, rfl, hz, h0, h1, q⟩ := h
  obtain ⟨t, rfl⟩ := rx
  obtain ⟨t', rfl⟩ := ry
  exact PySem.W.KXi.mul rfl hz (by omega) (by omega) fun t2 k _ _ => ⟨.str (Txt.mul z i), H, I.tok _, ⟨_, rfl⟩, q⟩
end
theorem kb_of {K : PySem.W.Frag} {x qual : Str} {st : Stmt} {f : Addr} {fd : FuncData} {ps ks : List Str} (F : Fun K x qual st f fd)
    (h : ∀ (kV doc pm : Value) (an : Option Addr) (cdv ct : Value) (us : List Value), us.length = ps.length → bindArgs (PySem.W.fnOf x qual (defArgs st) (defBody st) (defScope st) .none kV doc pm an cdv ct) ⟨[], ks.zip us⟩ = pure (ps.zip us)) : KwB fd ps ks := by
  obtain ⟨oc, od, kV, doc, pm, an, cdv, ct, osl, rfl, lk, hcd⟩ := F.ex
  exact ⟨fun s us hl => .of_eq (h kV doc pm an cdv ct us hl)⟩
/-! ### the bag that a script is drawn from: at b, its ints at l -/
def Bag (H : Hp) (b l : Addr) : Prop := ∃ (ns : List Int) (i g s : Int), H b = some (.lst [.ref l, .int i, .int g, .int s]) ∧ H l = some (.lst (ns.map V.int)) ∧ ns.length ≤ 63 ∧ 0 ≤ i ∧ 0 ≤ g ∧ 0 ≤ s ∧ s < 2147483647
theorem Bag.tracked {H : Hp} {b l : Addr} (h : Bag H b l) : ∃ xs, H b = some (.lst xs) := by
  obtain ⟨ns, i, g, s, h, _⟩ := h
  exact ⟨_, h⟩
theorem Bag.ne {H : Hp} {b l : Addr} (h : Bag H b l) : l ≠ b := by
  obtain ⟨ns, i, g, s, h1, h2, _⟩ := h
  refine ne_of h2 h1 fun e => ?_
  cases ns with
  | nil => cases e
  | cons n r => cases (List.cons.inj (HO.lst.inj e)).1
theorem Bag.ne_new {H : Hp} {b l p : Addr} (h : Bag H b l) (hp : H p = none) : p ≠ b := by
  obtain ⟨xs, e⟩ := h.tracked
  exact (ne_of_none e hp).symm
theorem Bag.ne_newl {H : Hp} {b l p : Addr} (h : Bag H b l) (hp : H p = none) : p ≠ l := by
  obtain ⟨ns, i, g, s, h1, h2, _⟩ := h
  exact (ne_of_none h2 hp).symm
theorem Bag.of {H H' : Hp} {b l : Addr} (h : Bag H b l) (h1 : H' b = H b) (h2 : H' l = H l) : Bag H' b l := by
  obtain ⟨ns, i, g, t, hb, hl, r⟩ := h
  exact ⟨ns, i, g, t, by rw [h1]; exact hb, by rw [h2]; exact hl, r⟩
/-- a step: all but the bag is kept, the bag is a bag -/
structure Bx (b l : Addr) (H H' : Hp) : Prop where
  bag : Bag H' b l
  keep : ∀ a o, a ≠ b → H a = some o → H' a = some o
theorem Bx.refl {b l : Addr} {H : Hp} (h : Bag H b l) : Bx b l H H := ⟨h, fun _ _ _ e => e⟩
theorem Bx.trans {b l : Addr} {H H1 H2 : Hp} (x : Bx b l H H1) (y : Bx b l H1 H2) : Bx b l H H2 := ⟨y.bag, fun a o n e => y.keep a o n (x.keep a o n e)⟩
theorem Bx.new {b l p : Addr} {H : Hp} {o : HO} (h : Bag H b l) (hp : H p = none) : Bx b l H (upd H p o) :=
  ⟨h.of (upd_ne (h.ne_new hp).symm) (upd_ne (h.ne_newl hp).symm), fun a u _ e => by rw [upd_ne (ne_of_none e hp)]; exact e⟩
theorem Bx.bagstep {b l : Addr} {H : Hp} {xs : List V} (h : Bag (upd H b (.lst xs)) b l) : Bx b l H (upd H b (.lst xs)) := ⟨h, fun a o n e => by rw [upd_ne n]; exact e⟩
theorem Bx.same {b l : Addr} {H H' : Hp} {S : List Addr} (x : Bx b l H H') (hb : b ∈ S) : Same (dl H S) (dl H' S) := fun a o e => by
  obtain ⟨h1, h2⟩ := dl_some e
  rw [dl_ne h1]
  exact x.keep a o (fun z => h1 (by rw [z]; exact hb)) h2
theorem Bx.free {b l p : Addr} {H H' : Hp} (x : Bx b l H H') (h : H' p = none) : H p = none := by
  cases q : H p with
  | none => rfl
  | some o =>
    rw [x.keep p o (x.bag.ne_new h) q] at h
    cases h
/-- behind a framed call -/
theorem Bx.back {b l : Addr} {H H' : Hp} {S : List Addr} (h : Bag H b l) (hb : b ∈ S) (s : Same (dl H S) H') : Bx b l H (bk H' H S) := by
  have sm := same_bk (H := H) s
  obtain ⟨ns, i, g, t, h1, h2, r⟩ := h
  exact ⟨⟨ns, i, g, t, sm _ _ h1, sm _ _ h2, r⟩, fun a o _ e => sm a o e⟩
theorem Bag.lists {H : Hp} {b l : Addr} (h : Bag H b l) : Lists H [b] := fun a ha => by
  rw [List.mem_singleton.mp ha]
  exact h.tracked
def sp_bag (K : PySem.W.Frag) : Sp := fun vs H Q _ => ∃ (a : Addr) (ns : List Int), vs = [.ref a] ∧ SqL K H a (ns.map V.int) ∧ ns.length ≤ 63 ∧ ∀ b l H', Bag H' b l → H b = none → Same H H' → Q (.ref b) H'
def sp_pull : Sp := fun vs H Q _ => ∃ (b l : Addr) (n : Int), vs = [.ref b, .int n] ∧ Bag H b l ∧ 1 ≤ n ∧ n < 1073741824 ∧ ∀ (d : Int) (H' : Hp), 0 ≤ d → d < n → Bx b l H H' → Q (.int d) H'
/-- _law_of(bag, text) -/
def sp_ofS : Sp := fun vs H Q _ => ∃ (b l : Addr) (z : Str), vs = [.ref b, .str z] ∧ Bag H b l ∧ 1 ≤ z.length ∧ z.length ≤ 100000 ∧ ∀ (c : Nat) (H' : Hp), c ∈ z.cps.toList → Bx b l H H' → Q (.str ⟨#[c]⟩) H'
/-- _law_of(bag, list or tuple) -/
def sp_ofL (K : PySem.W.Frag) : Sp := fun vs H Q _ => ∃ (b l a : Addr) (xs : List V), vs = [.ref b, .ref a] ∧ Bag H b l ∧ (∀ H', Bx b l H H' → SqL K H' a xs ∨ SqT K H' a xs) ∧ 1 ≤ xs.length ∧ xs.length ≤ 100000 ∧ ∀ (x : V) (H' : Hp), x ∈ xs → Bx b l H H' → Q x H'
/-! ### data of one depth -/
mutual
def deep : Nat → PyData → Bool
  | 0, _ => false
  | n + 1, .list ds => decide (ds.length < 50000) && deepAll n ds
  | n + 1, .tuple ds => decide (ds.length < 50000) && deepAll n ds
  | _ + 1, .dict _ => false
  | _ + 1, .str s => PySem.PyData.strOk s
  | _ + 1, _ => true
def deepAll : Nat → List PyData → Bool
  | _, [] => true
  | n, d :: ds => deep n d && deepAll n ds
end
theorem deep_list {n : Nat} {ds : List PyData} (h : deep (n + 1) (.list ds) = true) : ds.length < 50000 ∧ deepAll n ds = true := by
  unfold deep at h
  have := Bool.and_eq_true_iff.mp h
  exact ⟨of_decide_eq_true this.1, this.2⟩
theorem deep_tuple {n : Nat} {ds : List PyData} (h : deep (n + 1) (.tuple ds) = true) : ds.length < 50000 ∧ deepAll n ds = true := by
  unfold deep at h
  have := Bool.and_eq_true_iff.mp h
  exact ⟨of_decide_eq_true this.1, this.2⟩
theorem deep_zero {d : PyData} : deep 0 d = false := by unfold deep; rfl
theorem deep_cases (d : PyData) : (∃ ds, d = .list ds) ∨ (∃ ds, d = .tuple ds) ∨ (∃ ds, d = .dict ds) ∨ d = .none ∨ (∃ b, d = .bool b) ∨ (∃ i, d = .int i) ∨ (∃ x, d = .str x) := by
  cases d <;> simp
/-! ### isinstance of data -/
def tyN : PyData → String
  | .none => "NoneType"
  | .bool _ => "bool"
  | .int _ => "int"
  | .str _ => "str"
  | .list _ => "list"
  | .tuple _ => "tuple"
  | .dict _ => "dict"
theorem ty_of {K : PySem.W.Frag} {H : Hp} {x : V} {d : PyData} (h : Dp K H x d) : TyX K H x (.type (tyN d)) := by
  cases h with
  | non => exact .base .non
  | bl b => exact .base (.bl b)
  | int i => exact .base (.int i)
  | str x => exact .base (.str x)
  | lst h t =>
    rcases h with (h | ⟨o, h⟩) | ⟨o, its, n, h1, h2, _⟩
    · exact .base (.lst h)
    · exact .base (.frz h)
    · exact .kList h1 h2
  | tup h t =>
    rcases h with (h | ⟨o, h⟩) | ⟨o, its, n, h1, h2, _⟩
    · exact .base (.tup h)
    · exact .fTuple h
    · exact .kTuple h1 h2
theorem isi {K : PySem.W.Frag} {H : Hp} {x : V} {d : PyData} {n : String} {r : Bool} {Q : VK} (h : Dp K H x d) (e : kitB (tyN d) n = some r) (q : Q (.bl r) H) : rIsi K [x, .ty n] H Q := ⟨x, .ty n, _, _, r, rfl, .ty n, ty_of h, kit_ty e, q⟩
theorem kit_NoneType_bool : kitB "NoneType" "bool" = some false := by decide +kernel
theorem kit_NoneType_int : kitB "NoneType" "int" = some false := by decide +kernel
theorem kit_NoneType_str : kitB "NoneType" "str" = some false := by decide +kernel
theorem kit_NoneType_list : kitB "NoneType" "list" = some false := by decide +kernel
theorem kit_NoneType_tuple : kitB "NoneType" "tuple" = some false := by decide +kernel
theorem kit_bool_bool : kitB "bool" "bool" = some true := by decide +kernel
theorem kit_bool_int : kitB "bool" "int" = some true := by decide +kernel
theorem kit_bool_str : kitB "bool" "str" = some false := by decide +kernel
theorem kit_bool_list : kitB "bool" "list" = some false := by decide +kernel
theorem kit_bool_tuple : kitB "bool" "tuple" = some false := by decide +kernel
theorem kit_int_bool : kitB "int" "bool" = some false := by decide +kernel
theorem kit_int_int : kitB "int" "int" = some true := by decide +kernel
theorem kit_int_str : kitB "int" "str" = some false := by decide +kernel
theorem kit_int_list : kitB "int" "list" = some false := by decide +kernel
theorem kit_int_tuple : kitB "int" "tuple" = some false := by decide +kernel
theorem kit_str_bool : kitB "str" "bool" = some false := by decide +kernel
theorem kit_str_int : kitB "str" "int" = some false := by decide +kernel
theorem kit_str_str : kitB "str" "str" = some true := by decide +kernel
theorem kit_str_list : kitB "str" "list" = some false := by decide +kernel
theorem kit_str_tuple : kitB "str" "tuple" = some false := by decide +kernel
theorem kit_list_bool : kitB "list" "bool" = some false := by decide +kernel
theorem kit_list_int : kitB "list" "int" = some false := by decide +kernel
theorem kit_list_str : kitB "list" "str" = some false := by decide +kernel
theorem kit_list_list : kitB "list" "list" = some true := by decide +kernel
theorem kit_list_tuple : kitB "list" "tuple" = some false := by decide +kernel
theorem kit_tuple_bool : kitB "tuple" "bool" = some false := by decide +kernel
theorem kit_tuple_int : kitB "tuple" "int" = some false := by decide +kernel
theorem kit_tuple_str : kitB "tuple" "str" = some false := by decide +kernel
theorem kit_tuple_list : kitB "tuple" "list" = some false := by decide +kernel
theorem kit_tuple_tuple : kitB "tuple" "tuple" = some true := by decide +kernel
theorem ifT {c : Prop} [Decidable c] {A B : Prop} (hc : c) (h : A) : if decide c = true then A else B := by
  rw [decide_eq_true hc, if_pos rfl]
  exact h
theorem ifF {c : Prop} [Decidable c] {A B : Prop} (hc : ¬ c) (h : B) : if decide c = true then A else B := by
  rw [decide_eq_false hc, if_neg Bool.false_ne_true]
  exact h
theorem dpa_len {K : PySem.W.Frag} {H : Hp} : ∀ {vs : List V} {ds : List PyData}, DpAll K H vs ds → vs.length = ds.length
  | _, _, .nil => rfl
  | _, _, .cons _ t => by rw [List.length_cons, List.length_cons, dpa_len t]
theorem dpa_get {K : PySem.W.Frag} {H : Hp} : ∀ {vs : List V} {ds : List PyData} {i : Nat} {v : V}, DpAll K H vs ds → vs[i]? = some v → ∃ d, ds[i]? = some d ∧ Dp K H v d
  | _, _, _, _, .nil, e => by simp at e
  | _, _, 0, _, .cons h _, e => by
    simp at e
    subst e
    exact ⟨_, rfl, h⟩
  | _, _, i + 1, v, .cons _ t, e => by
    obtain ⟨d, h1, h2⟩ := dpa_get (i := i) (v := v) t (by simpa using e)
    exact ⟨d, by simpa using h1, h2⟩
theorem deep_get : ∀ {n : Nat} {ds : List PyData} {i : Nat} {d : PyData}, deepAll n ds = true → ds[i]? = some d → deep n d = true
  | _, [], _, _, _, e => by simp at e
  | n, a :: r, 0, d, h, e => by
    simp at e
    subst e
    unfold deepAll at h
    exact (Bool.and_eq_true_iff.mp h).1
  | n, a :: r, i + 1, d, h, e => by
    unfold deepAll at h
    exact deep_get (i := i) (Bool.and_eq_true_iff.mp h).2 (by simpa using e)
theorem walk_zipT {K : PySem.W.Frag} {a b : Addr} {xs ys : List V} {n : Nat} (hx : xs.length = n) (hy : ys.length = n) : Walk (RZ.ItzT K a b) n (fun H => SqT K H a xs ∧ SqT K H b ys) (YPair (fun i => xs[i]?) (fun i => ys[i]?)) := by
  refine ⟨fun i _ hi q => ?_, fun _ q => ⟨xs, ys, q.1, q.2, by omega⟩, fun i H v H' _ q y => ?_⟩
  · have h1 : i < xs.length := by omega
    have h2 : i < ys.length := by omega
    exact ⟨xs, ys, xs[i], ys[i], q.1, q.2, by simp [h1], by simp [h2]⟩
  · obtain ⟨T, x, z, h1, h2, h3, h4, h5⟩ := y
    exact ⟨T, x, z, h1, h2, h3, h4 xs q.1, h5 ys q.2⟩
theorem all_true {n : Nat} : (((List.range n).map fun _ => V.bl true) = ((List.replicate n true).map V.bl)) ∧ (List.replicate n true).all id = true := by
  constructor
  · rw [List.map_const', List.map_replicate, List.length_range]
  · simp
/-- _law_same(x, y), x and y the same data: True -/
def sp_same (K : PySem.W.Frag) (n : Nat) : Sp := fun vs H Q _ => ∃ (x y : V) (d : PyData), vs = [x, y] ∧ Dp K H x d ∧ Dp K H y d ∧ deep n d = true ∧ ∀ H', Same H H' → Q (.bl true) H'
def sp_law (K : PySem.W.Frag) : Sp := fun vs H Q _ => ∃ (a : Addr) (ns : List Int), vs = [.ref a] ∧ SqL K H a (ns.map V.int) ∧ ns.length ≤ 63 ∧ ∀ H', Q (.bl true) H'
end Hr
namespace Hr
open PySem PySem.Spec PyProof.Rows L2
theorem yes {te : TE} {σ : L2.St} {H : Hp} {Qe : VK} {Z : Hp → Prop} (h : te σ H Qe) : tYes σ H (fun b H3 => if b = true then te σ H3 Qe else Z H3) := by
  show (if true = true then te σ H Qe else Z H)
  rw [if_pos rfl]
  exact h
theorem szl {n : Nat} (h : n ≤ 100000) : n ≤ sizeLine := Nat.le_trans h (by decide)
theorem szt {n : Nat} (h : n < 100000) : n < sizeLine := Nat.lt_of_lt_of_le h (by decide)
/-! ### comprehensions: what is made by the elements is told of the heap without the list that grows (and without S) -/
theorem lc_bag {J : It} {n : Nat} {G : Hp → Prop} {Y : Nat → Hp → V → Hp → Prop} (w : Walk J n G Y) {g : TG} {tt : TT} {te : TE} {vs : List Nat} {σ : L2.St} {H1 : Hp} {D b l : Addr} {Qd : Hp → Prop} (S : List Addr) (hS : b ∈ S) (hb : Bag H1 b l) (hD : H1 D = none) (P : V → Hp → Prop) (hP : ∀ y H H', Same H H' → P y H → P y H') (hG : ∀ H, Bx b l H1 H → G H) (hn : n < 100000)
    (hs : ∀ i x H H' (Qe : V → Hp → Prop) (Z : Hp → Prop), i < n → Bx b l H1 H → Same (dl H1 S) (dl H (D :: S)) → (∃ xs, H D = some (.lst xs)) → (∀ y H4, Bx b l H H4 → P y (dl H4 (D :: S)) → Qe y H4) → Y i H x H' → g x (wipe σ vs) H' fun σ2 H2 => wipe σ2 vs = wipe σ vs ∧ tt σ2 H2 fun bb H3 => if bb = true then te σ2 H3 Qe else Z H3)
    (hd : ∀ H ys, Bx b l H1 H → ys.length = n → H D = some (.lst ys) → (∀ y ∈ ys, P y (dl H (D :: S))) → Qd H) :
    ∃ W : Nat → Nat → Hp → Prop, (∃ m, W 0 m (upd H1 D (.lst []))) ∧ ∀ i m H, W i m H →
      (J.stop i H ∧ Qd H) ∨ (J.go i H ∧ ∃ Nx : Hp → Prop, (∀ H', Nx H' → ∃ m', m' < m ∧ W (i + 1) m' H') ∧ ∀ x H', J.yld i H x H' → g x (wipe σ vs) H' fun σ2 H2 => wipe σ2 vs = wipe σ vs ∧ tt σ2 H2 fun b H3 =>
        if b = true then te σ2 H3 fun y H4 => ∃ acc, H4 D = some (.lst acc) ∧ acc.length < sizeLine ∧ Nx (upd H4 D (.lst (acc ++ [y]))) else Nx H3) := by
  have nD : D ≠ b := hb.ne_new hD
  have nL : D ≠ l := hb.ne_newl hD
  refine lc_it w (fun i H => Bx b l H1 H ∧ ∃ ys, H D = some (.lst ys) ∧ ys.length = i ∧ ∀ y ∈ ys, P y (dl H (D :: S))) ⟨Bx.new hb hD, [], upd_same, rfl, fun _ h => nomatch h⟩ (fun i H _ h => hG H h.1) ?_ ?_
  · rintro i x H H' hi ⟨bx, ys, hy, hl, hp⟩ y
    refine hs i x H H' _ _ hi bx (fun a o e => ?_) ⟨ys, hy⟩ (fun y H4 b4 p4 => ⟨ys, b4.keep D _ nD hy, szt (by omega), ⟨b4.bag.of (upd_ne nD.symm) (upd_ne nL.symm), fun a o n e => ?_⟩, ys ++ [y], upd_same, by simp [hl], fun z hz => ?_⟩) y
    · obtain ⟨h1, h2⟩ := dl_some e
      rw [dl_ne (fun z => (List.mem_cons.mp z).elim (fun z => ne_of_none h2 hD z) h1)]
      exact bx.keep a o (fun z => h1 (by rw [z]; exact hS)) h2
    · rw [upd_ne (ne_of_none e hD)]
      exact b4.keep a o n (bx.keep a o n e)
    · rw [dl_upd List.mem_cons_self]
      rcases List.mem_append.mp hz with hz | hz
      · exact hP z _ _ (b4.same (List.mem_cons_of_mem _ hS)) (hp z hz)
      · rw [List.mem_singleton.mp hz]; exact p4
  · rintro H ⟨bx, ys, hy, hl, hp⟩
    exact hd H ys bx hl hy hp
/-- without a bag: the i-th element's value is known -/
theorem lc_val {J : It} {n : Nat} {G : Hp → Prop} {Y : Nat → Hp → V → Hp → Prop} (w : Walk J n G Y) {g : TG} {tt : TT} {te : TE} {vs : List Nat} {σ : L2.St} {H1 : Hp} {D : Addr} {Qd : Hp → Prop} (hD : H1 D = none) (f : Nat → V) (hG : ∀ H, Same H1 H → G H) (hn : n < 100000)
    (hs : ∀ i x H H' (Qe : V → Hp → Prop) (Z : Hp → Prop), i < n → Same H1 H → (∀ H4, Same H H4 → Qe (f i) H4) → Y i H x H' → g x (wipe σ vs) H' fun σ2 H2 => wipe σ2 vs = wipe σ vs ∧ tt σ2 H2 fun bb H3 => if bb = true then te σ2 H3 Qe else Z H3)
    (hd : ∀ H, Same H1 H → H D = some (.lst ((List.range n).map f)) → Qd H) :
    ∃ W : Nat → Nat → Hp → Prop, (∃ m, W 0 m (upd H1 D (.lst []))) ∧ ∀ i m H, W i m H →
      (J.stop i H ∧ Qd H) ∨ (J.go i H ∧ ∃ Nx : Hp → Prop, (∀ H', Nx H' → ∃ m', m' < m ∧ W (i + 1) m' H') ∧ ∀ x H', J.yld i H x H' → g x (wipe σ vs) H' fun σ2 H2 => wipe σ2 vs = wipe σ vs ∧ tt σ2 H2 fun b H3 =>
        if b = true then te σ2 H3 fun y H4 => ∃ acc, H4 D = some (.lst acc) ∧ acc.length < sizeLine ∧ Nx (upd H4 D (.lst (acc ++ [y]))) else Nx H3) := by
  refine lc_it w (fun i H => Same H1 H ∧ H D = some (.lst ((List.range i).map f))) ⟨same_new hD, upd_same⟩ (fun i H _ h => hG H h.1) ?_ ?_
  · rintro i x H H' hi ⟨sm, hy⟩ y
    refine hs i x H H' _ _ hi sm (fun H4 s4 => ⟨_, s4 _ _ hy, szt (by rw [List.length_map, List.length_range]; omega), fun a o e => ?_, ?_⟩) y
    · rw [upd_ne (ne_of_none e hD)]
      exact s4 _ _ (sm _ _ e)
    · rw [upd_same, List.range_succ, List.map_append]
      rfl
  · rintro H ⟨sm, hy⟩
    exact hd H sm hy
theorem Bx.ofSame {b l : Addr} {H H' : Hp} (h : Bag H b l) (s : Same H H') : Bx b l H H' := by
  obtain ⟨ns, i, g, t, h1, h2, r⟩ := h
  exact ⟨⟨ns, i, g, t, s _ _ h1, s _ _ h2, r⟩, fun a o _ e => s a o e⟩
theorem Bag.ofSame {b l : Addr} {H H' : Hp} (h : Bag H b l) (s : Same H H') : Bag H' b l := (Bx.ofSame h s).bag
theorem strs_of {ys : List V} (h : ∀ y ∈ ys, ∃ c : Nat, y = .str ⟨#[c]⟩) : ∃ ss : List Str, ys = ss.map V.str ∧ ss.length = ys.length ∧ ∀ s ∈ ss, s.length = 1 := by
  induction ys with
  | nil => exact ⟨[], rfl, rfl, fun _ h => nomatch h⟩
  | cons y r ih =>
    obtain ⟨c, rfl⟩ := h y List.mem_cons_self
    obtain ⟨ss, e, l, k⟩ := ih fun z hz => h z (List.mem_cons_of_mem _ hz)
    refine ⟨⟨#[c]⟩ :: ss, by rw [e]; rfl, by rw [List.length_cons, l, List.length_cons], fun s hs => ?_⟩
    rcases List.mem_cons.mp hs with rfl | hs
    · rfl
    · exact k s hs
theorem sum_ones : ∀ {ss : List Str}, (∀ s ∈ ss, s.length = 1) → (ss.map (·.length)).sum = ss.length
  | [], _ => rfl
  | s :: r, h => by
    rw [List.map_cons, List.sum_cons, h s List.mem_cons_self, sum_ones fun z hz => h z (List.mem_cons_of_mem _ hz), List.length_cons]
    omega
theorem dl_bls {K : PySem.W.Frag} {H : Hp} : ∀ (bs : List Bool), DpAll K H (bs.map V.bl) (bs.map PyData.bool)
  | [] => .nil
  | b :: r => .cons (.bl b) (dl_bls r)
end Hr

set_option Elab.async false
set_option linter.all false
set_option maxRecDepth 100000
set_option maxHeartbeats 4000000
namespace Hr
open PySem PySem.Spec PyProof.Rows L2
/-! ### texts as lists of codes -/
abbrev cl (z : Str) : List Nat := z.cps.toList
theorem cl_len (z : Str) : z.length = (cl z).length := rfl
theorem cl_app (x y : Str) : cl (x ++ y) = cl x ++ cl y := cps_toList_append x y
theorem cl_ext {x y : Str} (h : cl x = cl y) : x = y := ext_toList h
theorem cl_take (z : Str) {n : Int} (h : 0 ≤ n) : cl (cutS z none (some n)) = (cl z).take n.toNat := by
  obtain ⟨k, rfl⟩ : ∃ k : Nat, n = k := ⟨n.toNat, by omega⟩
  unfold cutS cl
  rw [HT.sIx_none, HT.sIx_nat, List.drop_zero, Nat.sub_zero, Int.toNat_natCast]
  show List.take _ _ = _
  have e : z.length = z.cps.toList.length := rfl
  rw [e]
  by_cases hk : k ≤ z.cps.toList.length
  · rw [Nat.min_eq_left hk]
  · rw [Nat.min_eq_right (by omega), List.take_of_length_le (Nat.le_refl _), List.take_of_length_le (by omega)]
theorem cl_drop (z : Str) {n : Int} (h : 0 ≤ n) : cl (cutS z (some n) none) = (cl z).drop n.toNat := by
  obtain ⟨k, rfl⟩ : ∃ k : Nat, n = k := ⟨n.toNat, by omega⟩
  unfold cutS cl
  rw [HT.sIx_none, HT.sIx_nat, Int.toNat_natCast]
  show List.take _ (List.drop _ _) = _
  have e : z.length = z.cps.toList.length := rfl
  rw [e]
  by_cases hk : k ≤ z.cps.toList.length
  · rw [Nat.min_eq_left hk]
    apply List.take_of_length_le
    rw [List.length_drop]
    omega
  · rw [Nat.min_eq_right (by omega), Nat.sub_self, List.take_zero, List.drop_of_length_le (by omega)]
theorem cl_join0 : ∀ (ss : List Str), cl (Txt.join "" ss) = (ss.map cl).flatten := fun ss => by
  show cl (Builtin.Str.glued "" ss) = _
  rw [StrLaws.glued_eq_join]
  induction ss with
  | nil => rfl
  | cons x r ih =>
    cases r with
    | nil => simp [Str.join]
    | cons y r2 =>
      show cl (x ++ ("" : Str) ++ Str.join "" (y :: r2)) = _
      rw [cl_app, cl_app, ih]
      simp [show cl ("" : Str) = [] from rfl]
theorem foldl_app (x : Array Nat) : ∀ (n : Nat) (a : Array Nat), ((List.replicate n x).foldl (· ++ ·) a).toList = a.toList ++ (List.replicate n x.toList).flatten
  | 0, a => by simp
  | n + 1, a => by
    rw [List.replicate_succ, List.foldl_cons, foldl_app x n, Array.toList_append, List.replicate_succ, List.flatten_cons, List.append_assoc]
theorem cl_mul (z : Str) {n : Int} (h : 0 ≤ n) : cl (Txt.mul z n) = (List.replicate n.toNat (cl z)).flatten := by
  unfold Txt.mul
  by_cases h1 : n < 1
  · have e : n = 0 := by omega
    subst e
    rfl
  · rw [if_neg h1]
    by_cases h2 : (n == 1 || z.length == 0) = true
    · rw [if_pos h2]
      rcases Bool.or_eq_true_iff.mp h2 with e | e
      · have e' : n = 1 := by simpa using e
        subst e'
        simp
      · have e' : cl z = [] := List.eq_nil_of_length_eq_zero (by rw [← cl_len]; simpa using e)
        show cl z = _
        rw [e', List.flatten_replicate_nil]
    · rw [if_neg h2]
      show ((List.replicate n.toNat z.cps).foldl (· ++ ·) #[]).toList = _
      rw [foldl_app]
      rfl
def isNm (s : Str) : Prop := 1 ≤ (cl s).length ∧ (cl s).length ≤ 8 ∧ ∀ c ∈ cl s, c ∈ cl "abcdefghijklmnopqrstuvwxyz"
def isVl (s : Str) : Prop := 1 ≤ (cl s).length ∧ (cl s).length ≤ 8 ∧ ∀ c ∈ cl s, c ∈ cl "abcdefghijklmnopqrstuvwxyz0123456789"
/-! ### tracked sets -/
def Tr (H : Hp) (S : List Addr) : Prop := ∀ a ∈ S, ∃ o, H a = some o
theorem Tr.fresh {H : Hp} {S : List Addr} {p : Addr} (t : Tr H S) (h : H p = none) : p ∉ S := fun z => by
  obtain ⟨o, e⟩ := t p z
  rw [h] at e
  cases e
theorem Tr.bx {b l : Addr} {H H' : Hp} {S : List Addr} (t : Tr H S) (x : Bx b l H H') : Tr H' S := fun a ha => by
  obtain ⟨o, e⟩ := t a ha
  by_cases z : a = b
  · rw [z]
    obtain ⟨xs, h⟩ := x.bag.tracked
    exact ⟨_, h⟩
  · exact ⟨o, x.keep a o z e⟩
theorem Tr.cons {H : Hp} {S : List Addr} {p : Addr} {o : HO} (t : Tr H S) (h : H p = some o) : Tr H (p :: S) := fun a ha => by
  rcases List.mem_cons.mp ha with rfl | ha
  · exact ⟨o, h⟩
  · exact t a ha
theorem Tr.one {H : Hp} {b l : Addr} (h : Bag H b l) : Tr H [b] := fun a ha => by
  rw [List.mem_singleton.mp ha]
  obtain ⟨xs, e⟩ := h.tracked
  exact ⟨_, e⟩
theorem Tr.same {H H' : Hp} {S : List Addr} (t : Tr H S) (s : Same H H') : Tr H' S := fun a ha => by
  obtain ⟨o, e⟩ := t a ha
  exact ⟨o, s a o e⟩
theorem dl_free {H : Hp} {S : List Addr} {p : Addr} (t : Tr H S) (h : H p = none) : dl H S p = none := by
  rw [dl_ne (t.fresh h)]
  exact h
/-- behind a new object -/
theorem dl_same_new {H : Hp} {S : List Addr} {p : Addr} {o : HO} (t : Tr H S) (h : H p = none) : Same (dl H S) (dl (upd H p o) S) := by
  rw [dl_new (t.fresh h)]
  exact same_new (dl_free t h)
theorem dl_upd_at {H : Hp} {S : List Addr} {p : Addr} {o : HO} (t : Tr H S) (h : H p = none) : dl (upd H p o) S p = some o := by
  rw [dl_ne (t.fresh h), upd_same]
/-! ### max with a default -/
def maxI : List Int → Int → Int
  | [], d => d
  | y :: ys, _ => PySem.W.maxOf y ys
def rMaxD (K : PySem.W.Frag) : List V → List V → Hp → VK → Prop := fun vs zs H Q => ∃ (a : Addr) (ns : List Int) (d : Int), vs = [.ref a] ∧ zs = [.int d] ∧ SqL K H a (ns.map V.int) ∧ Q (.int (maxI ns d)) H
theorem dpa_ints {K : PySem.W.Frag} {H : Hp} : ∀ (ns : List Int), DpAll K H (ns.map V.int) (ns.map PyData.int)
  | [] => .nil
  | n :: r => .cons (.int n) (dpa_ints r)
theorem cr_maxD {X : Cx} (hc : X.calm = true) (hu : X.A.units + 64 < cLine) : CallRK X (.builtin "max") [Str.ofString "default"] (rMaxD X.K) := by
  intro pins s σ H vs zs us ws Q I r rz h
  obtain ⟨a, ns, d, rfl, rfl, hs, q⟩ := h
  obtain rfl := Vals.ref1 r
  obtain ⟨w1, rfl, t, rfl⟩ := vals1 rz
  obtain ⟨its, rv, hl, _⟩ := I.list hs
  obtain ⟨as, ra⟩ := Dp.readsAll I (ns.map PyData.int) _ _ (dpa_ints ns) rv
  refine PySem.W.max_list_datum_default (α := Int) (xs := ns) (I.ok.hd hc) hl.isList ⟨as, ra⟩ (by show X.A.units + 1 + 0 < cLine; omega) (fun e h' tk k => ?_) fun y ys i v h' tk e hv hh k => ?_
  · subst e
    exact ⟨.int d, H, I.kept k, ⟨t, rfl⟩, q⟩
  · subst e
    obtain ⟨bs, rd⟩ := hh
    cases rd
    exact ⟨.int _, H, I.kept k, ⟨_, rfl⟩, q⟩
theorem bx_seq {K : PySem.W.Frag} {b l a : Addr} {H H' : Hp} {xs : List V} (x : Bx b l H H') (n : a ≠ b) (h : SqL K H a xs) : SqL K H' a xs := by
  rcases h with (h | ⟨o, h⟩) | h
  · exact .inl (.inl (x.keep _ _ n h))
  · exact .inl (.inr ⟨o, x.keep _ _ n h⟩)
  · exact .inr h
theorem bx_seqT {K : PySem.W.Frag} {b l a : Addr} {H H' : Hp} {xs : List V} (x : Bx b l H H') (n : a ≠ b) (h : SqT K H a xs) : SqT K H' a xs := by
  rcases h with (h | ⟨o, h⟩) | h
  · exact .inl (.inl (x.keep _ _ n h))
  · exact .inl (.inr ⟨o, x.keep _ _ n h⟩)
  · exact .inr h
theorem stem_of {al : List Nat} {ys : List V} (h : ∀ y ∈ ys, ∃ c : Nat, y = .str ⟨#[c]⟩ ∧ c ∈ al) : ∃ ss : List Str, ys = ss.map V.str ∧ ss.length = ys.length ∧ (ss.map (·.length)).sum = ys.length ∧ (cl (Txt.join "" ss)).length = ys.length ∧ ∀ c ∈ cl (Txt.join "" ss), c ∈ al := by
  have k : ∃ cs : List Nat, ys = cs.map (fun c => V.str ⟨#[c]⟩) ∧ ∀ c ∈ cs, c ∈ al := by
    induction ys with
    | nil => exact ⟨[], rfl, fun _ h => nomatch h⟩
    | cons y r ih =>
      obtain ⟨c, rfl, hc⟩ := h y List.mem_cons_self
      obtain ⟨cs, e, k⟩ := ih fun z hz => h z (List.mem_cons_of_mem _ hz)
      refine ⟨c :: cs, by rw [e]; rfl, fun d hd => ?_⟩
      rcases List.mem_cons.mp hd with rfl | hd
      · exact hc
      · exact k d hd
  obtain ⟨cs, rfl, hc⟩ := k
  have e : cl (Txt.join "" (cs.map fun c => (⟨#[c]⟩ : Str))) = cs := by
    rw [cl_join0, List.map_map]
    clear hc h
    induction cs with
    | nil => rfl
    | cons c r ih =>
      rw [List.map_cons, List.flatten_cons, ih]
      rfl
  refine ⟨cs.map fun c => (⟨#[c]⟩ : Str), by rw [List.map_map]; rfl, by simp, ?_, by rw [e]; simp, by rw [e]; exact hc⟩
  clear e hc h
  induction cs with
  | nil => rfl
  | cons c r ih =>
    rw [List.map_cons, List.map_cons, List.sum_cons, ih]
    simp [Str.length]
    omega
theorem nodup_of_key {α β : Type} {ss : List α} (key : Nat → β) (f : α → β) (h : ∀ j s, ss[j]? = some s → f s = key j) (inj : ∀ i j, i < j → j < ss.length → key i ≠ key j) : ss.Nodup := by
  refine List.pairwise_iff_getElem.mpr fun i j hi hj lt e => ?_
  have h1 := h i _ (List.getElem?_eq_getElem hi)
  have h2 := h j _ (List.getElem?_eq_getElem hj)
  rw [e, h2] at h1
  exact inj i j lt hj h1.symm
theorem let_at : ∀ m : Nat, m < 26 → (cl "abcdefghijklmnopqrstuvwxyz")[m]? = some (97 + m) := by decide
theorem sgn_at : ∀ m : Nat, m < 36 → (cl "abcdefghijklmnopqrstuvwxyz0123456789")[m]? = some (if m < 26 then 97 + m else 22 + m) := by decide
theorem at_code {z : Str} {i : Int} {c : Nat} (h0 : 0 ≤ i) (h : (cl z)[i.toNat]? = some c) : atI z.cps.toList i = some c := by
  have q : atI z.cps.toList ((i.toNat : Nat) : Int) = some c := atI_nat h
  rwa [show ((i.toNat : Nat) : Int) = i by omega] at q
/-- a sign put into a word at a place -/
theorem put_sign {z : Str} {c : Nat} {i : Int} (h0 : 0 ≤ i) (h1 : i ≤ ((cl z).length : Int)) :
    cl (cutS z none (some i) ++ ⟨#[c]⟩ ++ cutS z (some i) none) = (cl z).take i.toNat ++ c :: (cl z).drop i.toNat := by
  rw [cl_app, cl_app, cl_take z h0, cl_drop z h0, List.append_assoc]
  rfl
theorem put_at {l : List Nat} {c i : Nat} (h : i ≤ l.length) : (l.take i ++ c :: l.drop i)[i]? = some c := by
  rw [List.getElem?_append_right (by rw [List.length_take]; omega), List.length_take, Nat.min_eq_left h, Nat.sub_self]
  rfl
theorem put_len {l : List Nat} {c i : Nat} (h : i ≤ l.length) : (l.take i ++ c :: l.drop i).length = l.length + 1 := by
  rw [List.length_append, List.length_cons, List.length_take, List.length_drop]
  omega
theorem put_mem {l al : List Nat} {c i : Nat} (hc : c ∈ al) (h : ∀ x ∈ l, x ∈ al) : ∀ x ∈ l.take i ++ c :: l.drop i, x ∈ al := fun x hx => by
  rcases List.mem_append.mp hx with hx | hx
  · exact h x (List.mem_of_mem_take hx)
  · rcases List.mem_cons.mp hx with rfl | hx
    · exact hc
    · exact h x (List.mem_of_mem_drop hx)
/-! ### comprehensions, item by item -/
theorem lc_bagI {J : It} {n : Nat} {G : Hp → Prop} {Y : Nat → Hp → V → Hp → Prop} (w : Walk J n G Y) {g : TG} {tt : TT} {te : TE} {vs : List Nat} {σ : L2.St} {H1 : Hp} {D b l : Addr} {Qd : Hp → Prop} (S : List Addr) (hS : b ∈ S) (hb : Bag H1 b l) (hD : H1 D = none) (P : Nat → V → Hp → Prop) (hP : ∀ i y H H', Same H H' → P i y H → P i y H') (hG : ∀ H, Bx b l H1 H → G H) (hn : n < 100000)
    (hs : ∀ i x H H' (Qe : V → Hp → Prop) (Z : Hp → Prop), i < n → Bx b l H1 H → Same (dl H1 S) (dl H (D :: S)) → (∃ xs, H D = some (.lst xs)) → (∀ y H4, Bx b l H H4 → P i y (dl H4 (D :: S)) → Qe y H4) → Y i H x H' → g x (wipe σ vs) H' fun σ2 H2 => wipe σ2 vs = wipe σ vs ∧ tt σ2 H2 fun bb H3 => if bb = true then te σ2 H3 Qe else Z H3)
    (hd : ∀ H ys, Bx b l H1 H → ys.length = n → H D = some (.lst ys) → (∀ (i : Nat) y, ys[i]? = some y → P i y (dl H (D :: S))) → Qd H) :
    ∃ W : Nat → Nat → Hp → Prop, (∃ m, W 0 m (upd H1 D (.lst []))) ∧ ∀ i m H, W i m H →
      (J.stop i H ∧ Qd H) ∨ (J.go i H ∧ ∃ Nx : Hp → Prop, (∀ H', Nx H' → ∃ m', m' < m ∧ W (i + 1) m' H') ∧ ∀ x H', J.yld i H x H' → g x (wipe σ vs) H' fun σ2 H2 => wipe σ2 vs = wipe σ vs ∧ tt σ2 H2 fun b H3 =>
        if b = true then te σ2 H3 fun y H4 => ∃ acc, H4 D = some (.lst acc) ∧ acc.length < sizeLine ∧ Nx (upd H4 D (.lst (acc ++ [y]))) else Nx H3) := by
  have nD : D ≠ b := hb.ne_new hD
  have nL : D ≠ l := hb.ne_newl hD
  refine lc_it w (fun i H => Bx b l H1 H ∧ ∃ ys, H D = some (.lst ys) ∧ ys.length = i ∧ ∀ (i : Nat) y, ys[i]? = some y → P i y (dl H (D :: S))) ⟨Bx.new hb hD, [], upd_same, rfl, fun _ _ h => by simp at h⟩ (fun i H _ h => hG H h.1) ?_ ?_
  · rintro i x H H' hi ⟨bx, ys, hy, hl, hp⟩ y
    refine hs i x H H' _ _ hi bx (fun a o e => ?_) ⟨ys, hy⟩ (fun y H4 b4 p4 => ⟨ys, b4.keep D _ nD hy, szt (by omega), ⟨b4.bag.of (upd_ne nD.symm) (upd_ne nL.symm), fun a o n e => ?_⟩, ys ++ [y], upd_same, by simp [hl], fun j z hz => ?_⟩) y
    · obtain ⟨h1, h2⟩ := dl_some e
      rw [dl_ne (fun z => (List.mem_cons.mp z).elim (fun z => ne_of_none h2 hD z) h1)]
      exact bx.keep a o (fun z => h1 (by rw [z]; exact hS)) h2
    · rw [upd_ne (ne_of_none e hD)]
      exact b4.keep a o n (bx.keep a o n e)
    · rw [dl_upd List.mem_cons_self]
      by_cases hj : j < ys.length
      · rw [List.getElem?_append_left hj] at hz
        exact hP j z _ _ (b4.same (List.mem_cons_of_mem _ hS)) (hp j z hz)
      · have ej : j = i := by
          have := (List.getElem?_eq_some_iff.mp hz).1
          rw [List.length_append, List.length_singleton] at this
          omega
        subst ej
        rw [List.getElem?_append_right (by omega), hl, Nat.sub_self] at hz
        cases hz
        exact p4
  · rintro H ⟨bx, ys, hy, hl, hp⟩
    exact hd H ys bx hl hy hp
theorem lc_filt {J : It} {G : Hp → Prop} {xs : List V} (w : Walk J xs.length G (YAt xs)) {g : TG} {tt : TT} {te : TE} {vs : List Nat} {σ : L2.St} {H1 : Hp} {D : Addr} {Qd : Hp → Prop} (hD : H1 D = none) (f : V → V) (p : V → Bool) (hG : ∀ H, Same H1 H → G H) (hn : xs.length < 100000)
    (hs : ∀ (i : Nat) x H (R : V → Hp → Prop) (Z : Hp → Prop), xs[i]? = some x → Same H1 H → (p x = true → ∀ H4, Same H H4 → R (f x) H4) → (p x = false → ∀ H4, Same H H4 → Z H4) → g x (wipe σ vs) H fun σ2 H2 => wipe σ2 vs = wipe σ vs ∧ tt σ2 H2 fun b H3 => if b = true then te σ2 H3 R else Z H3)
    (hd : ∀ H, Same H1 H → H D = some (.lst ((xs.filter p).map f)) → Qd H) :
    ∃ W : Nat → Nat → Hp → Prop, (∃ m, W 0 m (upd H1 D (.lst []))) ∧ ∀ i m H, W i m H →
      (J.stop i H ∧ Qd H) ∨ (J.go i H ∧ ∃ Nx : Hp → Prop, (∀ H', Nx H' → ∃ m', m' < m ∧ W (i + 1) m' H') ∧ ∀ x H', J.yld i H x H' → g x (wipe σ vs) H' fun σ2 H2 => wipe σ2 vs = wipe σ vs ∧ tt σ2 H2 fun b H3 =>
        if b = true then te σ2 H3 fun y H4 => ∃ acc, H4 D = some (.lst acc) ∧ acc.length < sizeLine ∧ Nx (upd H4 D (.lst (acc ++ [y]))) else Nx H3) := by
  refine lc_it w (fun i H => Same H1 H ∧ H D = some (.lst (((xs.take i).filter p).map f))) ⟨same_new hD, by rw [upd_same]; rfl⟩ (fun i H _ h => hG H h.1) ?_ ?_
  · rintro i x H H' hi ⟨sm, hy⟩ ⟨rfl, hx⟩
    have et : xs.take (i + 1) = xs.take i ++ [x] := by rw [List.take_add_one, hx]; rfl
    refine hs i x H' _ _ hx sm (fun hp H4 s4 => ⟨_, s4 _ _ hy, szt ?_, fun a o e => ?_, ?_⟩) fun hp H4 s4 => ⟨sm.trans s4, ?_⟩
    · rw [List.length_map]
      refine Nat.lt_of_le_of_lt (List.length_filter_le _ _) ?_
      rw [List.length_take]
      omega
    · rw [upd_ne (ne_of_none e hD)]
      exact s4 _ _ (sm _ _ e)
    · rw [upd_same, et, List.filter_append, List.map_append, List.filter_cons, hp]
      rfl
    · rw [s4 _ _ hy, et, List.filter_append, List.filter_cons, hp]
      simp
  · rintro H ⟨sm, hy⟩
    rw [List.take_length] at hy
    exact hd H sm hy
theorem eqv_nil (ds : List PyData) : PyData.eqv (.list ds) (.list []) = ds.isEmpty := by
  cases ds <;> simp [PyData.eqv, PyData.eqvAll]
/-! ### fields as data -/
abbrev Fld := Str × List Str
def fldD (f : Fld) : PyData := .tuple [.str f.1, .list (f.2.map PyData.str)]
def fldsD (fs : List Fld) : PyData := .list (fs.map fldD)
theorem dpa_strs {K : PySem.W.Frag} {H : Hp} : ∀ (ss : List Str), DpAll K H (ss.map V.str) (ss.map PyData.str)
  | [] => .nil
  | s :: r => .cons (.str s) (dpa_strs r)
theorem dpa_of {K : PySem.W.Frag} {H : Hp} : ∀ {vs : List V} {ds : List PyData}, vs.length = ds.length → (∀ (i : Nat) v d, vs[i]? = some v → ds[i]? = some d → Dp K H v d) → DpAll K H vs ds
  | [], [], _, _ => .nil
  | v :: vs, d :: ds, hl, h => .cons (h 0 v d rfl rfl) (dpa_of (by simpa using hl) fun i x y h1 h2 => h (i + 1) x y h1 h2)
  | [], _ :: _, hl, _ => by simp at hl
  | _ :: _, [], hl, _ => by simp at hl
/-! ### the rules that speak of the written part, by its own letter -/
def rLenSeq (K : PySem.W.Frag) : List V → Hp → VK → Prop := fun xs H Q => ∃ p ys, xs = [.ref p] ∧ (SqL K H p ys ∨ SqT K H p ys) ∧ Q (.int ys.length) H
def rListOf (K : PySem.W.Frag) : List V → Hp → VK → Prop := fun xs H Q => ∃ p ys, xs = [.ref p] ∧ (SqL K H p ys ∨ SqT K H p ys) ∧ ∀ l, H l = none → Q (.ref l) (upd H l (.lst ys))
def rTupleOf (K : PySem.W.Frag) : List V → Hp → VK → Prop := fun xs H Q => ∃ p ys, xs = [.ref p] ∧ ((SqL K H p ys ∧ ∀ l, H l = none → Q (.ref l) (upd H l (.tup ys))) ∨ (SqT K H p ys ∧ Q (.ref p) H))
section
variable {X : Cx} {K : PySem.W.Frag} {tg l : Expr} {tl : TE}
theorem ix_listK (e : X.K = K := by rfl) : IxR X (rIxL K) := e ▸ ix_list
theorem ix_tupK (e : X.K = K := by rfl) : IxR X (rIxT K) := e ▸ ix_tup
theorem ix_seqK (e : X.K = K := by rfl) : IxR X (rIx K) := e ▸ ix_seq
theorem sl_listK (e : X.K = K := by rfl) : SlR X (rSlL K) := e ▸ sl_list
theorem sl_tupK (e : X.K = K := by rfl) : SlR X (rSlA K) := e ▸ sl_tupA
theorem op_in_seqK (e : X.K = K := by rfl) : OpR X (compareOp .In) (rIn K false) := e ▸ op_in_seq
theorem op_notIn_seqK (e : X.K = K := by rfl) : OpR X (compareOp .NotIn) (rIn K true) := e ▸ op_notIn_seq
theorem op_eqDK (hu : X.A.units + 64 < cLine) (e : X.K = K := by rfl) : OpR X (compareOp .Eq) (rEqD K) := e ▸ op_eqD hu
theorem op_neDK (hu : X.A.units + 64 < cLine) (e : X.K = K := by rfl) : OpR X (compareOp .NotEq) (rNeD K) := e ▸ op_neD hu
theorem op_inDK (hu : X.A.units + 65 < cLine) (e : X.K = K := by rfl) : OpR X (compareOp .In) (rInD K) := e ▸ op_inD hu
theorem op_notInDK (hu : X.A.units + 65 < cLine) (e : X.K = K := by rfl) : OpR X (compareOp .NotIn) (rNotInD K) := e ▸ op_notInD hu
theorem op_catTK (e : X.K = K := by rfl) : OpR X (binaryOp .Add) (rCatT K) := e ▸ op_catT
theorem call_len_seqK (e : X.K = K := by rfl) : CallR X (.builtin "len") (rLenSeq K) := e ▸ call_len_seq
theorem call_list_ofK (e : X.K = K := by rfl) : CallR X (.type "list") (rListOf K) := e ▸ call_list_of
theorem call_tuple_ofK (e : X.K = K := by rfl) : CallR X (.type "tuple") (rTupleOf K) := e ▸ call_tuple_of
theorem call_isiK' (e : X.K = K := by rfl) : CallR X (.builtin "isinstance") (rIsi K) := e ▸ call_isi
theorem call_isiTK (e : X.K = K := by rfl) : CallR X (.builtin "isinstance") (rIsiT K) := e ▸ call_isiT
theorem cr_allK (hc : X.calm = true) (e : X.K = K := by rfl) : CallR X (.builtin "all") (rAll K) := e ▸ cr_all hc
theorem cr_anyK (hc : X.calm = true) (e : X.K = K := by rfl) : CallR X (.builtin "any") (rAny K) := e ▸ cr_any hc
theorem cr_sumK (hc : X.calm = true) (e : X.K = K := by rfl) : CallR X (.builtin "sum") (rSum K) := e ▸ cr_sum hc
theorem cr_maxDK (hc : X.calm = true) (hu : X.A.units + 64 < cLine) (e : X.K = K := by rfl) : CallRK X (.builtin "max") [Str.ofString "default"] (rMaxD K) := e ▸ cr_maxD hc hu
theorem pi_listK (hl : PE X l tl) (e : X.K = K := by rfl) : PI X tg l (iList K tl) := e ▸ pi_list hl
theorem pi_tupK (hl : PE X l tl) (e : X.K = K := by rfl) : PI X tg l (iTup K tl) := e ▸ pi_tup hl
end
theorem un65 {k : Nat} {A : Around} (r : Room k A) : A.units + 65 < cLine := by
  have := r.un
  omega
theorem choose_list {α β : Type} : ∀ {xs : List α} {R : Nat → α → β → Prop}, (∀ (i : Nat) x, xs[i]? = some x → ∃ y, R i x y) → ∃ ys : List β, ys.length = xs.length ∧ ∀ (i : Nat) x y, xs[i]? = some x → ys[i]? = some y → R i x y
  | [], _, _ => ⟨[], rfl, fun i x y h => by simp at h⟩
  | a :: r, R, h => by
    obtain ⟨b, hb⟩ := h 0 a rfl
    obtain ⟨ys, hl, k⟩ := choose_list (xs := r) (R := fun i => R (i + 1)) fun i x e => h (i + 1) x e
    refine ⟨b :: ys, by rw [List.length_cons, hl, List.length_cons], fun i x y h1 h2 => ?_⟩
    cases i with
    | zero =>
      cases h1
      cases h2
      exact hb
    | succ i => exact k i x y h1 h2
theorem str_at {ss : List Str} {i : Nat} {x : V} (h : (ss.map V.str)[i]? = some x) : ∃ s, ss[i]? = some s ∧ x = .str s := by
  rw [List.getElem?_map] at h
  cases e : ss[i]? with
  | none => rw [e] at h; cases h
  | some s => rw [e] at h; exact ⟨s, rfl, (Option.some.inj h).symm⟩
def notW (s : Str) : Bool := !inV (.str s) [.str "any", .str "none"]
theorem notW_iff {s : Str} : notW s = true ↔ s ≠ "any" ∧ s ≠ "none" := by
  unfold notW inV
  simp [eqV]
  constructor
  · rintro ⟨h1, h2⟩
    exact ⟨fun e => h1 e.symm, fun e => h2 e.symm⟩
  · rintro ⟨h1, h2⟩
    exact ⟨fun e => h1 e.symm, fun e => h2 e.symm⟩
/-! ### data of a bounded depth can be compared -/
mutual
theorem deep_lay : ∀ (n : Nat) (d : PyData), deep n d = true → d.canLay0 = true ∧ d.depth ≤ n
  | 0, d, h => by rw [deep_zero] at h; cases h
  | n + 1, .list ds, h => by
    have k := deepAll_lay n ds (deep_list h).2
    unfold PyData.canLay0 PyData.depth
    exact ⟨k.1, by have := k.2; omega⟩
  | n + 1, .tuple ds, h => by
    have k := deepAll_lay n ds (deep_tuple h).2
    unfold PyData.canLay0 PyData.depth
    exact ⟨k.1, by have := k.2; omega⟩
  | n + 1, .dict _, h => by unfold deep at h; cases h
  | n + 1, .str s, h => by
    unfold deep at h
    unfold PyData.canLay0 PyData.depth
    exact ⟨h, by omega⟩
  | n + 1, .none, _ => by unfold PyData.canLay0 PyData.depth; exact ⟨rfl, by omega⟩
  | n + 1, .bool _, _ => by unfold PyData.canLay0 PyData.depth; exact ⟨rfl, by omega⟩
  | n + 1, .int _, _ => by unfold PyData.canLay0 PyData.depth; exact ⟨rfl, by omega⟩
theorem deepAll_lay : ∀ (n : Nat) (ds : List PyData), deepAll n ds = true → PyData.canLayAll0 ds = true ∧ PyData.depthAll ds ≤ n
  | n, [], _ => by unfold PyData.canLayAll0 PyData.depthAll; exact ⟨rfl, by omega⟩
  | n, d :: ds, h => by
    unfold deepAll at h
    have h' := Bool.and_eq_true_iff.mp h
    have k1 := deep_lay n d h'.1
    have k2 := deepAll_lay n ds h'.2
    unfold PyData.canLayAll0 PyData.depthAll
    exact ⟨by rw [k1.1, k2.1]; rfl, Nat.max_le.mpr ⟨k1.2, k2.2⟩⟩
end
theorem deep_shaped {n : Nat} {d : PyData} (h : deep n d = true) (hn : n ≤ 64) : SeqAt.shaped d = true := by
  have k := deep_lay n d h
  unfold SeqAt.shaped
  rw [k.1, decide_eq_true (by omega)]
  rfl
theorem deepAll_of {n : Nat} : ∀ {ds : List PyData}, (∀ d ∈ ds, deep n d = true) → deepAll n ds = true
  | [], _ => by unfold deepAll; rfl
  | d :: ds, h => by
    unfold deepAll
    rw [h d List.mem_cons_self, deepAll_of fun x hx => h x (List.mem_cons_of_mem _ hx)]
    rfl
theorem deep_list_of {n : Nat} {ds : List PyData} (hl : ds.length < 50000) (h : ∀ d ∈ ds, deep n d = true) : deep (n + 1) (.list ds) = true := by
  unfold deep
  rw [decide_eq_true hl, deepAll_of h]
  rfl
theorem deep_tuple_of {n : Nat} {ds : List PyData} (hl : ds.length < 50000) (h : ∀ d ∈ ds, deep n d = true) : deep (n + 1) (.tuple ds) = true := by
  unfold deep
  rw [decide_eq_true hl, deepAll_of h]
  rfl
theorem deep_str {n : Nat} {s : Str} (h : PySem.PyData.strOk s = true) : deep (n + 1) (.str s) = true := by
  unfold deep
  exact h
theorem strOk_of {s : Str} (h : ∀ c ∈ cl s, c < 1000) : PySem.PyData.strOk s = true := by
  unfold PySem.PyData.strOk
  rw [Array.all_eq_true_iff_forall_mem]
  intro c hc
  have := h c (by simpa using hc)
  exact decide_eq_true (by omega)
theorem small_letter : ∀ c ∈ cl "abcdefghijklmnopqrstuvwxyz0123456789", c < 1000 := by decide
theorem small_letter' : ∀ c ∈ cl "abcdefghijklmnopqrstuvwxyz", c < 1000 := by decide
theorem isNm.ok {s : Str} (h : isNm s) : PySem.PyData.strOk s = true := strOk_of fun c hc => small_letter' c (h.2.2 c hc)
theorem isVl.ok {s : Str} (h : isVl s) : PySem.PyData.strOk s = true := strOk_of fun c hc => small_letter c (h.2.2 c hc)
theorem shaped_strs {ss : List Str} (h : ∀ s ∈ ss, PySem.PyData.strOk s = true) (hl : ss.length < 50000) : SeqAt.shaped (.list (ss.map PyData.str)) = true :=
  deep_shaped (n := 2) (deep_list_of (by rw [List.length_map]; exact hl) fun d hd => by
    obtain ⟨s, hs, rfl⟩ := List.mem_map.mp hd
    exact deep_str (h s hs)) (by decide)
theorem of_seq {K : PySem.W.Frag} {b l a : Addr} {H : Hp} {S : List Addr} {xs : List V} (hb : b ∈ S) (h : SqL K (dl H S) a xs) : ∀ H', Bx b l H H' → SqL K H' a xs ∨ SqT K H' a xs := fun H' bx => .inl (dl_le.seq ((bx.same hb).seq h))
theorem of_new {K : PySem.W.Frag} {b l p : Addr} {H : Hp} {xs : List V} (hb : Bag H b l) (hp : H p = none) : ∀ H', Bx b l (upd H p (.lst xs)) H' → SqL K H' p xs ∨ SqT K H' p xs := fun H' bx => .inl (SqL.of (bx.keep p _ (hb.ne_new hp) upd_same))
end Hr

set_option Elab.async false
set_option linter.all false
set_option maxRecDepth 100000
set_option maxHeartbeats 4000000
namespace Hr
open PySem PySem.Spec PyProof.Rows L2
/-! ### conditions -/
inductive Cd where
  | any
  | test (f v : Str)
  | node (k : Str) (cs : List Cd)
mutual
def toD : Cd → PyData
  | .any => .tuple [.str "any"]
  | .test f v => .tuple [.str "test", .str f, .str v]
  | .node k cs => .tuple (.str k :: toDs cs)
def toDs : List Cd → List PyData
  | [] => []
  | c :: r => toD c :: toDs r
end
theorem toDs_map : ∀ cs, toDs cs = cs.map toD
  | [] => by unfold toDs; rfl
  | c :: r => by unfold toDs; rw [toDs_map r]; rfl
def parts : Cd → List Cd
  | .node _ cs => cs
  | _ => []
mutual
def size : Cd → Nat
  | .any => 1
  | .test _ _ => 1
  | .node _ cs => 1 + sizes cs
def sizes : List Cd → Nat
  | [] => 0
  | c :: r => size c + sizes r
end
mutual
def dep : Cd → Int
  | .any => 1
  | .test _ _ => 1
  | .node _ cs => 1 + maxI (deps cs) 0
def deps : List Cd → List Int
  | [] => []
  | c :: r => dep c :: deps r
end
theorem deps_map : ∀ cs, deps cs = cs.map dep
  | [] => by unfold deps; rfl
  | c :: r => by unfold deps; rw [deps_map r]; rfl
mutual
def allp : Cd → List Cd
  | .any => [.any]
  | .test f v => [.test f v]
  | .node k cs => .node k cs :: allps cs
def allps : List Cd → List Cd
  | [] => []
  | c :: r => allp c ++ allps r
end
mutual
theorem allp_len : ∀ c, (allp c).length = size c
  | .any => by unfold allp size; rfl
  | .test _ _ => by unfold allp size; rfl
  | .node k cs => by unfold allp size; rw [List.length_cons, allps_len cs]; omega
theorem allps_len : ∀ cs, (allps cs).length = sizes cs
  | [] => by unfold allps sizes; rfl
  | c :: r => by unfold allps sizes; rw [List.length_append, allp_len c, allps_len r]
end
theorem sizes_sum : ∀ cs, ((cs.map fun c => (size c : Int)).sum) = (sizes cs : Int)
  | [] => by unfold sizes; rfl
  | c :: r => by unfold sizes; rw [List.map_cons, List.sum_cons, sizes_sum r]; omega
theorem allps_flat : ∀ cs, allps cs = cs.flatMap allp
  | [] => by unfold allps; rfl
  | c :: r => by unfold allps; rw [allps_flat r, List.flatMap_cons]
theorem allp_eq (c : Cd) : allp c = c :: (parts c).flatMap allp := by
  cases c with
  | any => unfold allp parts; rfl
  | test => unfold allp parts; rfl
  | node k cs => unfold allp; rw [allps_flat]; rfl
theorem size_eq (c : Cd) : (size c : Int) = 1 + ((parts c).map fun c => (size c : Int)).sum := by
  cases c with
  | any => unfold size parts; rfl
  | test => unfold size parts; rfl
  | node k cs =>
    rw [show parts (.node k cs) = cs from rfl, sizes_sum, show size (.node k cs) = 1 + sizes cs by rw [size]]
    omega
theorem dep_eq (c : Cd) : dep c = 1 + maxI ((parts c).map dep) 0 := by
  cases c with
  | any => unfold dep parts; rfl
  | test => unfold dep parts; rfl
  | node k cs => unfold dep; rw [deps_map]; rfl
/-- the depth is at most n, nothing is too wide, the kinds are told apart -/
def Wn : Nat → Cd → Prop
  | 0, _ => False
  | _ + 1, .any => True
  | _ + 1, .test f v => PyData.strOk f = true ∧ PyData.strOk v = true
  | n + 1, .node k cs => PyData.strOk k = true ∧ k ≠ "any" ∧ k ≠ "test" ∧ cs.length < 1000 ∧ ∀ c ∈ cs, Wn n c
theorem Wn.parts {n : Nat} {c : Cd} (h : Wn (n + 1) c) : (parts c).length < 1000 ∧ ∀ p ∈ parts c, Wn n p := by
  cases c with
  | any => exact ⟨by decide, fun _ h => nomatch h⟩
  | test => exact ⟨by show 0 < 1000; decide, fun _ h => nomatch h⟩
  | node k cs => exact ⟨h.2.2.2.1, h.2.2.2.2⟩
theorem Wn.deep : ∀ {n : Nat} {c : Cd}, Wn n c → deep (n + 1) (toD c) = true
  | n + 1, .any, _ => by
    unfold toD
    exact deep_tuple_of (by show 1 < 50000; decide) fun d hd => by
      rw [List.mem_singleton.mp hd]
      exact deep_str (by decide +kernel)
  | n + 1, .test f v, h => by
    unfold toD
    refine deep_tuple_of (by show 3 < 50000; decide) fun d hd => ?_
    rcases List.mem_cons.mp hd with rfl | hd
    · exact deep_str (by decide +kernel)
    · rcases List.mem_cons.mp hd with rfl | hd
      · exact deep_str h.1
      · rw [List.mem_singleton.mp hd]
        exact deep_str h.2
  | n + 1, .node k cs, h => by
    unfold toD
    refine deep_tuple_of (by rw [List.length_cons, toDs_map, List.length_map]; have := h.2.2.2.1; omega) fun d hd => ?_
    rcases List.mem_cons.mp hd with rfl | hd
    · exact deep_str h.1
    · rw [toDs_map] at hd
      obtain ⟨c, hc, rfl⟩ := List.mem_map.mp hd
      exact Wn.deep (h.2.2.2.2 c hc)
/-- a drawn condition over some fields, its depth at most n -/
def Gd (fs : List Fld) : Nat → Cd → Prop
  | 0, _ => False
  | _ + 1, .any => True
  | _ + 1, .test f v => ∃ fl ∈ fs, fl.1 = f ∧ v ∈ fl.2
  | n + 1, .node k cs => (k = "not" ∧ cs.length = 1 ∨ (k = "and" ∨ k = "or") ∧ 2 ≤ cs.length ∧ cs.length ≤ 3) ∧ ∀ c ∈ cs, Gd fs n c
/-! ### tests without duplicates -/
section
variable {α : Type} [DecidableEq α]
def addN (acc : List α) (x : α) : List α := if x ∈ acc then acc else acc ++ [x]
def dd (l : List α) : List α := l.foldl addN []
theorem mem_addN {acc : List α} {x y : α} : y ∈ addN acc x ↔ y ∈ acc ∨ y = x := by
  unfold addN
  by_cases h : x ∈ acc
  · rw [if_pos h]
    constructor
    · exact .inl
    · rintro (k | rfl)
      · exact k
      · exact h
  · rw [if_neg h, List.mem_append, List.mem_singleton]
theorem mem_foldN {y : α} : ∀ (l acc : List α), y ∈ l.foldl addN acc ↔ y ∈ acc ∨ y ∈ l
  | [], acc => by simp
  | x :: r, acc => by
    rw [List.foldl_cons, mem_foldN r, mem_addN, List.mem_cons, or_assoc]
theorem fold_snoc (l acc : List α) (x : α) : (l ++ [x]).foldl addN acc = addN (l.foldl addN acc) x := by rw [List.foldl_append]; rfl
theorem fold_dd (l : List α) : ∀ acc : List α, (dd l).foldl addN acc = l.foldl addN acc := by
  have key : ∀ (n : Nat) (l : List α), l.length = n → ∀ acc : List α, (dd l).foldl addN acc = l.foldl addN acc := by
    intro n
    induction n with
    | zero =>
      intro l hl acc
      rw [List.eq_nil_of_length_eq_zero hl]
      rfl
    | succ n ih =>
      intro l hl acc
      obtain ⟨r, x, rfl⟩ : ∃ r x, l = r ++ [x] := ⟨l.dropLast, l.getLast (by intro e; rw [e] at hl; cases hl), (List.dropLast_concat_getLast _).symm⟩
      have hr : r.length = n := by simpa using hl
      rw [fold_snoc, show dd (r ++ [x]) = addN (dd r) x from fold_snoc r [] x]
      by_cases h : x ∈ dd r
      · have hx : x ∈ r.foldl addN acc := (mem_foldN r acc).mpr (.inr (by
          have := (mem_foldN r []).mp h
          simpa using this))
        rw [show addN (dd r) x = dd r from if_pos h, show addN (r.foldl addN acc) x = _ from if_pos hx]
        exact ih r hr acc
      · rw [show addN (dd r) x = dd r ++ [x] from if_neg h, fold_snoc, ih r hr acc]
  exact key l.length l rfl
end
abbrev Pr := Str × Str
def prD (p : Pr) : PyData := .tuple [.str p.1, .str p.2]
def own (c : Cd) : List Pr := match c with
  | .test f v => [(f, v)]
  | _ => []
def tl (c : Cd) : List Pr := (allp c).flatMap own
def tests (c : Cd) : List Pr := dd (tl c)
theorem tl_eq (c : Cd) : tl c = own c ++ (parts c).flatMap tl := by
  unfold tl
  rw [allp_eq, List.flatMap_cons, List.flatMap_assoc]
theorem fold_flat (g : Cd → List Pr) : ∀ (cs : List Cd) (acc : List Pr), (cs.flatMap fun c => dd (g c)).foldl addN acc = (cs.flatMap g).foldl addN acc
  | [], acc => rfl
  | c :: r, acc => by rw [List.flatMap_cons, List.flatMap_cons, List.foldl_append, List.foldl_append, fold_dd, fold_flat g r]
/-- the law's own way, level by level -/
theorem tests_node {c : Cd} (h : own c = []) : tests c = ((parts c).flatMap tests).foldl addN [] := by
  unfold tests
  rw [fold_flat tl, tl_eq, h]
  rfl
theorem eqv_pr (p q : Pr) : PyData.eqv (prD p) (prD q) = decide (p = q) := by
  unfold prD
  obtain ⟨a, b⟩ := p
  obtain ⟨c, d⟩ := q
  simp only [PyData.eqv, PyData.eqvAll, Bool.and_true]
  rw [Bool.eq_iff_iff]
  simp
theorem any_pr (acc : List Pr) (x : Pr) : ((acc.map prD).any fun z => PyData.eqv z (prD x)) = decide (x ∈ acc) := by
  rw [List.any_map, Bool.eq_iff_iff, List.any_eq_true]
  simp only [Function.comp, eqv_pr, decide_eq_true_eq]
  constructor
  · rintro ⟨y, hy, rfl⟩
    exact hy
  · exact fun h => ⟨x, h, rfl⟩
/-! ### more of trees -/
theorem cut_tail (x : V) (xs : List V) : cutV (x :: xs) (some 1) none = xs := by
  unfold cutV
  rw [show HT.sIx (x :: xs).length 0 (some 1) = min 1 (x :: xs).length from HT.sIx_nat _ 0 1, HT.sIx_none, show min 1 (x :: xs).length = 1 by rw [List.length_cons]; omega]
  show List.take ((x :: xs).length - 1) xs = xs
  rw [List.length_cons, Nat.add_sub_cancel]
  exact List.take_length
theorem cut_tail_ne (x : V) (xs : List V) : ¬ (HT.sIx (x :: xs).length 0 (some 1) = 0 ∧ HT.sIx (x :: xs).length (x :: xs).length none = (x :: xs).length) := by
  rintro ⟨h, _⟩
  rw [show HT.sIx (x :: xs).length 0 (some 1) = min 1 (x :: xs).length from HT.sIx_nat _ 0 1, List.length_cons] at h
  omega
def leafW (k : Str) : Bool := inV (.str k) [.str "any", .str "test"]
theorem leafW_no {k : Str} (h1 : k ≠ "any") (h2 : k ≠ "test") : leafW k = false := by
  unfold leafW inV
  simp [eqV]
  exact ⟨fun e => h1 e.symm, fun e => h2 e.symm⟩
theorem tree_open {K : PySem.W.Frag} {H : Hp} {v : V} {c : Cd} {n : Nat} (h : Dp K H v (toD c)) (w : Wn (n + 1) c) :
    ∃ (a : Addr) (k : Str) (xs : List V), v = .ref a ∧ SqT K H a (.str k :: xs) ∧ (leafW k = true → parts c = []) ∧ (leafW k = false → DpAll K H xs ((parts c).map toD)) ∧ (k = "test" → ∃ f g, c = .test f g ∧ xs = [.str f, .str g]) ∧ (k ≠ "test" → own c = []) := by
  cases c with
  | any =>
    unfold toD at h
    cases h with
    | tup hs ha =>
      cases ha with
      | cons h1 h2 =>
        cases h1
        cases h2
        exact ⟨_, _, _, rfl, hs, fun _ => rfl, fun e => absurd e (by decide), fun e => absurd e (by decide), fun _ => rfl⟩
  | test f g =>
    unfold toD at h
    cases h with
    | tup hs ha =>
      cases ha with
      | cons h1 h2 =>
        cases h1
        cases h2 with
        | cons h3 h4 =>
          cases h3
          cases h4 with
          | cons h5 h6 =>
            cases h5
            cases h6
            exact ⟨_, _, _, rfl, hs, fun _ => rfl, fun e => absurd e (by decide), fun _ => ⟨f, g, rfl, rfl⟩, fun e => absurd rfl e⟩
  | node k cs =>
    unfold toD at h
    rw [toDs_map] at h
    cases h with
    | tup hs ha =>
      cases ha with
      | cons h1 h2 =>
        cases h1
        have lw := leafW_no w.2.1 w.2.2.1
        exact ⟨_, _, _, rfl, hs, fun e => by rw [lw] at e; (cases e), fun _ => h2, fun e => absurd e w.2.2.1, fun _ => rfl⟩
theorem Wn.some {n : Nat} {c : Cd} (h : Wn n c) : ∃ m, n = m + 1 := by
  cases n with
  | zero => exact h.elim
  | succ m => exact ⟨m, rfl⟩
theorem size_part {c p : Cd} (h : p ∈ parts c) : size p < size c := by
  have e := size_eq c
  have : (size p : Int) ≤ ((parts c).map fun c => (size c : Int)).sum := by
    generalize parts c = l at h
    clear e
    induction l with
    | nil => cases h
    | cons x r ih =>
      rw [List.map_cons, List.sum_cons]
      have hr : (0 : Int) ≤ (r.map fun c => (size c : Int)).sum := by
        clear ih h
        induction r with
        | nil => exact Int.le_refl 0
        | cons y s ih => rw [List.map_cons, List.sum_cons]; omega
      rcases List.mem_cons.mp h with rfl | h
      · omega
      · have := ih h
        omega
  omega
/-- what is drawn is well formed -/
theorem Gd.wn {fs : List Fld} (hf : ∀ f ∈ fs, PyData.strOk f.1 = true ∧ ∀ m ∈ f.2, PyData.strOk m = true) : ∀ {n : Nat} {c : Cd}, Gd fs n c → Wn n c
  | n + 1, .any, _ => trivial
  | n + 1, .test f v, h => by
    obtain ⟨fl, hfl, rfl, hv⟩ := h
    exact ⟨(hf fl hfl).1, (hf fl hfl).2 v hv⟩
  | n + 1, .node k cs, h => by
    refine ⟨?_, ?_, ?_, ?_, fun c hc => Gd.wn hf (h.2 c hc)⟩
    · rcases h.1 with ⟨rfl, _⟩ | ⟨rfl | rfl, _⟩ <;> decide +kernel
    · rcases h.1 with ⟨rfl, _⟩ | ⟨rfl | rfl, _⟩ <;> decide
    · rcases h.1 with ⟨rfl, _⟩ | ⟨rfl | rfl, _⟩ <;> decide
    · rcases h.1 with ⟨_, h⟩ | ⟨_, _, h⟩ <;> omega
theorem Gd.up {fs : List Fld} : ∀ {n : Nat} {c : Cd}, Gd fs n c → Gd fs (n + 1) c
  | n + 1, .any, _ => trivial
  | n + 1, .test f v, h => h
  | n + 1, .node k cs, h => ⟨h.1, fun c hc => Gd.up (h.2 c hc)⟩
theorem Gd.ups {fs : List Fld} {n m : Nat} {c : Cd} (h : Gd fs n c) (hm : n ≤ m) : Gd fs m c := by
  induction hm with
  | refl => exact h
  | step _ ih => exact ih.up
theorem gd_size {fs : List Fld} : ∀ {n : Nat} {c : Cd}, Gd fs n c → 2 * size c + 1 ≤ 3 ^ n
  | n + 1, .any, _ => by
    have : 0 < 3 ^ n := Nat.pow_pos (by decide)
    show 2 * size .any + 1 ≤ _
    rw [Nat.pow_succ, show size .any = 1 by rw [size]]
    omega
  | n + 1, .test f v, _ => by
    have : 0 < 3 ^ n := Nat.pow_pos (by decide)
    rw [Nat.pow_succ, show size (.test f v) = 1 by rw [size]]
    omega
  | n + 1, .node k cs, h => by
    have hl : cs.length ≤ 3 := by rcases h.1 with ⟨_, h⟩ | ⟨_, _, h⟩ <;> omega
    have hs : ∀ (l : List Cd), (∀ c ∈ l, 2 * size c + 1 ≤ 3 ^ n) → 2 * sizes l + l.length ≤ l.length * 3 ^ n := by
      intro l
      induction l with
      | nil => intro _; rw [sizes]; simp
      | cons x r ih =>
        intro hx
        have h1 := hx x List.mem_cons_self
        have h2 := ih fun c hc => hx c (List.mem_cons_of_mem _ hc)
        rw [sizes, List.length_cons, Nat.add_mul, Nat.one_mul]
        omega
    have k1 := hs cs fun c hc => gd_size (h.2 c hc)
    have k2 : cs.length * 3 ^ n ≤ 3 * 3 ^ n := Nat.mul_le_mul_right _ hl
    have h1 : 1 ≤ cs.length := by rcases h.1 with ⟨_, h⟩ | ⟨_, h, _⟩ <;> omega
    rw [Nat.pow_succ, show size (.node k cs) = 1 + sizes cs by rw [size]]
    by_cases hc : cs.length = 3
    · omega
    · have k3 : cs.length * 3 ^ n ≤ 2 * 3 ^ n := Nat.mul_le_mul_right _ (by omega)
      have : 0 < 3 ^ n := Nat.pow_pos (by decide)
      have g : n ≠ 0 := by
        rintro rfl
        obtain ⟨c, hc⟩ := List.exists_mem_of_length_pos (show 0 < cs.length by omega)
        exact h.2 c hc
      have : 3 ≤ 3 ^ n := by
        cases n with
        | zero => exact absurd rfl g
        | succ m =>
          have : 0 < 3 ^ m := Nat.pow_pos (by decide)
          rw [Nat.pow_succ]
          omega
      omega
theorem tests_ok : ∀ {n : Nat} {c : Cd}, Wn n c → ∀ p ∈ tl c, PyData.strOk p.1 = true ∧ PyData.strOk p.2 = true
  | n + 1, c, h, p, hp => by
    rw [tl_eq, List.mem_append] at hp
    rcases hp with hp | hp
    · cases c with
      | any => cases hp
      | test f v =>
        rw [List.mem_singleton.mp hp]
        exact h
      | node k cs => cases hp
    · obtain ⟨q, hq, hp⟩ := List.mem_flatMap.mp hp
      exact tests_ok (h.parts.2 q hq) p hp
theorem mem_dd {l : List Pr} {p : Pr} : p ∈ dd l ↔ p ∈ l := by
  unfold dd
  rw [mem_foldN]
  simp
theorem prs_deep {l : List Pr} {n : Nat} (hl : l.length < 50000) (h : ∀ p ∈ l, PyData.strOk p.1 = true ∧ PyData.strOk p.2 = true) : deep (n + 3) (.list (l.map prD)) = true := by
  refine deep_list_of (by rw [List.length_map]; exact hl) fun d hd => ?_
  obtain ⟨p, hp, rfl⟩ := List.mem_map.mp hd
  have k := h p hp
  unfold prD
  refine deep_tuple_of (by show 2 < 50000; decide) fun d hd => ?_
  rcases List.mem_cons.mp hd with rfl | hd
  · exact deep_str k.1
  · rw [List.mem_singleton.mp hd]
    exact deep_str k.2
theorem pr_deep {p : Pr} {n : Nat} (k : PyData.strOk p.1 = true ∧ PyData.strOk p.2 = true) : deep (n + 2) (prD p) = true := by
  unfold prD
  refine deep_tuple_of (by show 2 < 50000; decide) fun d hd => ?_
  rcases List.mem_cons.mp hd with rfl | hd
  · exact deep_str k.1
  · rw [List.mem_singleton.mp hd]
    exact deep_str k.2
theorem dd_le (l : List Pr) : (dd l).length ≤ l.length := by
  have key : ∀ (l acc : List Pr), (l.foldl addN acc).length ≤ acc.length + l.length := by
    intro l
    induction l with
    | nil => intro acc; simp
    | cons x r ih =>
      intro acc
      rw [List.foldl_cons, List.length_cons]
      refine Nat.le_trans (ih _) ?_
      unfold addN
      split
      · omega
      · rw [List.length_append, List.length_singleton]; omega
  have := key l []
  simpa [dd] using this
theorem tl_le (c : Cd) : (tl c).length ≤ size c := by
  unfold tl
  rw [← allp_len]
  generalize allp c = l
  induction l with
  | nil => exact Nat.le_refl _
  | cons x r ih =>
    rw [List.flatMap_cons, List.length_append, List.length_cons]
    have : (own x).length ≤ 1 := by cases x <;> simp [own]
    omega
/-! ### a comprehension over a list whose items stand for things -/
theorem lc_each {β : Type} {J : It} {G : Hp → Prop} {xs : List V} (bs : List β) (hl : xs.length = bs.length) (w : Walk J xs.length G (YAt xs)) {g : TG} {tt : TT} {te : TE} {vs : List Nat} {σ : L2.St} {H1 : Hp} {D : Addr} {Qd : Hp → Prop} (hD : H1 D = none) (f : β → V) (hG : ∀ H, Same H1 H → G H) (hn : xs.length < 100000)
    (hs : ∀ (i : Nat) x bb H (Qe : V → Hp → Prop) (Z : Hp → Prop), xs[i]? = some x → bs[i]? = some bb → Same H1 H → (∀ H4, Same H H4 → Qe (f bb) H4) → g x (wipe σ vs) H fun σ2 H2 => wipe σ2 vs = wipe σ vs ∧ tt σ2 H2 fun b H3 => if b = true then te σ2 H3 Qe else Z H3)
    (hd : ∀ H, Same H1 H → H D = some (.lst (bs.map f)) → Qd H) :
    ∃ W : Nat → Nat → Hp → Prop, (∃ m, W 0 m (upd H1 D (.lst []))) ∧ ∀ i m H, W i m H →
      (J.stop i H ∧ Qd H) ∨ (J.go i H ∧ ∃ Nx : Hp → Prop, (∀ H', Nx H' → ∃ m', m' < m ∧ W (i + 1) m' H') ∧ ∀ x H', J.yld i H x H' → g x (wipe σ vs) H' fun σ2 H2 => wipe σ2 vs = wipe σ vs ∧ tt σ2 H2 fun b H3 =>
        if b = true then te σ2 H3 fun y H4 => ∃ acc, H4 D = some (.lst acc) ∧ acc.length < sizeLine ∧ Nx (upd H4 D (.lst (acc ++ [y]))) else Nx H3) := by
  refine lc_it w (fun i H => Same H1 H ∧ H D = some (.lst ((bs.take i).map f))) ⟨same_new hD, by rw [upd_same]; rfl⟩ (fun i H _ h => hG H h.1) ?_ ?_
  · rintro i x H H' hi ⟨sm, hy⟩ ⟨rfl, hx⟩
    have hib : i < bs.length := by omega
    have hb := List.getElem?_eq_getElem hib
    refine hs i x _ H' _ _ hx hb sm fun H4 s4 => ⟨_, s4 _ _ hy, szt ?_, fun a o e => ?_, ?_⟩
    · rw [List.length_map, List.length_take]
      omega
    · rw [upd_ne (ne_of_none e hD)]
      exact s4 _ _ (sm _ _ e)
    · rw [upd_same, List.take_add_one, hb, List.map_append]
      rfl
  · rintro H ⟨sm, hy⟩
    rw [hl, List.take_length] at hy
    exact hd H sm hy
theorem dpa_len' {K : PySem.W.Frag} {H : Hp} {β : Type} {vs : List V} {bs : List β} {f : β → PyData} (h : DpAll K H vs (bs.map f)) : vs.length = bs.length := by rw [dpa_len h, List.length_map]
theorem dpa_get' {K : PySem.W.Frag} {H : Hp} {β : Type} {vs : List V} {bs : List β} {f : β → PyData} {i : Nat} {v : V} {x : β} (h : DpAll K H vs (bs.map f)) (hv : vs[i]? = some v) (hb : bs[i]? = some x) : Dp K H v (f x) := by
  obtain ⟨d, h1, h2⟩ := dpa_get h hv
  rw [List.getElem?_map, hb] at h1
  cases h1
  exact h2
theorem dpa_app {K : PySem.W.Frag} {H : Hp} : ∀ {vs ws : List V} {ds es : List PyData}, DpAll K H vs ds → DpAll K H ws es → DpAll K H (vs ++ ws) (ds ++ es)
  | _, _, _, _, .nil, h => h
  | _, _, _, _, .cons h t, k => .cons h (dpa_app t k)
theorem at0 {α : Type} (x : α) (xs : List α) : atI (x :: xs) 0 = some x := atI_nat (j := 0) rfl
theorem take_allp (l : List Cd) (k : Nat) : ((l.take k).flatMap allp).length ≤ (l.flatMap allp).length := by
  have e : l.flatMap allp = (l.take k).flatMap allp ++ (l.drop k).flatMap allp := by rw [← List.flatMap_append, List.take_append_drop]
  rw [e, List.length_append]
  omega
theorem wn_all : ∀ {n : Nat} {c : Cd}, Wn n c → ∀ p ∈ allp c, ∃ m, Wn (m + 1) p
  | n + 1, c, h, p, hp => by
    rw [allp_eq, List.mem_cons] at hp
    rcases hp with rfl | hp
    · exact ⟨n, h⟩
    · obtain ⟨q, hq, hp⟩ := List.mem_flatMap.mp hp
      exact wn_all (h.parts.2 q hq) p hp
theorem own_sub {c : Cd} {i : Nat} {p : Pr} (h : p ∈ dd (((allp c).take i).flatMap own)) : p ∈ tl c := by
  rw [mem_dd] at h
  obtain ⟨q, hq, hp⟩ := List.mem_flatMap.mp h
  exact List.mem_flatMap.mpr ⟨q, List.mem_of_mem_take hq, hp⟩
theorem own_le {c : Cd} {i : Nat} : (dd (((allp c).take i).flatMap own)).length ≤ size c := by
  refine Nat.le_trans (dd_le _) ?_
  rw [← allp_len]
  generalize allp c = l
  have : ∀ l : List Cd, (l.flatMap own).length ≤ l.length := by
    intro l
    induction l with
    | nil => exact Nat.le_refl _
    | cons x r ih =>
      rw [List.flatMap_cons, List.length_append, List.length_cons]
      have : (own x).length ≤ 1 := by cases x <;> simp [own]
      omega
  refine Nat.le_trans (this _) ?_
  rw [List.length_take]
  omega
theorem own_step {c pc : Cd} {i : Nat} (h : (allp c)[i]? = some pc) : ((allp c).take (i + 1)).flatMap own = ((allp c).take i).flatMap own ++ own pc := by
  rw [List.take_add_one, h, List.flatMap_append]
  simp
theorem dd_same {l : List Pr} {x : Pr} (h : x ∈ dd l) : dd (l ++ [x]) = dd l := by
  rw [show dd (l ++ [x]) = addN (dd l) x from fold_snoc l [] x]
  exact if_pos h
theorem dd_more {l : List Pr} {x : Pr} (h : x ∉ dd l) : dd (l ++ [x]) = dd l ++ [x] := by
  rw [show dd (l ++ [x]) = addN (dd l) x from fold_snoc l [] x]
  exact if_neg h
/-- a new object ahead of a hidden list -/
theorem dl1_new {H : Hp} {D p : Addr} {o : HO} (hD : ∃ u, H D = some u) (hp : H p = none) : dl (upd H p o) [D] = upd (dl H [D]) p o := dl_new fun z => by
  rw [List.mem_singleton.mp z] at hp
  obtain ⟨u, e⟩ := hD
  rw [e] at hp
  cases hp
theorem dl1_free {H : Hp} {D p : Addr} (hp : H p = none) : dl H [D] p = none := by
  by_cases z : p ∈ [D]
  · exact dl_at z
  · rw [dl_ne z]; exact hp
theorem tests_le (c : Cd) : (tests c).length ≤ size c := Nat.le_trans (dd_le _) (tl_le c)
theorem tests_sub {c : Cd} {p : Pr} (h : p ∈ tests c) : p ∈ tl c := mem_dd.mp h
theorem tl_part {c q : Cd} {p : Pr} (hq : q ∈ parts c) (h : p ∈ tl q) : p ∈ tl c := by
  rw [tl_eq, List.mem_append]
  exact .inr (List.mem_flatMap.mpr ⟨q, hq, h⟩)
theorem ft_le (c : Cd) (k : Nat) : (((parts c).take k).flatMap tests).length ≤ size c := by
  have h : ∀ l : List Cd, (l.flatMap tests).length ≤ (l.flatMap allp).length := by
    intro l
    induction l with
    | nil => exact Nat.le_refl _
    | cons x r ih =>
      rw [List.flatMap_cons, List.flatMap_cons, List.length_append, List.length_append, allp_len]
      have := tests_le x
      omega
  have h2 := take_allp (parts c) k
  have h3 := allp_len c
  rw [allp_eq, List.length_cons] at h3
  have := h ((parts c).take k)
  omega
theorem fold_le {l acc : List Pr} : (l.foldl addN acc).length ≤ acc.length + l.length := by
  induction l generalizing acc with
  | nil => simp
  | cons x r ih =>
    rw [List.foldl_cons, List.length_cons]
    refine Nat.le_trans ih ?_
    unfold addN
    split
    · omega
    · rw [List.length_append, List.length_singleton]; omega
theorem strs_deep {ss : List Str} {n : Nat} (hl : ss.length < 50000) (h : ∀ s ∈ ss, PyData.strOk s = true) : deep (n + 2) (.list (ss.map PyData.str)) = true := by
  refine deep_list_of (by rw [List.length_map]; exact hl) fun d hd => ?_
  obtain ⟨p, hp, rfl⟩ := List.mem_map.mp hd
  exact deep_str (h p hp)
end Hr

set_option Elab.async false
set_option linter.all false
set_option maxRecDepth 100000
set_option maxHeartbeats 4000000
namespace Hr
open PySem PySem.Spec PyProof.Rows L2
theorem len_le (t : Str) {n : Nat} (h : t.length ≤ n) : t.cps.size ≤ n := h
theorem sign_at {t : Str} {i c : Nat} (h : t.cps[i]? = some c) : t.cps.toList.getD i 0 = c := by
  rw [List.getD_eq_getElem?_getD, Array.getElem?_toList, h]
  rfl
theorem range_getD {α β : Type} (l : List α) (d : α) (f : α → β) : (List.range l.length).map (fun i => f (l.getD i d)) = l.map f := by
  apply List.ext_getElem
  · simp
  · intro i h1 h2
    simp at h1
    simp [List.getD_eq_getElem?_getD, h1]
def allIn (t cs : Str) : Bool := t.cps.toList.all fun c => decide (c ∈ cs.cps.toList)
def consists (t cs : Str) : Bool := decide (1 ≤ (t.length : Int)) && (decide ((t.length : Int) ≤ 8) && allIn t cs)
theorem all_end {K : PySem.W.Frag} {t cs : Str} {H : Hp} {D : Addr} {Q : VK} {n : Nat} (hn : n = t.cps.toList.length) (c1 : decide (1 ≤ (t.length : Int)) = true) (c2 : decide ((t.length : Int) ≤ 8) = true) (hL : H D = some (.lst ((List.range n).map fun i => V.bl (decide (t.cps.toList.getD i 0 ∈ cs.cps.toList))))) (q : Q (.bl (consists t cs)) H) :
    ∃ (a : Addr) (bs : List Bool), [V.ref D] = [V.ref a] ∧ SqL K H a (bs.map V.bl) ∧ Q (.bl (bs.all id)) H := by
  subst hn
  refine ⟨D, (t.cps.toList.map fun c => decide (c ∈ cs.cps.toList)), rfl, .inl (.inl ?_), ?_⟩
  · rw [hL, List.map_map]
    exact congrArg (fun l => some (HO.lst l)) (range_getD t.cps.toList 0 (fun c => V.bl (decide (c ∈ cs.cps.toList))))
  · have e : consists t cs = (t.cps.toList.map fun c => decide (c ∈ cs.cps.toList)).all id := by
      unfold consists allIn
      rw [c1, c2, List.all_map]
      rfl
    exact e ▸ q
def sp_consists : Sp := fun vs H Q _ => ∃ t cs, vs = [.str t, .str cs] ∧ t.length ≤ 50000 ∧ ∀ H', Same H H' → Q (.bl (consists t cs)) H'
def sp_word (cs : Str) : Sp := fun vs H Q _ => ∃ t, vs = [.str t] ∧ t.length ≤ 50000 ∧ ∀ H', Same H H' → Q (.bl (consists t cs)) H'
abbrev nameC : Str := "abcdefghijklmnopqrstuvwxyz"
abbrev valueC : Str := "abcdefghijklmnopqrstuvwxyz0123456789"
theorem bT {c : Bool} {A B : Prop} (h : c = true) (a : A) : if c = true then A else B := by
  rw [if_pos h]
  exact a
theorem bF {c : Bool} {A B : Prop} (h : c = false) (b : B) : if c = true then A else B := by
  rw [h, if_neg Bool.false_ne_true]
  exact b
theorem dec_v {i j : Int} {p : Prop} [Decidable p] (h : i = j ↔ p) : decide (V.int i = V.int j) = decide p := by
  by_cases hp : p
  · rw [decide_eq_true hp, decide_eq_true (congrArg V.int (h.mpr hp))]
  · rw [decide_eq_false hp, decide_eq_false fun e => hp (h.mp (V.int.inj e))]
theorem dec_p {p q : Prop} [Decidable p] [Decidable q] (h : p ↔ q) : decide p = decide q := by
  by_cases hq : q
  · rw [decide_eq_true hq, decide_eq_true (h.mpr hq)]
  · rw [decide_eq_false hq, decide_eq_false fun e => hq (h.mp e)]
theorem two_of {α : Type} {xs : List α} (h : xs.length = 2) : ∃ a b, xs = [a, b] := by
  match xs, h with
  | [a, b], _ => exact ⟨a, b, rfl⟩
theorem one_of {α : Type} {xs : List α} (h : xs.length = 1) : ∃ a, xs = [a] := by
  match xs, h with
  | [a], _ => exact ⟨a, rfl⟩
theorem beq_dec (a k : Str) : (a == k) = decide (k = a) := by
  rw [Bool.eq_iff_iff, beq_iff_eq, decide_eq_true_eq]
  exact eq_comm
theorem in_two (k a b : Str) : inV (.str k) [.str a, .str b] = (decide (k = a) || decide (k = b)) := by
  show ((a == k) || ((b == k) || false)) = _
  rw [beq_dec, beq_dec, Bool.or_false]
/-! ### things: nested tuples of texts whose first item, if any, is a text -/
inductive Th where
  | str (s : Str)
  | nil
  | tup (k : Str) (xs : List Th)
mutual
def toT : Th → PyData
  | .str s => .str s
  | .nil => .tuple []
  | .tup k xs => .tuple (.str k :: toTs xs)
def toTs : List Th → List PyData
  | [] => []
  | t :: r => toT t :: toTs r
end
theorem toTs_map : ∀ ts, toTs ts = ts.map toT
  | [] => by unfold toTs; rfl
  | t :: r => by unfold toTs; rw [toTs_map r]; rfl
def kids : Th → List Th
  | .tup k xs => if leafW k = true then [] else xs
  | _ => []
mutual
def cnt : Th → Nat
  | .str _ => 1
  | .nil => 1
  | .tup k xs => 1 + (if leafW k = true then 0 else cnts xs)
def cnts : List Th → Nat
  | [] => 0
  | t :: r => cnt t + cnts r
end
theorem cnts_sum : ∀ ts, cnts ts = (ts.map cnt).sum
  | [] => by unfold cnts; rfl
  | t :: r => by unfold cnts; rw [cnts_sum r, List.map_cons, List.sum_cons]
theorem cnt_eq (t : Th) : cnt t = 1 + ((kids t).map cnt).sum := by
  cases t with
  | str s => unfold cnt kids; rfl
  | nil => unfold cnt kids; rfl
  | tup k xs =>
    rw [show cnt (.tup k xs) = 1 + (if leafW k = true then 0 else cnts xs) by rw [cnt]]
    rw [show kids (.tup k xs) = if leafW k = true then [] else xs from rfl]
    by_cases h : leafW k = true
    · rw [if_pos h, if_pos h]; rfl
    · rw [if_neg h, if_neg h, cnts_sum]
def fieldOk (f : Str) : Bool := consists f nameC && !decide (f = "any")
def testOk : List Th → Bool
  | [.str f, .str v] => fieldOk f && consists v valueC
  | _ => false
/-- is it a condition if its parts are? -/
def form : Th → Bool
  | .tup k xs => if k = "any" then decide (xs.length = 0) else if k = "test" then testOk xs else if k = "not" then decide (xs.length = 1) else (decide (k = "and") || decide (k = "or")) && decide (2 ≤ xs.length)
  | _ => false
def isT : Nat → Th → Bool
  | 0, _ => false
  | n + 1, t => form t && (kids t).all (isT n)
/-- bounded things -/
def WT : Nat → Th → Prop
  | 0, _ => False
  | _ + 1, .str s => PyData.strOk s = true ∧ s.length ≤ 1000
  | _ + 1, .nil => True
  | n + 1, .tup k xs => (PyData.strOk k = true ∧ k.length ≤ 1000) ∧ xs.length < 1000 ∧ ∀ x ∈ xs, WT n x
theorem WT.deep : ∀ {n : Nat} {t : Th}, WT n t → deep (n + 1) (toT t) = true
  | n + 1, .str s, h => by unfold toT; exact deep_str h.1
  | n + 1, .nil, _ => by unfold toT; exact deep_tuple_of (by show 0 < 50000; decide) fun d hd => nomatch hd
  | n + 1, .tup k xs, h => by
    unfold toT
    refine deep_tuple_of (by rw [List.length_cons, toTs_map, List.length_map]; have := h.2.1; omega) fun d hd => ?_
    rcases List.mem_cons.mp hd with rfl | hd
    · exact deep_str h.1.1
    · rw [toTs_map] at hd
      obtain ⟨c, hc, rfl⟩ := List.mem_map.mp hd
      exact WT.deep (h.2.2 c hc)
theorem WT.up : ∀ {n : Nat} {t : Th}, WT n t → WT (n + 1) t
  | n + 1, .str s, h => h
  | n + 1, .nil, _ => trivial
  | n + 1, .tup k xs, h => ⟨h.1, h.2.1, fun x hx => WT.up (h.2.2 x hx)⟩
theorem WT.ups {n m : Nat} {t : Th} (h : WT n t) (hm : n ≤ m) : WT m t := by
  induction hm with
  | refl => exact h
  | step _ ih => exact ih.up
theorem WT.kids {n : Nat} {t : Th} (h : WT (n + 1) t) : (kids t).length < 1000 ∧ ∀ x ∈ kids t, WT n x := by
  cases t with
  | str s => exact ⟨by show 0 < 1000; decide, fun _ h => nomatch h⟩
  | nil => exact ⟨by show 0 < 1000; decide, fun _ h => nomatch h⟩
  | tup k xs =>
    show (if leafW k = true then [] else xs).length < 1000 ∧ ∀ x ∈ (if leafW k = true then [] else xs), WT n x
    split
    · exact ⟨by show 0 < 1000; decide, fun _ h => nomatch h⟩
    · exact h.2
mutual
def th : Cd → Th
  | .any => .tup "any" []
  | .test f v => .tup "test" [.str f, .str v]
  | .node k cs => .tup k (ths cs)
def ths : List Cd → List Th
  | [] => []
  | c :: r => th c :: ths r
end
theorem ths_map : ∀ cs, ths cs = cs.map th
  | [] => by unfold ths; rfl
  | c :: r => by unfold ths; rw [ths_map r]; rfl
theorem th_toD : ∀ {n : Nat} {c : Cd}, Wn n c → toT (th c) = toD c
  | n + 1, .any, _ => by unfold th toT toTs toD; rfl
  | n + 1, .test f v, _ => by unfold th toT toTs toTs toTs toT toD; rfl
  | n + 1, .node k cs, h => by
    unfold th toT toD
    rw [toTs_map, ths_map, toDs_map, List.map_map]
    congr 2
    exact List.map_congr_left fun c hc => th_toD (h.2.2.2.2 c hc)
/-- what passes is a condition in the narrow sense -/
theorem isT_cd : ∀ (n : Nat) (m : Nat) (t : Th), isT n t = true → WT m t → ∃ c, toD c = toT t ∧ Wn n c ∧ size c = cnt t
  | 0, _, _, h, _ => by cases h
  | _ + 1, 0, _, _, hw => hw.elim
  | n + 1, m + 1, t, h, hw => by
    have h' := Bool.and_eq_true_iff.mp h
    cases t with
    | str s => cases h'.1
    | nil => cases h'.1
    | tup k xs =>
      have hf : (if k = "any" then decide (xs.length = 0) else if k = "test" then testOk xs else if k = "not" then decide (xs.length = 1) else (decide (k = "and") || decide (k = "or")) && decide (2 ≤ xs.length)) = true := h'.1
      have hk := List.all_eq_true.mp h'.2
      by_cases e1 : k = "any"
      · subst e1
        rw [if_pos rfl] at hf
        have e0 : xs = [] := List.eq_nil_of_length_eq_zero (of_decide_eq_true hf)
        subst e0
        exact ⟨.any, by unfold toD toT toTs; rfl, trivial, by rw [size, cnt]; rfl⟩
      · rw [if_neg e1] at hf
        by_cases e2 : k = "test"
        · subst e2
          rw [if_pos rfl] at hf
          match xs, hf, hw with
          | [.str f, .str v], hf, hw =>
            have w1 := hw.2.2 (.str f) (by simp)
            have w2 := hw.2.2 (.str v) (by simp)
            cases m with
            | zero => exact w1.elim
            | succ m => exact ⟨.test f v, by unfold toD toT toTs toTs toTs toT; rfl, ⟨w1.1, w2.1⟩, by rw [size, cnt]; rfl⟩
        · rw [if_neg e2] at hf
          have lw := leafW_no e1 e2
          have ek : kids (.tup k xs) = xs := if_neg (by rw [lw]; decide)
          rw [ek] at hk
          have hcs : ∃ cs : List Cd, cs.map toD = xs.map toT ∧ (∀ c ∈ cs, Wn n c) ∧ sizes cs = cnts xs ∧ cs.length = xs.length := by
            have hx := hw.2.2
            clear hf ek h h' hw
            induction xs with
            | nil => exact ⟨[], rfl, fun _ h => (nomatch h), by rw [sizes, cnts], rfl⟩
            | cons x r ih =>
              obtain ⟨c, c1, c2, c3⟩ := isT_cd n m x (hk x List.mem_cons_self) (hx x List.mem_cons_self)
              obtain ⟨cs, d1, d2, d3, d4⟩ := ih (fun y hy => hk y (List.mem_cons_of_mem _ hy)) fun y hy => hx y (List.mem_cons_of_mem _ hy)
              refine ⟨c :: cs, by rw [List.map_cons, List.map_cons, c1, d1], fun y hy => ?_, by rw [sizes, cnts, c3, d3], by rw [List.length_cons, List.length_cons, d4]⟩
              rcases List.mem_cons.mp hy with rfl | hy
              · exact c2
              · exact d2 y hy
          obtain ⟨cs, d1, d2, d3, d4⟩ := hcs
          refine ⟨.node k cs, ?_, ⟨hw.1.1, e1, e2, by have := hw.2.1; omega, d2⟩, ?_⟩
          · unfold toD toT
            rw [toDs_map, toTs_map, d1]
          · rw [size, cnt, if_neg (by rw [lw]; decide), d3]
theorem Wn.wt : ∀ {n : Nat} {c : Cd}, Wn n c → (∀ p ∈ tl c, p.1.length ≤ 1000 ∧ p.2.length ≤ 1000) → (∀ q ∈ allp c, ∀ k cs, q = .node k cs → k.length ≤ 1000) → WT (n + 1) (th c)
  | n + 1, .any, _, _, _ => by unfold th; exact ⟨⟨by decide +kernel, by decide⟩, by decide, fun _ h => nomatch h⟩
  | n + 1, .test f v, h, hl, _ => by
    unfold th
    have k := hl (f, v) (by rw [tl_eq]; exact List.mem_append_left _ List.mem_cons_self)
    refine ⟨⟨by decide +kernel, by decide⟩, by show 2 < 1000; decide, fun x hx => ?_⟩
    rcases List.mem_cons.mp hx with rfl | hx
    · exact ⟨h.1, k.1⟩
    · rw [List.mem_singleton.mp hx]
      exact ⟨h.2, k.2⟩
  | n + 1, .node k cs, h, hl, hk => by
    unfold th
    rw [ths_map]
    refine ⟨⟨h.1, hk _ (by rw [allp_eq]; exact List.mem_cons_self) k cs rfl⟩, by rw [List.length_map]; exact h.2.2.2.1, fun x hx => ?_⟩
    obtain ⟨c, hc, rfl⟩ := List.mem_map.mp hx
    refine Wn.wt (h.2.2.2.2 c hc) (fun p hp => hl p (tl_part (c := .node k cs) hc hp)) fun q hq => hk q ?_
    rw [allp_eq]
    exact List.mem_cons_of_mem _ (List.mem_flatMap.mpr ⟨c, hc, hq⟩)
/-! ### comprehensions that make data (no bag) -/
theorem lc_dat {J : It} {n : Nat} {G : Hp → Prop} {Y : Nat → Hp → V → Hp → Prop} (w : Walk J n G Y) {g : TG} {tt : TT} {te : TE} {vs : List Nat} {σ : L2.St} {H1 : Hp} {D : Addr} {Qd : Hp → Prop} (S : List Addr) (hD : H1 D = none) (P : Nat → V → Hp → Prop) (hP : ∀ i y H H', Same H H' → P i y H → P i y H') (hG : ∀ H, Same H1 H → G H) (hn : n < 100000)
    (hs : ∀ i x H H' (Qe : V → Hp → Prop) (Z : Hp → Prop), i < n → Same H1 H → Same (dl H1 S) (dl H (D :: S)) → (∃ xs, H D = some (.lst xs)) → (∀ y H4, Same H H4 → P i y (dl H4 (D :: S)) → Qe y H4) → Y i H x H' → g x (wipe σ vs) H' fun σ2 H2 => wipe σ2 vs = wipe σ vs ∧ tt σ2 H2 fun bb H3 => if bb = true then te σ2 H3 Qe else Z H3)
    (hd : ∀ H ys, Same H1 H → ys.length = n → H D = some (.lst ys) → (∀ (i : Nat) y, ys[i]? = some y → P i y (dl H (D :: S))) → Qd H) :
    ∃ W : Nat → Nat → Hp → Prop, (∃ m, W 0 m (upd H1 D (.lst []))) ∧ ∀ i m H, W i m H →
      (J.stop i H ∧ Qd H) ∨ (J.go i H ∧ ∃ Nx : Hp → Prop, (∀ H', Nx H' → ∃ m', m' < m ∧ W (i + 1) m' H') ∧ ∀ x H', J.yld i H x H' → g x (wipe σ vs) H' fun σ2 H2 => wipe σ2 vs = wipe σ vs ∧ tt σ2 H2 fun b H3 =>
        if b = true then te σ2 H3 fun y H4 => ∃ acc, H4 D = some (.lst acc) ∧ acc.length < sizeLine ∧ Nx (upd H4 D (.lst (acc ++ [y]))) else Nx H3) := by
  refine lc_it w (fun i H => Same H1 H ∧ ∃ ys, H D = some (.lst ys) ∧ ys.length = i ∧ ∀ (i : Nat) y, ys[i]? = some y → P i y (dl H (D :: S))) ⟨same_new hD, [], upd_same, rfl, fun _ _ h => by simp at h⟩ (fun i H _ h => hG H h.1) ?_ ?_
  · rintro i x H H' hi ⟨sm, ys, hy, hl, hp⟩ y
    refine hs i x H H' _ _ hi sm (fun a o e => ?_) ⟨ys, hy⟩ (fun y H4 s4 p4 => ⟨ys, s4 D _ hy, szt (by omega), fun a o e => ?_, ys ++ [y], upd_same, by simp [hl], fun j z hz => ?_⟩) y
    · obtain ⟨h1, h2⟩ := dl_some e
      rw [dl_ne (fun z => (List.mem_cons.mp z).elim (fun z => ne_of_none h2 hD z) h1)]
      exact sm a o h2
    · rw [upd_ne (ne_of_none e hD)]
      exact s4 a o (sm a o e)
    · rw [dl_upd List.mem_cons_self]
      by_cases hj : j < ys.length
      · rw [List.getElem?_append_left hj] at hz
        exact hP j z _ _ (dl_mono s4) (hp j z hz)
      · have ej : j = i := by
          have := (List.getElem?_eq_some_iff.mp hz).1
          rw [List.length_append, List.length_singleton] at this
          omega
        subst ej
        rw [List.getElem?_append_right (by omega), hl, Nat.sub_self] at hz
        cases hz
        exact p4
  · rintro H ⟨sm, ys, hy, hl, hp⟩
    exact hd H ys sm hl hy hp
/-! ### the stack of is_condition -/
abbrev It2 := Th × Nat
def itD (p : It2) : PyData := .tuple [toT p.1, .int p.2]
def okW (W : List It2) : Bool := W.all fun p => isT (9 - p.2) p.1
def cntW (W : List It2) : Nat := (W.map fun p => cnt p.1).sum
theorem cnt_pos (t : Th) : 1 ≤ cnt t := by rw [cnt_eq]; omega
theorem okW_app (A B : List It2) : okW (A ++ B) = (okW A && okW B) := by unfold okW; rw [List.all_append]
theorem cntW_app (A B : List It2) : cntW (A ++ B) = cntW A + cntW B := by unfold cntW; rw [List.map_append, List.sum_append]
theorem okW_kids (t : Th) (d : Nat) : okW ((kids t).map fun c => (c, d + 1)) = (kids t).all (isT (8 - d)) := by
  unfold okW
  rw [List.all_map]
  congr 1
  funext c
  show isT (9 - (d + 1)) c = _
  rw [show 9 - (d + 1) = 8 - d by omega]
theorem cntW_kids (t : Th) (d : Nat) : 1 + cntW ((kids t).map fun c => (c, d + 1)) = cnt t := by
  unfold cntW
  rw [List.map_map, cnt_eq]
  rfl
theorem isT_open {t : Th} {d : Nat} (h : d ≤ 8) : isT (9 - d) t = (form t && (kids t).all (isT (8 - d))) := by
  rw [show 9 - d = (8 - d) + 1 by omega]
  rfl
theorem form_tup {t : Th} (h : form t = true) : ∃ k xs, t = .tup k xs := by
  cases t with
  | str s => cases h
  | nil => cases h
  | tup k xs => exact ⟨k, xs, rfl⟩
theorem dpa_snoc {K : PySem.W.Frag} {H : Hp} : ∀ {ds : List PyData} {e : PyData} {ws : List V}, DpAll K H ws (ds ++ [e]) → ∃ ws0 w, ws = ws0 ++ [w] ∧ DpAll K H ws0 ds ∧ Dp K H w e
  | [], e, ws, h => by
    cases h with
    | cons h1 h2 =>
      cases h2
      exact ⟨[], _, rfl, .nil, h1⟩
  | d :: ds, e, ws, h => by
    cases h with
    | cons h1 h2 =>
      obtain ⟨ws0, w, rfl, k1, k2⟩ := dpa_snoc h2
      exact ⟨_ :: ws0, w, rfl, .cons h1 k1, k2⟩
theorem last_at' {α : Type} (xs : List α) (x : α) : (xs ++ [x])[(xs ++ [x]).length - 1]? = some x := by
  rw [List.length_append, List.length_singleton, Nat.add_sub_cancel, List.getElem?_append_right (Nat.le_refl _), Nat.sub_self]
  rfl
/-! ### expressions that make data -/
section
variable {K : PySem.W.Frag} {S : List Addr} {σ : L2.St} {H : Hp}
def EvD (K : PySem.W.Frag) (S : List Addr) (σ : L2.St) (H : Hp) (te : TE) (d : PyData) : Prop := ∀ H1, Same H H1 → ∀ Q : VK, (∀ v H2, Same H1 H2 → Dp K (dl H2 S) v d → Q v H2) → te σ H1 Q
def EvDs (K : PySem.W.Frag) (S : List Addr) (σ : L2.St) (H : Hp) (ta : TA) (ds : List PyData) : Prop := ∀ H1, Same H H1 → ∀ Q : List V → Hp → Prop, (∀ vs H2, Same H1 H2 → DpAll K (dl H2 S) vs ds → Q vs H2) → ta σ H1 Q
theorem evd_str {s : Str} : EvD K S σ H (tC (.str s)) (.str s) := fun H1 _ _ q => q _ H1 (Same.refl _) (.str _)
theorem evd_int {i : Int} : EvD K S σ H (tC (.int i)) (.int i) := fun H1 _ _ q => q _ H1 (Same.refl _) (.int _)
theorem evd_bl {b : Bool} : EvD K S σ H (tC (.bl b)) (.bool b) := fun H1 _ _ q => q _ H1 (Same.refl _) (.bl _)
theorem evd_var {i : Nat} {v : V} {d : PyData} (h : σ[i]? = some (some v)) (hd : Dp K (dl H S) v d) : EvD K S σ H (tVar i) d := fun H1 s1 _ q => ⟨v, h, q v H1 (Same.refl _) (dp_mono (dl_mono s1) hd)⟩
theorem evds_nil : EvDs K S σ H tNil [] := fun H1 _ _ q => q [] H1 (Same.refl _) .nil
theorem evds_cons {te : TE} {ta : TA} {d : PyData} {ds : List PyData} (h : EvD K S σ H te d) (hs : EvDs K S σ H ta ds) : EvDs K S σ H (tCons te ta) (d :: ds) := fun H1 s1 Q q =>
  h H1 s1 _ fun v H2 s2 hv => hs H2 (s1.trans s2) _ fun vs H3 s3 hvs => q (v :: vs) H3 (s2.trans s3) (.cons (dp_mono (dl_mono s3) hv) hvs)
theorem evd_tup {ta : TA} {ds : List PyData} (tr : Tr H S) (h : EvDs K S σ H ta ds) (hl : ds.length ≤ 1000) : EvD K S σ H (tTup ta) (.tuple ds) := fun H1 s1 Q q =>
  h H1 s1 _ fun vs H2 s2 hvs => ⟨szl (by rw [dpa_len hvs]; omega), fun p hp => by
    have tr2 : Tr H2 S := tr.same (s1.trans s2)
    exact q _ _ (s2.trans (same_new hp)) (.tup (SqT.of (dl_upd_at tr2 hp)) (dpa_mono (dl_same_new tr2 hp) hvs))⟩
/-- a new list of data -/
theorem evd_lst {ta : TA} {ds : List PyData} {Q : VK} (h : EvDs K S σ H ta ds) (hl : ds.length ≤ 1000) (q : ∀ (p : Addr) (xs : List V) (H2 : Hp), Same H H2 → H2 p = none → DpAll K (dl H2 S) xs ds → Q (.ref p) (upd H2 p (.lst xs))) : tLst ta σ H Q :=
  h H (Same.refl _) _ fun vs H2 s2 hvs => ⟨szl (by rw [dpa_len hvs]; omega), fun p hp => q p vs H2 s2 hp hvs⟩
end
theorem walk_rangeL {lo : Int} {n : Nat} : Walk (Itr lo n) ((List.range n).map fun i => V.int (lo + (i : Nat))).length (fun _ => True) (YAt ((List.range n).map fun i => V.int (lo + (i : Nat)))) := by
  rw [List.length_map, List.length_range]
  refine walk_range.mono (fun _ h => h) fun i H x H' hi _ ⟨h1, h2⟩ => ⟨h1, ?_⟩
  rw [List.getElem?_map, List.getElem?_range hi, h2]
  rfl
theorem cut_take {x : List V} {i : Int} (h0 : 0 ≤ i) (h1 : i < (x.length : Int)) : cutV x none (some i) = x.take i.toNat ∧ ¬ (HT.sIx x.length 0 none = 0 ∧ HT.sIx x.length x.length (some i) = x.length) := by
  obtain ⟨k, rfl⟩ : ∃ k : Nat, i = k := ⟨i.toNat, by omega⟩
  have hk : k < x.length := by omega
  constructor
  · unfold cutV
    rw [HT.sIx_none, HT.sIx_nat, List.drop_zero, Nat.sub_zero, Int.toNat_natCast, Nat.min_eq_left (by omega)]
  · rintro ⟨_, h⟩
    rw [HT.sIx_nat, Nat.min_eq_left (by omega)] at h
    omega
theorem cut_drop {x : List V} {i : Int} (h0 : 1 ≤ i) (hx : 1 ≤ x.length) : cutV x (some i) none = x.drop i.toNat ∧ ¬ (HT.sIx x.length 0 (some i) = 0 ∧ HT.sIx x.length x.length none = x.length) := by
  obtain ⟨k, rfl⟩ : ∃ k : Nat, i = k := ⟨i.toNat, by omega⟩
  constructor
  · unfold cutV
    rw [HT.sIx_none, HT.sIx_nat, Int.toNat_natCast]
    by_cases hk : k ≤ x.length
    · rw [Nat.min_eq_left hk]
      apply List.take_of_length_le
      rw [List.length_drop]
      omega
    · rw [Nat.min_eq_right (by omega), Nat.sub_self, List.take_zero, List.drop_of_length_le (by omega)]
  · rintro ⟨h, _⟩
    rw [HT.sIx_nat] at h
    omega
theorem eqv_nilT : PyData.eqv (toT .nil) (.tuple []) = true := by unfold toT; simp [PyData.eqv, PyData.eqvAll]
theorem eqv_tupT (k : Str) (xs : List Th) : PyData.eqv (toT (.tup k xs)) (.tuple []) = false := by unfold toT; simp [PyData.eqv, PyData.eqvAll]
theorem eqv_rest (ds : List PyData) : PyData.eqv (.tuple ds) (.tuple []) = ds.isEmpty := by
  cases ds <;> simp [PyData.eqv, PyData.eqvAll]
def isTup : Th → Bool
  | .tup _ _ => true
  | _ => false
theorem ints_deep {zs : List Int} {n : Nat} (hl : zs.length < 50000) : deep (n + 2) (.list (zs.map PyData.int)) = true :=
  deep_list_of (by rw [List.length_map]; exact hl) fun d hd => by
    obtain ⟨z, _, rfl⟩ := List.mem_map.mp hd
    unfold deep
    rfl
theorem places_of {n : Nat} (p : V → Bool) : ∃ zs : List Int, (((List.range n).map fun i => V.int (1 + (i : Nat))).filter p).map (fun v => v) = zs.map V.int ∧ zs.length ≤ n ∧ ∀ z ∈ zs, ∃ i : Nat, i < n ∧ z = 1 + (i : Int) ∧ p (.int z) = true := by
  refine ⟨((List.range n).filter fun i => p (.int (1 + (i : Nat)))).map fun i => 1 + ((i : Nat) : Int), ?_, ?_, fun z hz => ?_⟩
  · rw [List.map_id', List.filter_map, List.map_map]
    rfl
  · rw [List.length_map]
    refine Nat.le_trans (List.length_filter_le _ _) ?_
    rw [List.length_range]
    exact Nat.le_refl _
  · obtain ⟨i, hi, rfl⟩ := List.mem_map.mp hz
    obtain ⟨h1, h2⟩ := List.mem_filter.mp hi
    exact ⟨i, List.mem_range.mp h1, rfl, h2⟩
theorem wt_s {n : Nat} {s : Str} (h : PyData.strOk s = true ∧ s.length ≤ 1000) : WT (n + 1) (.str s) := h
theorem wt_t {n : Nat} {k : Str} {xs : List Th} (h : PyData.strOk k = true ∧ k.length ≤ 1000) (hl : xs.length < 1000) (hx : ∀ x ∈ xs, WT n x) : WT (n + 1) (.tup k xs) := ⟨h, hl, hx⟩
theorem wta_nil {n : Nat} : ∀ x ∈ ([] : List Th), WT n x := fun _ h => nomatch h
theorem wta_cons {n : Nat} {t : Th} {ts : List Th} (h : WT n t) (hs : ∀ x ∈ ts, WT n x) : ∀ x ∈ t :: ts, WT n x := fun x hx => by
  rcases List.mem_cons.mp hx with rfl | hx
  · exact h
  · exact hs x hx
def isTh : Th → Bool
  | .str _ => false
  | _ => true
def sOk (s : Str) : Prop := PyData.strOk s = true ∧ s.length ≤ 1000
theorem Gd.wt {fs : List Fld} (hf : ∀ f ∈ fs, sOk f.1 ∧ ∀ m ∈ f.2, sOk m) : ∀ {n : Nat} {c : Cd}, Gd fs n c → WT (n + 1) (th c) ∧ isTh (th c) = true
  | n + 1, .any, _ => by unfold th; exact ⟨wt_t ⟨by decide +kernel, by decide⟩ (by decide) wta_nil, rfl⟩
  | n + 1, .test f v, h => by
    obtain ⟨fl, hfl, rfl, hv⟩ := h
    unfold th
    exact ⟨wt_t ⟨by decide +kernel, by decide⟩ (by show 2 < 1000; decide) (wta_cons (wt_s (hf fl hfl).1) (wta_cons (wt_s ((hf fl hfl).2 v hv)) wta_nil)), rfl⟩
  | n + 1, .node k cs, h => by
    unfold th
    rw [ths_map]
    refine ⟨wt_t ?_ ?_ fun x hx => ?_, rfl⟩
    · rcases h.1 with ⟨rfl, _⟩ | ⟨rfl | rfl, _⟩ <;> exact ⟨by decide +kernel, by decide⟩
    · rw [List.length_map]
      rcases h.1 with ⟨_, h⟩ | ⟨_, _, h⟩ <;> omega
    · obtain ⟨c, hc, rfl⟩ := List.mem_map.mp hx
      exact (Gd.wt hf (h.2 c hc)).1
theorem FnOk.some {ι : Type} {P : Program} {w : World} {K : PySem.W.Frag} {mg : Str → Option Value} {base : Heap} {CX : CXT} {k : Nat} {f : Addr} {fd : FuncData} {ps : List Str} {sp : ι → Sp} (F : ∀ i, FnOk P w K mg base CX k f fd ps (sp i)) : FnOk P w K mg base CX k f fd ps (fun vs H Q E => ∃ i, sp i vs H Q E) :=
  ⟨fun vs H Q E ⟨i, h⟩ => (F i).len vs H Q E h, fun A outer s H args us vs Q E hr e0 bd vl ⟨i, h⟩ => (F i).run A outer s H args us vs Q E hr e0 bd vl h⟩
theorem consists_nm {s : Str} (h : isNm s) : consists s nameC = true := by
  unfold consists allIn
  have hl : s.length = (cl s).length := rfl
  rw [decide_eq_true (by have := h.1; omega), decide_eq_true (by have := h.2.1; omega)]
  show (true && (true && _)) = true
  rw [Bool.true_and, Bool.true_and, List.all_eq_true]
  exact fun c hc => decide_eq_true (h.2.2 c hc)
theorem consists_vl {s : Str} (h : isVl s) : consists s valueC = true := by
  unfold consists allIn
  have hl : s.length = (cl s).length := rfl
  rw [decide_eq_true (by have := h.1; omega), decide_eq_true (by have := h.2.1; omega)]
  show (true && (true && _)) = true
  rw [Bool.true_and, Bool.true_and, List.all_eq_true]
  exact fun c hc => decide_eq_true (h.2.2 c hc)
/-- a test under i negations -/
def chain (f v : Str) : Nat → Th
  | 0 => .tup "test" [.str f, .str v]
  | i + 1 => .tup "not" [chain f v i]
theorem chain_isT {f v : Str} (h : testOk [.str f, .str v] = true) : ∀ (i n : Nat), isT n (chain f v i) = decide (i < n)
  | i, 0 => by rw [decide_eq_false (by omega)]; rfl
  | 0, n + 1 => by
    rw [decide_eq_true (by omega)]
    show (testOk [.str f, .str v] && ([] : List Th).all (isT n)) = true
    rw [h]
    rfl
  | i + 1, n + 1 => by
    show (true && ([chain f v i].all (isT n))) = _
    rw [Bool.true_and, List.all_cons, chain_isT h i n, List.all_nil, Bool.and_true]
    exact dec_p (by omega)
theorem chain_cnt (f v : Str) : ∀ i, cnt (chain f v i) = i + 1
  | 0 => by rw [cnt_eq]; rfl
  | i + 1 => by
    rw [cnt_eq]
    show 1 + (([chain f v i]).map cnt).sum = _
    rw [List.map_cons, List.map_nil, List.sum_cons, List.sum_nil, chain_cnt f v i]
    omega
theorem chain_wt {f v : Str} (hf : sOk f) (hv : sOk v) : ∀ i, WT (i + 2) (chain f v i)
  | 0 => wt_t ⟨by decide +kernel, by decide⟩ (by show 2 < 1000; decide) (wta_cons (wt_s hf) (wta_cons (wt_s hv) wta_nil))
  | i + 1 => wt_t ⟨by decide +kernel, by decide⟩ (by show 1 < 1000; decide) (wta_cons (chain_wt hf hv i) wta_nil)
/-- many times any -/
def wideT (m : Nat) : Th := .tup "or" (List.replicate m (.tup "any" []))
theorem wide_isT (m : Nat) : isT 8 (wideT m) = decide (2 ≤ m) := by
  show (decide (2 ≤ (List.replicate m (Th.tup "any" [])).length) && (List.replicate m (Th.tup "any" [])).all (isT 7)) = _
  rw [List.length_replicate]
  have : (List.replicate m (Th.tup "any" [])).all (isT 7) = true := List.all_eq_true.mpr fun x hx => by
    rw [List.eq_of_mem_replicate hx]
    rfl
  rw [this, Bool.and_true]
theorem wide_cnt (m : Nat) : cnt (wideT m) = m + 1 := by
  rw [cnt_eq]
  show 1 + ((List.replicate m (Th.tup "any" [])).map cnt).sum = _
  rw [List.map_replicate, show cnt (.tup "any" []) = 1 by rw [cnt_eq]; rfl, List.sum_replicate_nat]
  omega
theorem wide_wt {m : Nat} (h : m < 1000) : WT 2 (wideT m) := wt_t ⟨by decide +kernel, by decide⟩ (by rw [List.length_replicate]; exact h) fun x hx => by
  rw [List.eq_of_mem_replicate hx]
  exact wt_t ⟨by decide +kernel, by decide⟩ (by decide) wta_nil
end Hr

set_option Elab.async false
set_option linter.all false
set_option maxRecDepth 100000
set_option maxHeartbeats 4000000
namespace Hr
open PySem PySem.Spec PyProof.Rows L2
/-- the address that a global name holds -/
def adr : Option Value → Addr
  | some (.ref a) => a
  | _ => 0
/-! tuple(d), tuple(d.values()) of a dict -/
section
variable {pr : Program} {wd : World} {Ar : Around} {Er : Value → Shared → Prop} {st : Shared} {Ty : String} {ra da : Addr} {n : Nat} {P : Nat → Value → Prop} {Ok : Heap → Prop}
theorem gather_src {Q : List Value → Shared → Prop} (S : PySem.W.KdlSrc pr wd Ty ra da n P Ok) (hh : Ar.handled = none) (ok : Ok st.heap) (hn : n ≤ sizeLine)
    (hQ : ∀ (g : Heap) (tk : Nat) (got : Array Value), (∀ b o, st.heap.get? b = some o → g.get? b = some o) → ItemsOf P got n → Q got.toList { st with heap := g, toks := tk }) :
    wpAny (model pr wd) Ar (collect (.ref ra)) Q Er st := by
  unfold collect
  refine wpAny_bind (wpAny_runValue (codeAny_builtin PySem.F.entry_proto_collect ?_))
  rw [Around.under_plainId PySem.F.plain_proto_collect _]
  show wpAny _ Ar.in1 (newList [] >>= fun nl => again (.builtin "list.__iadd__" ⟨[nl, .ref ra], []⟩)) _ _ st
  refine wpAny_bind (wpAny_newObj_type ?_)
  refine wpAny_pure ⟨plainId_quiet PySem.F.plain_list_iadd _, codeAny_builtin PySem.F.entry_list_iadd ?_⟩
  rw [Around.under_plainId PySem.F.plain_list_iadd _]
  show wpAny _ Ar.in1 (Builtin.List.listExtendWith (.ref st.heap.objs.size) (.ref ra) (.ref st.heap.objs.size)) _ _ _
  have new : (st.heap.push { cls := .type "list", data := .seq ([] : List Value).toArray }).get? st.heap.objs.size = some { cls := .type "list", data := .seq #[] 0 } := Heap.get?_push_size _ rfl
  have lt := S.there _ ok
  refine wpAny_mono (PySem.W.kdl_extend (A := Ar) (s := { st with heap := st.heap.push { cls := .type "list", data := .seq ([] : List Value).toArray } }) (R := fun rr s' => rr = .ok (.ret (.ref st.heap.objs.size)) ∧ ∃ (g : Heap) (tk : Nat) (got : Array Value) (k : Nat), s' = { st with heap := g, toks := tk } ∧
      (∀ b o, st.heap.get? b = some o → g.get? b = some o) ∧ g.get? st.heap.objs.size = some { cls := .type "list", dict := none, data := .seq got k, slots := #[] } ∧ ItemsOf P got n)
    S hh (S.keep _ _ ok fun b _ o e => Heap.get?_push_of_some _ e) _ (Nat.ne_of_gt lt.1) (Nat.ne_of_gt lt.2) _ 0 new
    (fun g tk got k kp e hi => ⟨rfl, g, tk, got, k, rfl, fun b o q => kp b o (Nat.ne_of_lt (Heap.lt_size q)) (Heap.get?_push_of_some _ q), e, hi⟩) hn) (fun fin s' h => ?_) (fun e s' h => ?_)
  · cases fin with
    | done f =>
      obtain ⟨e, g, tk, got, k, rfl, kp, at', hi⟩ := h
      cases e
      show wpAny _ Ar (load st.heap.objs.size >>= _) _ _ _
      exact wpAny_bind (wpAny_load at' (wpAny_pure (hQ g tk got kp hi)))
    | again c =>
      refine ⟨h.1, codeAny_mono h.2 fun rr s'' hr => ?_⟩
      obtain ⟨rfl, g, tk, got, k, rfl, kp, at', hi⟩ := hr
      show wpAny _ Ar (load st.heap.objs.size >>= _) _ _ _
      exact wpAny_bind (wpAny_load at' (wpAny_pure (hQ g tk got kp hi)))
  · exact absurd h.1 (by simp)
theorem new_src {Q : Value → Shared → Prop} (S : PySem.W.KdlSrc pr wd Ty ra da n P Ok) (which : Ty = "dict" ∨ Ty = "dict_values") (hh : Ar.handled = none) (ok : Ok st.heap) (hn : n ≤ sizeLine)
    (hQ : ∀ (g : Heap) (tk : Nat) (got : Array Value), (∀ b o, st.heap.get? b = some o → g.get? b = some o) → ItemsOf P got n → Q (.ref g.objs.size) { st with heap := g.push { cls := .type "tuple", data := .seq got }, toks := tk }) :
    codeAny (model pr wd) Ar (.call (.builtin "tuple.__new__") ⟨[.type "tuple", .ref ra], []⟩) (wants Q Er) st := by
  refine codeAny_of_tree ?_
  show wpAny _ Ar.in1 (do checkBuiltinCall "tuple.__new__" ⟨[.type "tuple", .ref ra], []⟩; again (.builtin "tuple.__new__" ⟨[.type "tuple", .ref ra], []⟩)) _ _ st
  refine wpAny_bind (wpAny_of_eq (PySem.F.newCall_tuple_1 _) (wpAny_pure ⟨plainId_quiet PySem.F.plain_tuple_new _, codeAny_builtin PySem.F.entry_tuple_new ?_⟩))
  rw [Around.under_plainId PySem.F.plain_tuple_new _]
  have hsub := sub_tuple_self
  have hinit := init_tuple_lookup
  have hmh := madeHere_tuple
  have ty : st.TypeIs (.ref ra) Ty := S.type st ok
  have h1 : Ar.in1.handled = none := hh
  rcases which with rfl | rfl
  · wp_walk using wpAny_typeOf ty, gather_src (Ar := Ar.in1) S h1 ok hn
    intro g tk got kp hi
    show wpAny _ _ (Builtin.Tuple.tupleExact got.toList.toArray >>= fun v => ret v) _ _ _
    unfold Builtin.Tuple.tupleExact
    refine wpAny_bind (wpAny_newObj_type ?_ (by show got.toList.toArray.size ≤ sizeLine; rw [Array.toArray_toList, hi.1]; exact hn))
    refine wpAny_pure ?_
    rw [Array.toArray_toList]
    exact hQ g tk got kp hi
  · wp_walk using wpAny_typeOf ty, gather_src (Ar := Ar.in1) S h1 ok hn
    intro g tk got kp hi
    show wpAny _ _ (Builtin.Tuple.tupleExact got.toList.toArray >>= fun v => ret v) _ _ _
    unfold Builtin.Tuple.tupleExact
    refine wpAny_bind (wpAny_newObj_type ?_ (by show got.toList.toArray.size ≤ sizeLine; rw [Array.toArray_toList, hi.1]; exact hn))
    refine wpAny_pure ?_
    rw [Array.toArray_toList]
    exact hQ g tk got kp hi
theorem tuple_src {Q : Value → Shared → Prop} (S : PySem.W.KdlSrc pr wd Ty ra da n P Ok) (which : Ty = "dict" ∨ Ty = "dict_values") (hh : Ar.handled = none) (ok : Ok st.heap) (hn : n ≤ sizeLine)
    (hQ : ∀ (g : Heap) (tk : Nat) (got : Array Value), (∀ b o, st.heap.get? b = some o → g.get? b = some o) → ItemsOf P got n → Q (.ref g.objs.size) { st with heap := g.push { cls := .type "tuple", data := .seq got }, toks := tk }) :
    wpAny (model pr wd) Ar (call (.type "tuple") [.ref ra]) Q Er st := by
  refine callType_codes (Q₁ := fun ob s1 => s1.TypeIs ob "tuple" ∧ Q ob s1) PySem.F.called_tuple (PySem.F.typeCall_tuple_1 _) PySem.F.entry_object_init
    (new_src (Ar := Ar.in1) S which hh ok hn fun g tk got kp hi => ⟨⟨_, Heap.get?_push_size _ rfl, rfl⟩, hQ g tk got kp hi⟩) fun ob s1 h1 => ?_
  exact ⟨h1.1, PySem.F.args_object_init_2 ob _, object_init_meets PySem.F.called_tuple.init.lookup PySem.F.called_tuple.made (by decide) pr wd Ar.in1 _ s1 ⟨h1.1, rfl, h1.2⟩⟩
end
section
variable {X : Cx}
theorem vals_by : ∀ {xs : List V} {us : List Value}, xs.length = us.length → (∀ (j : Nat) (x : V) (u : Value), xs[j]? = some x → us[j]? = some u → RelV x u) → Vals xs us
  | [], [], _, _ => .nil
  | [], _ :: _, h, _ => by simp at h
  | _ :: _, [], h, _ => by simp at h
  | x :: xs, u :: us, h, f => .cons (f 0 x u rfl rfl) (vals_by (Nat.succ.inj h) fun j y v h1 h2 => f (j + 1) y v h1 h2)
/-- tuple(d): its keys -/
def rTupD : List V → Hp → VK → Prop := fun xs H Q => ∃ (p : Addr) (kvs : List (Key × V)), xs = [.ref p] ∧ H p = some (.dK kvs) ∧ ∀ (q : Addr) (o : Obj), H q = none → o.dict = none → Q (.ref q) (upd H q (.frz o (.tup (kvs.map fun kv => kV kv.1))))
theorem call_tupD (hc : X.calm = true) : CallR X (.type "tuple") rTupD := by
  intro pins s σ H xs us Q I r h
  obtain ⟨p, kvs, rfl, hk, q⟩ := h
  obtain ⟨u, rfl, rx⟩ := vals1 r
  obtain rfl : u = Value.ref p := rx
  obtain ⟨z, lo, vs, rk, hd⟩ := dk_of I.hok hk
  obtain ⟨ep, hat⟩ := hd.dictAt
  have hl : kvs.length = vs.length := KV.length rk
  refine tuple_src (PySem.W.kdl_dict (knd := mixKind X.prog X.w) (kvs := vs) (ep := ep) lo) (.inl rfl) (I.ok.hd hc) hat (by rw [← hl]; exact z) fun g tk got kp hi => ?_
  have I1 : Inv X pins σ H { s with heap := g, toks := tk } := I.kept (t' := tk) kp
  have rv : Vals (kvs.map fun kv => kV kv.1) got.toList := by
    refine vals_by ((List.length_map _).trans (hl.trans (hi.1.symm.trans Array.length_toList.symm))) fun j x u h1 h2 => ?_
    obtain ⟨k, y, hky, hks⟩ := hi.2 j u (by rw [← Array.getElem?_toList]; exact h2)
    obtain ⟨x', e1, _⟩ := KV.at' rk hky
    rw [List.getElem?_map, e1] at h1
    cases h1
    exact keyIs_rel hks
  have I2 : Inv X pins σ (upd H g.objs.size (.frz { cls := .type "tuple", data := .seq got } (.tup (kvs.map fun kv => kV kv.1)))) { s with heap := g.push { cls := .type "tuple", data := .seq got }, toks := tk } :=
    I1.laid (t' := tk) (fun b o e => Heap.get?_push_of_some _ e) (Nat.le_refl _) (show ObjOk X.prog X.w _ _ _ (.frz _ (.tup _)) from ⟨Heap.get?_push_size _ rfl, by rw [List.length_map]; exact z, got.toList, rv, by rw [Array.toArray_toList]; exact IsTup.new _ _⟩)
  exact ⟨.ref g.objs.size, _, I2, rfl, q _ _ (I1.hok.fresh (Nat.le_refl _)) rfl⟩
/-- tuple(d.values()): its values -/
def tTupVals (td : TE) : TE := fun σ H Q => td σ H fun x H1 => ∃ a kvs, x = V.ref a ∧ H1 a = some (.dK kvs) ∧ ∀ q, H1 q = none → Q (.ref q) (upd H1 q (.tup (kvs.map (·.2))))
variable {o : Expr} {p pos apos mpos : Pos} {td : TE}
/-- t.index(x), t a tuple of texts whose object is known -/
def tTupIx (to : TE) (t : TA) : TE := fun σ H Q => to σ H fun x H1 => ∃ (p : Addr) (ys : List Str) (ob : Obj), x = .ref p ∧ H1 p = some (.frz ob (.tup (ys.map V.str))) ∧ ob.dict = none ∧ t σ H1 fun xs H2 => ∃ (z : Str) (j : Nat), xs = [.str z] ∧ H2 p = some (.frz ob (.tup (ys.map V.str))) ∧ ys[j]? = some z ∧ (∀ m, m < j → ys[m]? ≠ some z) ∧ Q (.int (j : Nat)) H2
theorem pe_tupIx {e : Expr} {t : TA} {apos cpos : Pos} (ho : PE X o td) (ha : PA X [e] t) (hbase : attributeBase o "index" X.env (eval o X.env) = eval o X.env := by rfl)
    (hfew : ((backTo cpos (starEach [e] X.env)).all (fun x => !x.1) && (backToKw cpos (keywordEach [] X.env)).all (fun x => x.1.isSome)
      && decide ([e].length + ([] : List Keyword).length + (if ([] : List Keyword).isEmpty then 0 else 1) < 30)) = true := by rfl)
    (hline : (apos.endLine == cpos.line) = true := by rfl) (hs : starEach [e] X.env = (false, eval e X.env) :: starEach [] X.env := by rfl) :
    PE X (.Call (.Attribute o "index" apos) [e] [] cpos) (tTupIx td t) := by
  refine ⟨fun pins s σ H Q I h => ?_⟩
  refine wpAny_Call_method_late hbase hfew hline rfl (thn (ho.run pins s σ H _ I h) fun v s1 ⟨x, H1, I1, r1, pp, ys, ob, ex, hp, hdn, q1⟩ => ?_)
  subst ex
  obtain rfl : v = Value.ref pp := r1
  obtain ⟨hob, _, its, _, pl⟩ := (show ObjOk X.prog X.w H1 s1.heap pp (.frz ob (.tup (ys.map V.str))) from I1.hok pp _ hp)
  have hty : s1.TypeIs (.ref pp) "tuple" := let ⟨o', ho', hc', _⟩ := pl; ⟨o', ho', hc'⟩
  refine ⟨"tuple", "tuple.index", PySem.F.plainAttrs_tuple, PySem.F.slot_tuple_index, PySem.F.type_tuple_index, hty, fun b eb => ?_, ?_⟩
  · cases eb
    exact ⟨ob, hob, hdn⟩
  have hA := ha.run cpos pins s1 σ H1 _ I1 q1
  rw [hs] at hA ⊢
  refine Calls.callWith_builtin rfl (Calls.evalArgs_plain ?_)
  refine thn hA fun us s2 ⟨vs, H2, I2, r2, z, j, ey, hp2, hj, hno, q2⟩ => ?_
  subst ey
  exact mt_tup_index pins s2 σ H2 (.ref pp) [.str z] (.ref pp) us Q I2 rfl r2 ⟨pp, ys, z, j, rfl, rfl, .inl (.inr ⟨ob, hp2⟩), hj, hno, q2⟩
theorem pe_tupVals (hc : X.calm = true) (hg : Gl X "tuple") (hm : X.mg "tuple" = none) (hd : PE X o td) (hbase : attributeBase o "values" X.env (eval o X.env) = eval o X.env := by rfl) (hline : (apos.endLine == mpos.line) = true := by rfl)
    (na : starEach [Expr.Call (.Attribute o "values" apos) [] [] mpos] X.env = (false, eval (Expr.Call (.Attribute o "values" apos) [] [] mpos) X.env) :: starEach [] X.env := by rfl) :
    PE X (.Call (.Name "tuple" p) [.Call (.Attribute o "values" apos) [] [] mpos] [] pos) (tTupVals td) := by
  refine ⟨fun pins s σ H Q I h => ?_⟩
  refine Call_ (ld_blt I hg hm boot_tuple (PyProof.Rows.callWith_type1 (args_cons ?_ na) na))
  refine wpAny_Call_method0_late hbase hline (thn (hd.run pins s σ H _ I h) fun v s1 ⟨x, H1, I1, r1, a, kvs, ex, ha, q⟩ => ?_)
  subst ex
  obtain rfl : v = Value.ref a := r1
  obtain ⟨z, lo, vs, rk, dof⟩ := dk_of I1.hok ha
  obtain ⟨ep, dat⟩ := dof.dictAt
  have dat' := dat
  obtain ⟨ob, es, ho, ex, hdat, hko, hpr, hnd⟩ := dat'
  have hl : kvs.length = vs.length := KV.length rk
  refine ⟨"dict", "dict.values", PySem.F.plainAttrs_dict, PySem.F.slot_dict_values, PySem.F.type_dict_values, ⟨ob, ho, ex.1⟩, fun b e => ?_, Calls.callWith_builtin rfl (PySem.evalArgs_none ?_)⟩
  · cases e
    exact ⟨ob, ho, ex.2.1⟩
  refine call_meetsIn PySem.F.slot_dict_values ⟨ob, ho, ex.1⟩ PySem.F.entry_dict_values (PySem.F.args_dict_values_1 _) (meets_dict_values (mixKind X.prog X.w) a lo) ⟨⟨vs, dof⟩, ?_⟩
  have k1 : ∀ b u, s1.heap.get? b = some u → (s1.heap.push { cls := .type "dict_values", data := .fields #[.ref a] }).get? b = some u := fun b u e => Heap.get?_push_of_some _ e
  refine args_nil ?_
  refine tuple_src (PySem.W.kdl_values (r := s1.heap.objs.size) (knd := mixKind X.prog X.w) (kvs := vs) (ep := ep)) (.inr rfl) (I1.ok.hd hc) ⟨⟨_, Heap.get?_push_size _ rfl, rfl, rfl⟩, dat.keep k1⟩ (by rw [← hl]; exact z) fun g tk got kp hi => ?_
  have I2 : Inv X pins σ H1 { s1 with heap := g, toks := tk } := I1.kept (t' := tk) fun b u e => kp b u (k1 b u e)
  have rv : Vals (kvs.map (·.2)) got.toList := by
    refine vals_by ((List.length_map _).trans (hl.trans (hi.1.symm.trans Array.length_toList.symm))) fun j x u h1 h2 => ?_
    obtain ⟨k, hky⟩ := hi.2 j u (by rw [← Array.getElem?_toList]; exact h2)
    obtain ⟨x', e1, e2⟩ := KV.at' rk hky
    rw [List.getElem?_map, e1] at h1
    cases h1
    exact e2
  have I3 : Inv X pins σ (upd H1 g.objs.size (.tup (kvs.map (·.2)))) { s1 with heap := g.push { cls := .type "tuple", data := .seq got }, toks := tk } :=
    I2.laid (t' := tk) (fun b o e => Heap.get?_push_of_some _ e) (Nat.le_refl _) (show ObjOk X.prog X.w _ _ _ (.tup _) from ⟨by rw [List.length_map]; exact z, got.toList, rv, by rw [Array.toArray_toList]; exact IsTup.new _ _⟩)
  exact ⟨.ref g.objs.size, _, I3, rfl, q _ (I2.hok.fresh (Nat.le_refl _))⟩
end
end Hr

set_option Elab.async false
set_option linter.all false
set_option maxRecDepth 100000
set_option maxHeartbeats 4000000
namespace Hr
open PySem PySem.Spec PyProof.Rows L2
/-! schemas -/
theorem strs_inv {K : PySem.W.Frag} {H : Hp} : ∀ {vs : List V} {ss : List Str}, DpAll K H vs (ss.map PyData.str) → vs = ss.map V.str
  | _, [], h => by cases h; rfl
  | _, s :: r, h => by
    cases h with
    | cons a t =>
      cases a
      rw [List.map_cons, ← strs_inv t]
theorem inV_str (s : Str) (ss : List Str) : inV (.str s) (ss.map V.str) = decide (s ∈ ss) := by
  induction ss with
  | nil => rfl
  | cons x r ih =>
    have e : inV (.str s) ((x :: r).map V.str) = (eqV (.str x) (.str s) || inV (.str s) (r.map V.str)) := rfl
    rw [e, ih]
    have e2 : eqV (.str x) (.str s) = decide (s = x) := beq_dec x s
    rw [e2, Bool.eq_iff_iff]
    simp
theorem flat_strs (ss : List Str) : (ss.map V.str).all flatV = true := by
  rw [List.all_map, List.all_eq_true]
  intro x _
  rfl
theorem take_step {α : Type} {l : List α} {i : Nat} {x : α} (h : l[i]? = some x) : l.take (i + 1) = l.take i ++ [x] := by
  rw [List.take_add_one, h]
  rfl
theorem nodup_take {α : Type} {l : List α} {i : Nat} {x : α} (n : l.Nodup) (h : l[i]? = some x) : x ∉ l.take i := by
  intro m
  obtain ⟨j, hj⟩ := List.mem_iff_getElem?.mp m
  have hji : j < i := by
    have h1 := (List.getElem?_eq_some_iff.mp hj).1
    rw [List.length_take] at h1
    omega
  rw [List.getElem?_take_of_lt hji] at hj
  have h1 := (List.getElem?_eq_some_iff.mp hj).1
  exact absurd ((List.getElem?_inj h1 n).mp (hj.trans h.symm)) (Nat.ne_of_lt hji)
/-- p holds no list and no tuple -/
def NoSq (H : Hp) (p : Addr) : Prop := (∀ xs, H p ≠ some (.lst xs)) ∧ (∀ xs, H p ≠ some (.tup xs)) ∧ ∀ o u, H p ≠ some (.frz o u)
theorem noSq_ins {H : Hp} {p C dx : Addr} {fs : List (Str × V)} (h : H p = some (.ins C dx fs)) : NoSq H p := by
  refine ⟨fun _ z => ?_, fun _ z => ?_, fun _ _ z => ?_⟩ <;> (rw [h] at z; cases z)
theorem noSq_dk {H : Hp} {p : Addr} {kvs : List (Key × V)} (h : H p = some (.dK kvs)) : NoSq H p := by
  refine ⟨fun _ z => ?_, fun _ z => ?_, fun _ _ z => ?_⟩ <;> (rw [h] at z; cases z)
theorem rd_off {H H' : Hp} {p a : Addr} {u : HO} (n : H p ≠ some u) (nf : ∀ o u, H p ≠ some (.frz o u)) (e : ∀ b o, b ≠ p → H b = some o → H' b = some o) (h : Rd H a u) : Rd H' a u := by
  rcases h with h | ⟨o, h⟩
  · exact .inl (e _ _ (fun z => n (by rw [← z]; exact h)) h)
  · exact .inr ⟨o, e _ _ (fun z => nf o u (by rw [← z]; exact h)) h⟩
mutual
theorem dp_off {K : PySem.W.Frag} {H H' : Hp} {p : Addr} (n : NoSq H p) (e : ∀ b o, b ≠ p → H b = some o → H' b = some o) : ∀ {v : V} {d : PyData}, Dp K H v d → Dp K H' v d
  | _, _, .non => .non
  | _, _, .bl b => .bl b
  | _, _, .int i => .int i
  | _, _, .str x => .str x
  | _, _, .lst h t => .lst (h.elim (fun h => .inl (rd_off (n.1 _) n.2.2 e h)) .inr) (dpa_off n e t)
  | _, _, .tup h t => .tup (h.elim (fun h => .inl (rd_off (n.2.1 _) n.2.2 e h)) .inr) (dpa_off n e t)
theorem dpa_off {K : PySem.W.Frag} {H H' : Hp} {p : Addr} (n : NoSq H p) (e : ∀ b o, b ≠ p → H b = some o → H' b = some o) : ∀ {vs : List V} {ds : List PyData}, DpAll K H vs ds → DpAll K H' vs ds
  | _, _, .nil => .nil
  | _, _, .cons h t => .cons (dp_off n e h) (dpa_off n e t)
end
/-- how many requests a schema of these fields has -/
def tot : List Fld → Nat
  | [] => 1
  | f :: r => f.2.length * tot r
theorem tot_snoc (l : List Fld) (f : Fld) : tot (l ++ [f]) = tot l * f.2.length := by
  induction l with
  | nil => simp [tot]
  | cons x r ih =>
    show x.2.length * tot (r ++ [f]) = x.2.length * tot r * f.2.length
    rw [ih, Nat.mul_assoc]
theorem valV_none {kvs : List (Key × V)} {k : Key} (h : k ∉ kvs.map (·.1)) : valV kvs k = none := by
  unfold valV
  rw [Option.map_eq_none_iff, List.find?_eq_none]
  intro x hx z
  exact h (List.mem_map.mpr ⟨x, hx, of_decide_eq_true z⟩)
theorem fieldOk_nm {s : Str} (h : isNm s) (h2 : s ≠ "any") : fieldOk s = true := by
  unfold fieldOk
  rw [consists_nm h]
  simp [h2]
def labD (fs : List Fld) : PyData := .tuple (fs.map fun f => .str f.1)
def valD (f : Fld) : PyData := .tuple (f.2.map PyData.str)
def choD (fs : List Fld) : PyData := .tuple (fs.map valD)
def sch (a c : V) (n : Int) : List (Str × V) := putF "total" (.int n) (putF "choices" c (putF "labels" a []))
theorem sch_labels (a c : V) (n : Int) : (sch a c n).lookup ("labels" : Str) = some a := by
  unfold sch
  rw [lookup_putF, if_neg (by decide +kernel), lookup_putF, if_neg (by decide +kernel), lookup_putF, if_pos rfl]
theorem sch_choices (a c : V) (n : Int) : (sch a c n).lookup ("choices" : Str) = some c := by
  unfold sch
  rw [lookup_putF, if_neg (by decide +kernel), lookup_putF, if_pos rfl]
theorem sch_total (a c : V) (n : Int) : (sch a c n).lookup ("total" : Str) = some (.int n) := by
  unfold sch
  rw [lookup_putF, if_pos rfl]
theorem sch_no (a c : V) (n : Int) {m : Str} (h1 : ¬ m = "total") (h2 : ¬ m = "choices") (h3 : ¬ m = "labels") : (sch a c n).lookup m = none := by
  unfold sch
  rw [lookup_putF, if_neg h1, lookup_putF, if_neg h2, lookup_putF, if_neg h3]
  rfl
theorem putF_len (k : Str) (v : V) : ∀ l : List (Str × V), (putF k v l).length ≤ l.length + 1
  | [] => Nat.le_refl _
  | (a, b) :: r => by
    show (if a = k then (a, v) :: r else (a, b) :: putF k v r).length ≤ r.length + 2
    have := putF_len k v r
    split
    · show r.length + 1 ≤ r.length + 2
      omega
    · show (putF k v r).length + 1 ≤ r.length + 2
      omega
theorem keys_str {kvs : List (Key × V)} {fs : List Fld} (h : kvs.map (·.1) = fs.map fun f => (Sum.inr f.1 : Key)) : (kvs.map fun kv => kV kv.1) = (fs.map (·.1)).map V.str := by
  have e : (kvs.map fun kv => kV kv.1) = (kvs.map (·.1)).map kV := by rw [List.map_map]; rfl
  rw [e, h, List.map_map, List.map_map]
  rfl
/-- the names of the fields as a tuple whose object is known -/
def LabAt (H : Hp) (v : V) (fs : List Fld) : Prop := ∃ (a : Addr) (o : Obj), v = .ref a ∧ o.dict = none ∧ H a = some (.frz o (.tup ((fs.map (·.1)).map V.str)))
/-- a tuple whose object is known -/
def FTup (H : Hp) (a : Addr) (ys : List V) : Prop := ∃ o : Obj, o.dict = none ∧ H a = some (.frz o (.tup ys))
theorem FTup.sq {K : PySem.W.Frag} {H : Hp} {a : Addr} {ys : List V} (h : FTup H a ys) : SqT K H a ys := by
  obtain ⟨o, _, h⟩ := h
  exact .inl (.inr ⟨o, h⟩)
theorem FTup.same {H H' : Hp} {a : Addr} {ys : List V} (h : FTup H a ys) (s : Same H H') : FTup H' a ys := by
  obtain ⟨o, e, h⟩ := h
  exact ⟨o, e, s _ _ h⟩
theorem FTup.new {H : Hp} {a : Addr} {o : Obj} {ys : List V} (h : o.dict = none) : FTup (upd H a (.frz o (.tup ys))) a ys := ⟨o, h, upd_same⟩
/-- the tuples of the values: each one's object is known -/
def FrzAll (H : Hp) (xs : List V) (fs : List Fld) : Prop := xs.length = fs.length ∧ ∀ (i : Nat) x f, xs[i]? = some x → fs[i]? = some f → ∃ b, x = .ref b ∧ FTup H b (f.2.map V.str)
theorem FrzAll.same {H H' : Hp} {xs : List V} {fs : List Fld} (h : FrzAll H xs fs) (s : Same H H') : FrzAll H' xs fs := ⟨h.1, fun i x f hx hf => by
  obtain ⟨b, e, k⟩ := h.2 i x f hx hf
  exact ⟨b, e, k.same s⟩⟩
theorem FrzAll.off {H H' : Hp} {p : Addr} {xs : List V} {fs : List Fld} (h : FrzAll H xs fs) (n : NoSq H p) (e : ∀ b o, b ≠ p → H b = some o → H' b = some o) : FrzAll H' xs fs := ⟨h.1, fun i x f hx hf => by
  obtain ⟨b, e1, o, e2, e3⟩ := h.2 i x f hx hf
  exact ⟨b, e1, o, e2, e _ _ (fun z => n.2.2 o _ (by rw [← z]; exact e3)) e3⟩⟩
theorem FrzAll.nil {H : Hp} : FrzAll H [] [] := ⟨rfl, fun i x f hx _ => by simp at hx⟩
theorem FrzAll.snoc {H : Hp} {xs : List V} {fs : List Fld} {b : Addr} {f : Fld} (h : FrzAll H xs fs) (k : FTup H b (f.2.map V.str)) : FrzAll H (xs ++ [.ref b]) (fs ++ [f]) := by
  refine ⟨by rw [List.length_append, List.length_append, h.1]; rfl, fun i x g hx hg => ?_⟩
  have hl := h.1
  by_cases hi : i < xs.length
  · rw [List.getElem?_append_left hi] at hx
    rw [List.getElem?_append_left (by omega)] at hg
    exact h.2 i x g hx hg
  · have hi' : i = xs.length := by
      have := (List.getElem?_eq_some_iff.mp hx).1
      rw [List.length_append, List.length_singleton] at this
      omega
    subst hi'
    rw [List.getElem?_append_right (Nat.le_refl _), Nat.sub_self] at hx
    rw [hl, List.getElem?_append_right (Nat.le_refl _), Nat.sub_self] at hg
    cases hx
    cases hg
    exact ⟨b, rfl, k⟩
def ChoAt (H : Hp) (c : V) (fs : List Fld) : Prop := ∃ (ca : Addr) (xs : List V), c = .ref ca ∧ H ca = some (.tup xs) ∧ FrzAll H xs fs
theorem ChoAt.same {H H' : Hp} {c : V} {fs : List Fld} (h : ChoAt H c fs) (s : Same H H') : ChoAt H' c fs := by
  obtain ⟨ca, xs, e1, e2, e3⟩ := h
  exact ⟨ca, xs, e1, s _ _ e2, e3.same s⟩
theorem sch_inj {a c a' c' : V} {n n' : Int} (h : sch a c n = sch a' c' n') : c = c' := by
  have h1 := sch_choices a c n
  rw [h, sch_choices] at h1
  exact (Option.some.inj h1).symm
/-- a Schema of the fields fs stands at p -/
structure SchAt (K : PySem.W.Frag) (C : Addr) (H : Hp) (p : Addr) (fs : List Fld) : Prop where
  ob : ∃ (dx : Addr) (a c : V), H p = some (.ins C dx (sch a c (tot fs))) ∧ LabAt H a fs ∧ Dp K H c (choD fs)
  ch : ∀ (dx : Addr) (a c : V), H p = some (.ins C dx (sch a c (tot fs))) → ChoAt H c fs
theorem SchAt.same {K : PySem.W.Frag} {C : Addr} {H H' : Hp} {p : Addr} {fs : List Fld} (h : SchAt K C H p fs) (s : Same H H') : SchAt K C H' p fs := by
  obtain ⟨dx, a, c, h1, h2, h3⟩ := h.ob
  obtain ⟨b, o, e1, e2, e3⟩ := h2
  refine ⟨⟨dx, a, c, s _ _ h1, ⟨b, o, e1, e2, s _ _ e3⟩, dp_mono s h3⟩, fun dx' a' c' h' => ?_⟩
  rw [s _ _ h1] at h'
  injection h' with h'
  injection h' with _ _ h'
  rw [← sch_inj h']
  exact (h.ch dx a c h1).same s
/-- the digits of a number, the last field first -/
def digs : List Fld → Nat → List Str
  | [], _ => []
  | f :: r, n => f.2.getD (n % f.2.length) "" :: digs r (n / f.2.length)
def req (fs : List Fld) (n : Nat) : List Str := (digs fs.reverse n).reverse
theorem digs_len : ∀ (l : List Fld) (n : Nat), (digs l n).length = l.length
  | [], _ => rfl
  | f :: r, n => by
    show (digs r _).length + 1 = r.length + 1
    rw [digs_len r]
/-- what is left of the number behind the first fields of l -/
def left : List Fld → Nat → Nat
  | [], n => n
  | f :: r, n => left r (n / f.2.length)
theorem left_snoc : ∀ (l : List Fld) (f : Fld) (n : Nat), left (l ++ [f]) n = left l n / f.2.length
  | [], _, _ => rfl
  | g :: r, f, n => left_snoc r f (n / g.2.length)
theorem digs_snoc : ∀ (l : List Fld) (f : Fld) (n : Nat), digs (l ++ [f]) n = digs l n ++ [f.2.getD (left l n % f.2.length) ""]
  | [], _, _ => rfl
  | g :: r, f, n => by
    show _ :: digs (r ++ [f]) _ = _ :: (digs r _ ++ _)
    rw [digs_snoc r f]
    rfl
end Hr

set_option Elab.async false
set_option linter.all false
set_option maxRecDepth 100000
set_option maxHeartbeats 4000000
namespace Hr
open PySem PySem.Spec PyProof.Rows L2
/-! what a condition says of a request -/
section
variable (fs : List Fld) (rq : List Str)
mutual
def ev : Cd → Bool
  | .any => true
  | .test f g => decide (V.str (rq.getD ((fs.map (·.1)).idxOf f) "") = V.str g)
  | .node k cs => if k = "not" then !((evs cs).headD false) else if k = "and" then (evs cs).all id else (evs cs).any id
def evs : List Cd → List Bool
  | [] => []
  | c :: r => ev c :: evs r
end
theorem evs_map : ∀ cs, evs fs rq cs = cs.map (ev fs rq)
  | [] => by unfold evs; rfl
  | c :: r => by unfold evs; rw [evs_map r]; rfl
theorem ev_any : ev fs rq .any = true := by unfold ev; rfl
theorem ev_test (f g : Str) : ev fs rq (.test f g) = decide (V.str (rq.getD ((fs.map (·.1)).idxOf f) "") = V.str g) := by unfold ev; rfl
theorem ev_node (k : Str) (cs : List Cd) : ev fs rq (.node k cs) = if k = "not" then !((cs.map (ev fs rq)).headD false) else if k = "and" then (cs.map (ev fs rq)).all id else (cs.map (ev fs rq)).any id := by
  rw [← evs_map]
  conv => lhs; unfold ev
end
theorem idx_first {x : Str} : ∀ {l : List Str} {m : Nat}, m < l.idxOf x → l[m]? ≠ some x
  | [], m, _ => by simp
  | y :: r, m, h => by
    rw [List.idxOf_cons] at h
    by_cases e : (y == x) = true
    · rw [e] at h
      exact absurd h (Nat.not_lt_zero _)
    · rw [Bool.eq_false_iff.mpr e] at h
      cases m with
      | zero =>
        intro z
        exact e (beq_iff_eq.mpr (Option.some.inj z))
      | succ m => exact idx_first (l := r) (m := m) (Nat.lt_of_succ_lt_succ h)
/-- a comprehension with a test over any walk: the i-th element f i is kept where p i -/
theorem lc_pick {J : It} {n : Nat} {G : Hp → Prop} {Y : Nat → Hp → V → Hp → Prop} (w : Walk J n G Y) {g : TG} {tt : TT} {te : TE} {vs : List Nat} {σ : L2.St} {H1 : Hp} {D : Addr} {Qd : Hp → Prop} (hD : H1 D = none) (f : Nat → V) (p : Nat → Bool) (hG : ∀ H, Same H1 H → G H) (hn : n < 100000)
    (hs : ∀ (i : Nat) x H H' (R : V → Hp → Prop) (Z : Hp → Prop), i < n → Same H1 H → Y i H x H' → (p i = true → ∀ H4, Same H H4 → R (f i) H4) → (p i = false → ∀ H4, Same H H4 → Z H4) → g x (wipe σ vs) H' fun σ2 H2 => wipe σ2 vs = wipe σ vs ∧ tt σ2 H2 fun b H3 => if b = true then te σ2 H3 R else Z H3)
    (hd : ∀ H, Same H1 H → H D = some (.lst (((List.range n).filter p).map f)) → Qd H) :
    ∃ W : Nat → Nat → Hp → Prop, (∃ m, W 0 m (upd H1 D (.lst []))) ∧ ∀ i m H, W i m H →
      (J.stop i H ∧ Qd H) ∨ (J.go i H ∧ ∃ Nx : Hp → Prop, (∀ H', Nx H' → ∃ m', m' < m ∧ W (i + 1) m' H') ∧ ∀ x H', J.yld i H x H' → g x (wipe σ vs) H' fun σ2 H2 => wipe σ2 vs = wipe σ vs ∧ tt σ2 H2 fun b H3 =>
        if b = true then te σ2 H3 fun y H4 => ∃ acc, H4 D = some (.lst acc) ∧ acc.length < sizeLine ∧ Nx (upd H4 D (.lst (acc ++ [y]))) else Nx H3) := by
  refine lc_it w (fun i H => Same H1 H ∧ H D = some (.lst (((List.range i).filter p).map f))) ⟨same_new hD, by rw [upd_same]; rfl⟩ (fun i H _ h => hG H h.1) ?_ ?_
  · rintro i x H H' hi ⟨sm, hy⟩ hY
    refine hs i x H H' _ _ hi sm hY (fun hp H4 s4 => ⟨_, s4 _ _ hy, szt ?_, fun a o e => ?_, ?_⟩) fun hp H4 s4 => ⟨sm.trans s4, ?_⟩
    · rw [List.length_map]
      refine Nat.lt_of_le_of_lt (List.length_filter_le _ _) ?_
      rw [List.length_range]
      omega
    · rw [upd_ne (ne_of_none e hD)]
      exact s4 _ _ (sm _ _ e)
    · rw [upd_same, List.range_succ, List.filter_append, List.map_append, List.filter_cons, hp]
      rfl
    · rw [s4 _ _ hy, List.range_succ, List.filter_append, List.filter_cons, hp]
      simp
  · rintro H ⟨sm, hy⟩
    exact hd H sm hy
/-- each test of the condition is one of the schema -/
theorem gd_tests {fs : List Fld} : ∀ {n : Nat} {c : Cd}, Gd fs n c → ∀ p ∈ tl c, ∃ f ∈ fs, f.1 = p.1 ∧ p.2 ∈ f.2
  | n + 1, c, h, p, hp => by
    rw [tl_eq, List.mem_append] at hp
    rcases hp with hp | hp
    · cases c with
      | any => cases hp
      | test f g =>
        obtain rfl := List.mem_singleton.mp hp
        obtain ⟨fl, h1, h2, h3⟩ := h
        exact ⟨fl, h1, h2, h3⟩
      | node k cs => cases hp
    · obtain ⟨c', h1, h2⟩ := List.mem_flatMap.mp hp
      cases c with
      | any => cases h1
      | test f g => cases h1
      | node k cs => exact gd_tests (h.2 c' h1) p h2
end Hr

set_option Elab.async false
set_option linter.all false
set_option maxRecDepth 100000
set_option maxHeartbeats 4000000
/-! list(zip(xs, ys)) of two lists: the pairs are new tuples -/
namespace Hr
open PySem PySem.Calls PySem.Spec PyProof.Rows L2
theorem zip_nolen : typeLookup (.type "zip") "__len__" = pure none := by rw [typeLookup_type, builtinLookup_eq_fast]; kernel_rfl
theorem zip_nohint : typeLookup (.type "zip") "__length_hint__" = pure none := by rw [typeLookup_type, builtinLookup_eq_fast]; kernel_rfl
/-- the pairs made so far -/
structure ZlG (xs ys : Array Value) (lo : Nat) (h : Heap) (as : List Addr) : Prop where
  rise : as.Pairwise (· < ·)
  above : ∀ a ∈ as, lo ≤ a
  pairs : ∀ (j : Nat) (a : Addr), as[j]? = some a → ∃ x y, xs[j]? = some x ∧ ys[j]? = some y ∧ IsPair h a x y
theorem ZlG.there {xs ys : Array Value} {lo : Nat} {h : Heap} {as : List Addr} (g : ZlG xs ys lo h as) {a : Addr} (ha : a ∈ as) : a < h.objs.size := by
  obtain ⟨j, hj⟩ := List.mem_iff_getElem?.mp ha
  obtain ⟨_, _, _, _, e⟩ := g.pairs j a hj
  exact Heap.lt_size e
structure ZOff (S z TI TO i1 i2 l1 l2 : Addr) : Prop where
  z : z ≠ S
  TI : TI ≠ S
  TO : TO ≠ S
  i1 : i1 ≠ S
  i2 : i2 ≠ S
  l1 : l1 ≠ S
  l2 : l2 ≠ S
def ZSt (S z TI TO i1 i2 l1 l2 : Addr) (xs ys : Array Value) (i : Nat) (h : Heap) : Prop :=
  IsPair h TI (.ref i1) (.ref i2) ∧ h.IsListIter i1 l1 i ∧ h.IsListIter i2 l2 i ∧ h.IsList l1 xs ∧ h.IsList l2 ys ∧
    ((IsZip h z TI TO .none ∧ ∃ a b, IsPair h TO a b) ∨ ∃ T f oT, IsZipHeld h z TI TO T f ∧ h.get? T = some oT ∧ T ≠ z ∧ T ≠ i1 ∧ T ≠ i2 ∧ T ≠ S)
theorem ZSt.keep {S z TI TO i1 i2 l1 l2 : Addr} {xs ys : Array Value} {i : Nat} {h h' : Heap} (o : ZOff S z TI TO i1 i2 l1 l2) (st : ZSt S z TI TO i1 i2 l1 l2 xs ys i h) (hk : ∀ b o, b ≠ S → h.get? b = some o → h'.get? b = some o) : ZSt S z TI TO i1 i2 l1 l2 xs ys i h' := by
  obtain ⟨hTI, h1, h2, hl1, hl2, hz⟩ := st
  refine ⟨hk _ _ o.TI hTI, h1.at fun u e => hk _ u o.i1 e, h2.at fun u e => hk _ u o.i2 e, hl1.at fun u e => hk _ u o.l1 e, hl2.at fun u e => hk _ u o.l2 e, ?_⟩
  rcases hz with ⟨hz, a, b, hTO⟩ | ⟨T, f, oT, hz, hT, r1, r2, r3, r4⟩
  · exact .inl ⟨hk _ _ o.z hz, a, b, hk _ _ o.TO hTO⟩
  · exact .inr ⟨T, f, oT, hk _ _ o.z hz, hk _ _ r4 hT, r1, r2, r3, r4⟩
section
variable {prog : Program} {w : World} {A : Around} {E : Value → Shared → Prop} {s : Shared} {S z TI TO i1 i2 l1 l2 : Addr} {xs ys : Array Value}
theorem zl_item {i : Nat} {Q : Option Value → Shared → Prop} (D : ZipApart z TI TO i1 i2 l1 l2) (hS : S < s.heap.objs.size) (st : ZSt S z TI TO i1 i2 l1 l2 xs ys i s.heap) (hx : i < xs.size) (hy : i < ys.size)
    (hQ : ∀ h' x y, ZSt S z TI TO i1 i2 l1 l2 xs ys (i + 1) h' → xs[i]? = some x → ys[i]? = some y → IsPair h' s.heap.objs.size x y → h'.objs.size = s.heap.objs.size + 1 →
      (∀ c o, c ≠ z → c ≠ TO → c ≠ i1 → c ≠ i2 → s.heap.get? c = some o → h'.get? c = some o) → Q (some (.ref s.heap.objs.size)) { s with heap := h' }) :
    wpAny (model prog w) A (pyNext (.ref z)) Q E s := by
  obtain ⟨hTI, h1, h2, hl1, hl2, hz⟩ := st
  have ex := Array.getElem?_eq_getElem hx
  have ey := Array.getElem?_eq_getElem hy
  have lt : ∀ {c o}, s.heap.get? c = some o → s.heap.objs.size ≠ c := fun e => Nat.ne_of_gt (Heap.lt_size e)
  have n1 : s.heap.objs.size ≠ i1 := let ⟨_, e, _⟩ := h1; lt e
  have n2 : s.heap.objs.size ≠ i2 := let ⟨_, e, _⟩ := h2; lt e
  rcases hz with ⟨hz, a, b, hTO⟩ | ⟨T, f, oT, hz, hT, r1, r2, r3, r4⟩
  · refine wpAny_pyNext_zip_item D hz hTI hTO h1 h2 hl1 hl2 ex ey fun h' a1 a2 a3 a4 a5 a6 hk => ?_
    exact hQ h' _ _ ⟨hk _ _ D.TIz D.TITO D.TIi1 D.TIi2 hTI, a3, a4, hl1.at fun o e => hk _ o D.l1z D.l1TO D.l1i1 D.l1i2 e, hl2.at fun o e => hk _ o D.l2z D.l2TO D.l2i1 D.l2i2 e,
      .inr ⟨s.heap.objs.size, false, _, a1, a5, lt hz, n1, n2, Nat.ne_of_gt hS⟩⟩ ex ey a5 a6 hk
  · refine wpAny_pyNext_zip_item_held D hz hT hTI h1 h2 hl1 hl2 ex ey fun h' a1 a3 a4 a5 a6 hk => ?_
    exact hQ h' _ _ ⟨hk _ _ D.TIz D.TIi1 D.TIi2 hTI, a3, a4, hl1.at fun o e => hk _ o D.l1z D.l1i1 D.l1i2 e, hl2.at fun o e => hk _ o D.l2z D.l2i1 D.l2i2 e,
      .inr ⟨T, true, oT, a1, hk _ _ r1 r2 r3 hT, r1, r2, r3, r4⟩⟩ ex ey a5 a6 fun c o c1 _ c3 c4 e => hk c o c1 c3 c4 e
theorem zl_done {i : Nat} {Q : Option Value → Shared → Prop} (hh : A.handled = none) (D : ZipApart z TI TO i1 i2 l1 l2) (st : ZSt S z TI TO i1 i2 l1 l2 xs ys i s.heap) (hend : xs.size ≤ i ∨ ys.size ≤ i)
    (hQ : ∀ h', (∀ c o, c ≠ z → c ≠ TO → c ≠ i1 → c ≠ i2 → s.heap.get? c = some o → h'.get? c = some o) → Q none { s with heap := h' }) :
    wpAny (model prog w) A (pyNext (.ref z)) Q E s := by
  obtain ⟨hTI, h1, h2, hl1, hl2, hz⟩ := st
  have hend' : xs[i]? = none ∨ ys[i]? = none := hend.imp Array.getElem?_eq_none Array.getElem?_eq_none
  rcases hz with ⟨hz, a, b, hTO⟩ | ⟨T, f, oT, hz, hT, r1, r2, r3, r4⟩
  · exact wpAny_pyNext_zip_end hh D hz hTI hTO h1 h2 hl1 hl2 hend' fun h' hk => hQ h' hk
  · exact wpAny_pyNext_zip_end_held hh D hz hT hTI h1 h2 hl1 hl2 hend' fun h' hk => hQ h' fun c o c1 _ c3 c4 e => hk c o c1 c3 c4 e
theorem zl_loop {R : Result → Shared → Prop} {lo : Nat} (hh : A.handled = none) (D : ZipApart z TI TO i1 i2 l1 l2) (O : ZOff S z TI TO i1 i2 l1 l2) (hSl : S < lo) (hzl : z < lo) (hTl : TO < lo) (h1l : i1 < lo) (h2l : i2 < lo) (hxy : xs.size = ys.size) (hn : xs.size ≤ sizeLine) (res : Value) {h₁ : Heap}
    (hR : ∀ h' tk acc c as, (∀ b o, b ≠ S → b ≠ z → b ≠ TO → b ≠ i1 → b ≠ i2 → h₁.get? b = some o → h'.get? b = some o) → h'.get? S = some { cls := .type "list", dict := none, data := .seq acc c, slots := #[] } → as.length = xs.size → ZlG xs ys lo h' as →
      acc.toList = as.map Value.ref → R (.ok (.ret res)) { s with heap := h', toks := tk }) :
    ∀ (k i : Nat) (h : Heap) (tk c : Nat) (acc : Array Value) (as : List Addr), xs.size - i = k → i ≤ xs.size → ZSt S z TI TO i1 i2 l1 l2 xs ys i h → (∀ b o, b ≠ S → b ≠ z → b ≠ TO → b ≠ i1 → b ≠ i2 → h₁.get? b = some o → h.get? b = some o) →
      h.get? S = some { cls := .type "list", dict := none, data := .seq acc c, slots := #[] } → acc.toList = as.map Value.ref → as.length = i → ZlG xs ys lo h as → lo ≤ h.objs.size →
      codeAny (model prog w) A (.builtin "list.extend.loop" ⟨[.ref S, .ref z, res], []⟩) R { s with heap := h, toks := tk } := by
  intro k
  induction k with
  | zero =>
    intro i h tk c acc as hk hi hst hkeep hS hacc hal hG hlo
    refine codeAny_builtin PySem.F.entry_extend_loop ?_
    rw [Around.under_plainId PySem.F.plain_extend_loop _]
    show wpAny _ A.in1 (pyNext (.ref z) >>= _) _ _ _
    refine wpAny_bind (zl_done (s := { s with heap := h, toks := tk }) (A := A.in1) hh D hst (.inl (by omega)) fun h' he => ?_)
    have off : ∀ a ∈ as, a ≠ z ∧ a ≠ TO ∧ a ≠ i1 ∧ a ≠ i2 := fun a ha => by
      have := hG.above a ha
      refine ⟨?_, ?_, ?_, ?_⟩ <;> (refine Nat.ne_of_gt (Nat.lt_of_lt_of_le ?_ this); assumption)
    refine wpAny_pure (hR h' tk acc c as (fun b o b1 b2 b3 b4 b5 e => he b o b2 b3 b4 b5 (hkeep b o b1 b2 b3 b4 b5 e)) (he S _ (Ne.symm O.z) (Ne.symm O.TO) (Ne.symm O.i1) (Ne.symm O.i2) hS) (by omega) ⟨hG.rise, hG.above, fun j a hj => ?_⟩ hacc)
    obtain ⟨x, y, e1, e2, e3⟩ := hG.pairs j a hj
    obtain ⟨o1, o2, o3, o4⟩ := off a (List.mem_of_getElem? hj)
    exact ⟨x, y, e1, e2, he a _ o1 o2 o3 o4 e3⟩
  | succ k ih =>
    intro i h tk c acc as hk hi hst hkeep hS hacc hal hG hlo
    have hlt : i < xs.size := by omega
    have hsz : acc.size = i := by rw [← Array.length_toList, hacc, List.length_map, hal]
    refine codeAny_builtin PySem.F.entry_extend_loop ?_
    rw [Around.under_plainId PySem.F.plain_extend_loop _]
    show wpAny _ A.in1 (pyNext (.ref z) >>= _) _ _ _
    refine wpAny_bind (zl_item (s := { s with heap := h, toks := tk }) D (Heap.lt_size hS) hst hlt (by omega) fun h' x y hst' ex ey ht hz hkp => ?_)
    dsimp only at ht hz hkp ⊢
    have hS' := hkp S _ (Ne.symm O.z) (Ne.symm O.TO) (Ne.symm O.i1) (Ne.symm O.i2) hS
    have up : ∀ b o, b ≠ S → h'.get? b = some o → (h'.update S (Obj.mapSeq (·.push (Value.ref h.objs.size)))).get? b = some o := fun b o hb e => (Heap.get?_update_other _ _ (Ne.symm hb)).trans e
    have hSn : S < h.objs.size := Heap.lt_size hS
    show wpAny _ A.in1 (updateSeq S (·.push (Value.ref h.objs.size)) >>= _) _ _ _
    refine wpAny_bind ?_
    refine wpAny_updateSeq hS' rfl (wpAny_pure ⟨plainId_quiet PySem.F.plain_extend_loop _, ih (i + 1) _ tk _ (acc.push (Value.ref h.objs.size)) (as ++ [h.objs.size]) (by omega) hlt (hst'.keep O up)
      (fun b o b1 b2 b3 b4 b5 e => up b o b1 (hkp b o b2 b3 b4 b5 (hkeep b o b1 b2 b3 b4 b5 e))) (Heap.get?_update_self _ hS' rfl) (by rw [Array.toList_push, hacc, List.map_append]; rfl) (by rw [List.length_append, hal]; rfl) ⟨?_, ?_, ?_⟩ ?_⟩) (by rw [hsz]; omega) (by show (acc.push (Value.ref h.objs.size)).size ≤ sizeLine + 1; rw [Array.size_push, hsz]; omega)
    · refine List.pairwise_append.mpr ⟨hG.rise, List.pairwise_singleton _ _, fun a ha b hb => ?_⟩
      rw [List.mem_singleton.mp hb]
      exact hG.there ha
    · intro a ha
      rcases List.mem_append.mp ha with ha | ha
      · exact hG.above a ha
      · rw [List.mem_singleton.mp ha]; exact hlo
    · intro j b hj
      rcases Nat.lt_trichotomy j as.length with h1 | h1 | h1
      · rw [List.getElem?_append_left h1] at hj
        obtain ⟨x', y', e1, e2, e3⟩ := hG.pairs j b hj
        have hb := hG.above b (List.mem_of_getElem? hj)
        exact ⟨x', y', e1, e2, up b _ (Nat.ne_of_gt (Nat.lt_of_lt_of_le hSl hb)) (hkp b _ (Nat.ne_of_gt (Nat.lt_of_lt_of_le hzl hb)) (Nat.ne_of_gt (Nat.lt_of_lt_of_le hTl hb)) (Nat.ne_of_gt (Nat.lt_of_lt_of_le h1l hb)) (Nat.ne_of_gt (Nat.lt_of_lt_of_le h2l hb)) e3)⟩
      · subst h1
        have hb : h.objs.size = b := by simpa using hj
        subst hb
        exact ⟨x, y, by rw [hal]; exact ex, by rw [hal]; exact ey, up _ _ (Nat.ne_of_gt hSn) ht⟩
      · have hnone : (as ++ [h.objs.size])[j]? = none := List.getElem?_eq_none (by rw [List.length_append, List.length_singleton]; omega)
        rw [hnone] at hj; cases hj
    · have e : (h'.update S (Obj.mapSeq (·.push (Value.ref h.objs.size)))).get? h.objs.size = _ := up _ _ (Nat.ne_of_gt hSn) ht
      exact Nat.le_of_lt (Nat.lt_of_le_of_lt hlo (Heap.lt_size e))
/-- the zip as it is made -/
def ZNew (z TI TO i1 i2 l1 l2 : Addr) (xs ys : Array Value) (h : Heap) : Prop :=
  IsPair h TI (.ref i1) (.ref i2) ∧ h.IsListIter i1 l1 0 ∧ h.IsListIter i2 l2 0 ∧ h.IsList l1 xs ∧ h.IsList l2 ys ∧ IsZip h z TI TO .none ∧ ∃ a b, IsPair h TO a b
theorem ZNew.st {h : Heap} (n : ZNew z TI TO i1 i2 l1 l2 xs ys h) : ZSt S z TI TO i1 i2 l1 l2 xs ys 0 h := ⟨n.1, n.2.1, n.2.2.1, n.2.2.2.1, n.2.2.2.2.1, .inl n.2.2.2.2.2⟩
theorem ZNew.keep {h h' : Heap} (n : ZNew z TI TO i1 i2 l1 l2 xs ys h) (O : ZOff S z TI TO i1 i2 l1 l2) (hk : ∀ b o, b ≠ S → h.get? b = some o → h'.get? b = some o) : ZNew z TI TO i1 i2 l1 l2 xs ys h' := by
  obtain ⟨hTI, h1, h2, hl1, hl2, hz, a, b, hTO⟩ := n
  exact ⟨hk _ _ O.TI hTI, h1.at fun u e => hk _ u O.i1 e, h2.at fun u e => hk _ u O.i2 e, hl1.at fun u e => hk _ u O.l1 e, hl2.at fun u e => hk _ u O.l2 e, hk _ _ O.z hz, a, b, hk _ _ O.TO hTO⟩
theorem ZNew.lt {h : Heap} (n : ZNew z TI TO i1 i2 l1 l2 xs ys h) : z < h.objs.size ∧ TI < h.objs.size ∧ TO < h.objs.size ∧ i1 < h.objs.size ∧ i2 < h.objs.size ∧ l1 < h.objs.size ∧ l2 < h.objs.size := by
  obtain ⟨hTI, ⟨_, h1, _⟩, ⟨_, h2, _⟩, ⟨_, hl1, _⟩, ⟨_, hl2, _⟩, hz, a, b, hTO⟩ := n
  exact ⟨Heap.lt_size hz, Heap.lt_size hTI, Heap.lt_size hTO, Heap.lt_size h1, Heap.lt_size h2, Heap.lt_size hl1, Heap.lt_size hl2⟩
theorem zl_extend {R : Result → Shared → Prop} (hh : A.handled = none) (D : ZipApart z TI TO i1 i2 l1 l2) (O : ZOff S z TI TO i1 i2 l1 l2) (n : ZNew z TI TO i1 i2 l1 l2 xs ys s.heap) (hxy : xs.size = ys.size) (hn : xs.size ≤ sizeLine) (res : Value) (c₀ : Nat) (hS : s.heap.get? S = some { cls := .type "list", data := .seq #[] c₀ })
    (hR : ∀ h' tk acc c as, (∀ b o, b ≠ S → b ≠ z → b ≠ TO → b ≠ i1 → b ≠ i2 → s.heap.get? b = some o → h'.get? b = some o) → h'.get? S = some { cls := .type "list", dict := none, data := .seq acc c, slots := #[] } → as.length = xs.size → ZlG xs ys s.heap.objs.size h' as →
      acc.toList = as.map Value.ref → R (.ok (.ret res)) { s with heap := h', toks := tk }) :
    wpAny (model prog w) A.in1 (Builtin.List.listExtendWith (.ref S) (.ref z) res)
      (fun fin s' => match fin with | .done f => R (.ok f) s' | .again c' => c'.quiet = true ∧ codeAny (model prog w) A c' R s') (fun e s' => R (.error e) s') s := by
  have hSl : S < s.heap.objs.size := Heap.lt_size hS
  have key : ∀ (h : Heap) (c₁ tk : Nat), (∀ b o, b ≠ S → s.heap.get? b = some o → h.get? b = some o) →
      h.get? S = some { cls := .type "list", data := .seq #[] c₁ } → h.objs.size = s.heap.objs.size → codeAny (model prog w) A (.builtin "list.extend.loop" ⟨[.ref S, .ref z, res], []⟩) R { s with heap := h, toks := tk } := by
    intro h c₁ tk hk hS₁ hsz
    have n' := n.keep O hk
    obtain ⟨a1, a2, a3, a4, a5, a6, a7⟩ := n.lt
    refine zl_loop (lo := s.heap.objs.size) (s := s) (h₁ := s.heap) hh D O hSl a1 a3 a4 a5 hxy hn res (fun h' tk' acc c as hk' hS' hl hG hacc => hR h' tk' acc c as hk' hS' hl hG hacc)
      xs.size 0 h tk c₁ #[] [] (Nat.sub_zero _) (Nat.zero_le _) n'.st (fun b o hb _ _ _ _ e => hk b o hb e) hS₁ rfl rfl
      ⟨List.Pairwise.nil, (fun _ ha => nomatch ha), (fun j a hj => by simp at hj)⟩ (by omega)
  have hz := n.2.2.2.2.2.1
  have hT : s.TypeIs (.ref z) "zip" := ⟨_, hz, rfl⟩
  unfold Builtin.List.listExtendWith
  refine wpAny_bind (wpAny_typeOf (T := "zip") hT ?_)
  have h1 : Builtin.List.listSameRef (.ref S) (.ref z) = false := by simp [Builtin.List.listSameRef, Ne.symm O.z]
  rw [if_neg (by rw [h1]; decide)]
  refine wpAny_bind (wpAny_pyIter_zip hz ?_)
  refine wpAny_bind (wpAny_holding ?_)
  unfold Builtin.List.listLengthHint
  refine wpAny_bind (wpAny_specialOf hT zip_nolen ?_)
  show wpAny _ A.in1 (specialOf (Value.ref z) (Str.ofString "__length_hint__") >>= _) _ _ _
  refine wpAny_bind (wpAny_specialOf hT zip_nohint ?_)
  refine wpAny_pure ?_
  rw [if_pos (by decide)]
  refine wpAny_bind (wpAny_rule ?_)
  refine wpAny_bind ?_
  show wpAny _ _ (updateSeq S (·.push .none) >>= fun _ => updateSeq S (·.pop)) _ _ _
  refine wpAny_bind (wpAny_updateSeq hS rfl ?_)
  have hS₂ := Heap.get?_update_self (Obj.mapSeq (·.push Value.none)) hS rfl
  refine wpAny_updateSeq (hz := by seq_fits) hS₂ rfl ?_
  have hS₃ := Heap.get?_update_self (Obj.mapSeq (·.pop)) hS₂ rfl
  refine wpAny_pure ⟨plainId_quiet PySem.F.plain_extend_loop _, key _ _ _ (fun b o hb e => ?_) hS₃ ?_⟩
  · exact (Heap.get?_update_other _ _ (Ne.symm hb)).trans ((Heap.get?_update_other _ _ (Ne.symm hb)).trans e)
  · rw [(Heap.SameBut.update ..).1, (Heap.SameBut.update ..).1]
theorem zl_call {Q : Value → Shared → Prop} (hh : A.handled = none) (D : ZipApart z TI TO i1 i2 l1 l2) (n : ZNew z TI TO i1 i2 l1 l2 xs ys s.heap) (hxy : xs.size = ys.size) (hn : xs.size ≤ sizeLine)
    (hQ : ∀ h' tk acc c as, (∀ b o, b ≠ z → b ≠ TO → b ≠ i1 → b ≠ i2 → s.heap.get? b = some o → h'.get? b = some o) → h'.get? s.heap.objs.size = some { cls := .type "list", dict := none, data := .seq acc c, slots := #[] } → as.length = xs.size → ZlG xs ys (s.heap.objs.size + 1) h' as →
      acc.toList = as.map Value.ref → Q (.ref s.heap.objs.size) { s with heap := h', toks := tk }) :
    wpAny (model prog w) A (call (.type "list") [.ref z]) Q E s := by
  refine callType_codes (Q₁ := fun obj s₁ => obj = .ref s.heap.objs.size ∧ s₁ = { s with heap := s.heap.push { cls := .type "list", data := .seq #[] } }) PySem.F.called_list (PySem.F.typeCall_list_1 _) PySem.F.entry_list_init
    (code_list_new _ ⟨rfl, rfl⟩) fun obj s₁ h₁ => ?_
  obtain ⟨rfl, rfl⟩ := h₁
  obtain ⟨a1, a2, a3, a4, a5, a6, a7⟩ := n.lt
  have O : ZOff s.heap.objs.size z TI TO i1 i2 l1 l2 := ⟨Nat.ne_of_lt a1, Nat.ne_of_lt a2, Nat.ne_of_lt a3, Nat.ne_of_lt a4, Nat.ne_of_lt a5, Nat.ne_of_lt a6, Nat.ne_of_lt a7⟩
  have hS : (s.heap.push { cls := .type "list", data := .seq #[] }).get? s.heap.objs.size = some { cls := .type "list", data := .seq #[] } := Heap.get?_push_size _ rfl
  refine ⟨⟨_, hS, rfl⟩, PySem.F.args_list_init_2 _ _, ?_⟩
  show wpAny _ _ (do let old ← Builtin.List.listItems (.ref s.heap.objs.size); Builtin.List.listUpdate (.ref s.heap.objs.size) (fun _ => #[]); letGo old.toList.reverse; Builtin.List.listExtendWith (.ref s.heap.objs.size) (.ref z) .none) _ _ _
  refine wpAny_bind ?_
  unfold Builtin.List.listItems
  refine wpAny_bind (wpAny_seqItems hS rfl (wpAny_pure ?_))
  show wpAny _ _ (updateSeq s.heap.objs.size (fun _ => #[]) >>= fun _ => letGo (#[] : Array Value).toList.reverse >>= fun _ => Builtin.List.listExtendWith (.ref s.heap.objs.size) (.ref z) .none) _ _ _
  refine wpAny_bind (wpAny_updateSeq hS rfl ?_)
  have hS₂ := Heap.get?_update_self (Obj.mapSeq (fun _ => (#[] : Array Value))) hS rfl
  have oth : ∀ b o, b ≠ s.heap.objs.size → s.heap.get? b = some o → ((s.heap.push { cls := .type "list", data := .seq #[] }).update s.heap.objs.size (Obj.mapSeq (fun _ => (#[] : Array Value)))).get? b = some o :=
    fun b o hb e => (Heap.get?_update_other _ _ (Ne.symm hb)).trans (Heap.get?_push_of_some _ e)
  have sz : ((s.heap.push { cls := .type "list", data := .seq #[] }).update s.heap.objs.size (Obj.mapSeq (fun _ => (#[] : Array Value)))).objs.size = s.heap.objs.size + 1 := by rw [(Heap.SameBut.update ..).1, Heap.size_push]
  refine wpAny_bind (wpAny_letGo ?_)
  refine zl_extend (A := A.in1) hh D O (n.keep O oth) hxy hn .none _ hS₂ (fun h' tk acc c as hk hS' hl hG hacc => ?_)
  refine ⟨rfl, hQ h' tk acc c as (fun b o b2 b3 b4 b5 e => ?_) hS' hl ?_ hacc⟩
  · exact hk b o (Nat.ne_of_lt (Heap.lt_size e)) b2 b3 b4 b5 (oth b o (Nat.ne_of_lt (Heap.lt_size e)) e)
  · exact ⟨hG.rise, fun a ha => by have := hG.above a ha; rw [← sz]; exact this, hG.pairs⟩
end

/-- tuples of pairs tracked at their addresses -/
def putP : Hp → List Addr → List (V × V) → Hp
  | H, a :: as, p :: ps => putP (upd H a (.tup [p.1, p.2])) as ps
  | H, _, _ => H
theorem putP_off {b : Addr} : ∀ (as : List Addr) (ps : List (V × V)) (H : Hp), b ∉ as → putP H as ps b = H b
  | [], _, _, _ => rfl
  | _ :: _, [], _, _ => rfl
  | a :: as, p :: ps, H, h => by
    show putP (upd H a (.tup [p.1, p.2])) as ps b = H b
    rw [putP_off as ps _ (fun z => h (List.mem_cons_of_mem _ z)), upd_ne (fun z => h (by rw [z]; exact List.mem_cons_self))]
theorem putP_at : ∀ (as : List Addr) (ps : List (V × V)) (H : Hp), as.length = ps.length → as.Nodup → ∀ (j : Nat) (a : Addr) (p : V × V), as[j]? = some a → ps[j]? = some p → putP H as ps a = some (.tup [p.1, p.2])
  | [], [], _, _, _, j, a, p, h1, _ => by simp at h1
  | [], _ :: _, _, h, _, _, _, _, _, _ => by cases h
  | _ :: _, [], _, h, _, _, _, _, _, _ => by cases h
  | b :: as, q :: ps, H, h, hn, 0, a, p, h1, h2 => by
    have hn' := List.nodup_cons.mp hn
    have e1 : b = a := Option.some.inj h1
    have e2 : q = p := Option.some.inj h2
    subst e1 e2
    show putP (upd H b (.tup [q.1, q.2])) as ps b = _
    rw [putP_off as ps _ hn'.1, upd_same]
  | b :: as, q :: ps, H, h, hn, j + 1, a, p, h1, h2 => putP_at as ps (upd H b (.tup [q.1, q.2])) (Nat.succ.inj h) (List.nodup_cons.mp hn).2 j a p (by simpa using h1) (by simpa using h2)
theorem zip_get {xs ys : List V} {j : Nat} {x y : V} (h1 : xs[j]? = some x) (h2 : ys[j]? = some y) : (xs.zip ys)[j]? = some (x, y) := by
  rw [List.getElem?_zip_eq_some]
  exact ⟨h1, h2⟩
theorem vals_get {xs : List V} {us : List Value} (h : Vals xs us) : ∀ {j : Nat} {x : V} {u : Value}, xs[j]? = some x → us[j]? = some u → RelV x u := by
  induction h with
  | nil => intro j x u h1 _; simp at h1
  | cons r t ih =>
    intro j x u h1 h2
    cases j with
    | zero =>
      cases h1
      cases h2
      exact r
    | succ j => exact ih (by simpa using h1) (by simpa using h2)
/-- list(zip(a, b)) of two lists -/
def tListZip (K : PySem.W.Frag) (ta : TA) : TE := fun σ H Q => ta σ H fun vs H1 => ∃ (a b : Addr) (xs ys : List V), vs = [.ref a, .ref b] ∧ SqL K H1 a xs ∧ SqL K H1 b ys ∧ xs.length = ys.length ∧ xs.length ≤ 1000000 ∧
  ∀ (H' : Hp) (p : Addr) (ts : List Addr), Same H1 H' → H1 p = none → (∀ t ∈ ts, H1 t = none) → p ∉ ts → H' p = some (.lst (ts.map V.ref)) → ts.length = xs.length → (∀ (j : Nat) (t : Addr) (x y : V), ts[j]? = some t → xs[j]? = some x → ys[j]? = some y → H' t = some (.tup [x, y])) → Q (.ref p) H'
section
variable {X : Cx} {e e2 : Expr} {ta : TA} {p p2 cpos pos : Pos}
theorem zip_laid {pins : List (Addr × Obj)} {σ : L2.St} {H : Hp} {s : Shared} {h' : Heap} {tk lo : Nat} {S : Addr} {xs ys : List V} {us vs : List Value} {acc : Array Value} {c : Nat} {as : List Addr} (I : Inv X pins σ H s) (hz : xs.length ≤ sizeLine) (hxy : xs.length = ys.length) (rx : Vals xs us) (ry : Vals ys vs)
    (hk : ∀ b o, s.heap.get? b = some o → h'.get? b = some o) (hS : h'.get? S = some { cls := .type "list", dict := none, data := .seq acc c, slots := #[] }) (hSl : s.heap.objs.size ≤ S) (hSo : S < lo) (hl : as.length = xs.length) (hG : ZlG us.toArray vs.toArray lo h' as) (hacc : acc.toList = as.map Value.ref) :
    ∃ H' : Hp, Same H H' ∧ H S = none ∧ (∀ t ∈ as, H t = none) ∧ S ∉ as ∧ H' S = some (.lst (as.map V.ref)) ∧ (∀ (j : Nat) (t : Addr) (x y : V), as[j]? = some t → xs[j]? = some x → ys[j]? = some y → H' t = some (.tup [x, y])) ∧ Inv X pins σ H' { s with heap := h', toks := tk } := by
  have hSn : S ∉ as := fun z => Nat.lt_irrefl _ (Nat.lt_of_lt_of_le hSo (hG.above _ z))
  have nd : as.Nodup := List.Pairwise.imp (fun {a b} (h : a < b) => Nat.ne_of_lt h) hG.rise
  have new : ∀ t ∈ as, H t = none := fun t ht => I.hok.fresh (Nat.le_trans (Nat.le_trans hSl (Nat.le_of_lt hSo)) (hG.above t ht))
  have newS : H S = none := I.hok.fresh hSl
  have atP := putP_at as (xs.zip ys) (upd H S (.lst (as.map V.ref))) (by rw [List.length_zip, hl]; omega) nd
  have off : ∀ b, b ∉ as → b ≠ S → putP (upd H S (.lst (as.map V.ref))) as (xs.zip ys) b = H b := fun b h1 h2 => by rw [putP_off as _ _ h1, upd_ne h2]
  have low : ∀ b o, s.heap.get? b = some o → b ∉ as ∧ b ≠ S := fun b o e => by
    have := Heap.lt_size e
    exact ⟨fun z => Nat.lt_irrefl _ (Nat.lt_of_lt_of_le (Nat.lt_of_lt_of_le (Nat.lt_of_lt_of_le this hSl) (Nat.le_of_lt hSo)) (hG.above b z)), Nat.ne_of_lt (Nat.lt_of_lt_of_le this hSl)⟩
  have kp : ∀ b u, H b = some u → (putP (upd H S (.lst (as.map V.ref))) as (xs.zip ys)) b = some u := fun b u e => by
    rw [off b (fun z => by rw [new b z] at e; cases e) (fun z => by rw [z, newS] at e; cases e)]
    exact e
  have eS : putP (upd H S (.lst (as.map V.ref))) as (xs.zip ys) S = some (.lst (as.map V.ref)) := by rw [putP_off as _ _ hSn, upd_same]
  refine ⟨putP (upd H S (.lst (as.map V.ref))) as (xs.zip ys), kp, newS, new, hSn, eS, fun j t x y h1 h2 h3 => atP j t (x, y) h1 (zip_get h2 h3), ?_⟩
  refine I.call' (ch := []) rfl ⟨fun b o q _ _ _ => hk b o q, fun b o q _ _ _ => ⟨o.slots, hk b o q⟩, fun b o q n _ => ?_, fun b o q _ => ⟨o, hk b o q⟩, fun b xs q => kp b _ q, fun b o u q => kp b _ q, fun b ps q => ⟨#[], by rw [kp b _ q]; simp⟩⟩ (fun b u q => ?_) I.bare fun b z => by simp at z
  · obtain ⟨z1, z2⟩ := low b o q
    rw [off b z1 z2]
    exact n
  · by_cases hb : b ∈ as
    · obtain ⟨j, hj⟩ := List.mem_iff_getElem?.mp hb
      have hjl : j < xs.length := by
        have := (List.getElem?_eq_some_iff.mp hj).1
        omega
      have hx := List.getElem?_eq_getElem hjl
      have hy := List.getElem?_eq_getElem (show j < ys.length by omega)
      generalize xs[j] = x at hx
      generalize ys[j] = y at hy
      rw [atP j b (x, y) hj (zip_get hx hy)] at q
      cases q
      obtain ⟨u1, u2, f1, f2, f3⟩ := hG.pairs j b hj
      exact ⟨by show 2 ≤ sizeLine; decide, [u1, u2], .cons (vals_get rx hx (by simpa using f1)) (.cons (vals_get ry hy (by simpa using f2)) .nil), ⟨_, f3, rfl, _, rfl⟩⟩
    · by_cases hb2 : b = S
      · rw [hb2] at q ⊢
        rw [eS] at q
        cases q
        refine ⟨by rw [List.length_map]; omega, acc.toList, c, by rw [hacc]; exact LiI.vals_refs as, ?_⟩
        rw [Array.toArray_toList]
        exact hS
      · rw [off b hb hb2] at q
        exact (I.hok b u q).stay (fun d v _ y => hk d v y) (fun d y => kp d _ y) fun d xs y => kp d _ y
theorem pe_listZip (hc : X.calm = true) (hg : Gl X "list") (hm : X.mg "list" = none) (hg2 : Gl X "zip") (hm2 : X.mg "zip" = none) (ha : PA X [e, e2] ta)
    (na : starEach [Expr.Call (.Name "zip" p2) [e, e2] [] cpos] X.env = (false, eval (Expr.Call (.Name "zip" p2) [e, e2] [] cpos) X.env) :: starEach [] X.env := by rfl)
    (hs : starEach [e, e2] X.env = (false, eval e X.env) :: starEach [e2] X.env := by rfl) (hpl : (backTo cpos (starEach [e2] X.env)).any (·.1) = false := by rfl) :
    PE X (.Call (.Name "list" p) [.Call (.Name "zip" p2) [e, e2] [] cpos] [] pos) (tListZip X.K ta) := by
  refine ⟨fun pins s σ H Q I h => ?_⟩
  refine Call_ (ld_blt I hg hm PyProof.Rows.boot_list (PyProof.Rows.callWith_type1 (args_cons ?_ na) na))
  refine Call_ (ld_blt I hg2 hm2 PyProof.Rows.boot_zip (PyProof.Rows.callWith_type1 (thn (ha.run cpos pins s σ H _ I h) fun us s1 ⟨vs, H1, I1, r1, q1⟩ => ?_) hs hpl))
  obtain ⟨a, b, xs, ys, ex, hqx, hqy, hxy, hlen, q⟩ := q1
  subst ex
  cases r1 with
  | cons r rr =>
    cases rr with
    | cons r' rr =>
      cases rr
      cases r
      cases r'
      obtain ⟨its, rv, p1, _⟩ := I1.list hqx
      obtain ⟨its2, rv2, p2, _⟩ := I1.list hqy
      refine call_zip_2 p1.isList p2.isList fun h' hz hTI hTO h1 h2 hsz hk => ?_
      refine args_nil ?_
      have l1 := rv.length
      have l2 := rv2.length
      have k1 : ∀ c o, s1.heap.get? c = some o → c < s1.heap.objs.size := fun c o e => Heap.lt_size e
      refine zl_call (xs := its.toArray) (ys := its2.toArray) (I1.ok.hd hc) (PySem.W.ktu_apart s1.heap.objs.size a b p1.lt p2.lt) ⟨hTI, h1, h2, p1.isList.at fun o e => hk _ o e, p2.isList.at fun o e => hk _ o e, hz, _, _, hTO⟩ (by simp; omega) (by simp; exact Nat.le_trans (by omega) (show 1000000 ≤ sizeLine by decide)) fun g tk acc c as hk2 hS hl hG hacc => ?_
      have hkk : ∀ b o, s1.heap.get? b = some o → g.get? b = some o := fun b o e => by
        have lt := Heap.lt_size e
        exact hk2 b o (Nat.ne_of_lt (Nat.lt_of_lt_of_le lt (Nat.le_add_right _ _))) (Nat.ne_of_lt (Nat.lt_of_lt_of_le lt (Nat.le_add_right _ _))) (Nat.ne_of_lt lt) (Nat.ne_of_lt (Nat.lt_of_lt_of_le lt (Nat.le_add_right _ _))) (hk b o e)
      obtain ⟨H', a1, a2, a3, a4, a5, a6, J⟩ := zip_laid (tk := tk) I1 (Nat.le_trans hlen (by decide)) hxy rv rv2 hkk hS (hsz ▸ Nat.le_add_right _ _) (Nat.lt_succ_self _) (by rw [hl]; simp; omega) hG hacc
      exact ⟨.ref _, H', J, rfl, q H' _ as a1 a2 a3 a4 a5 (by rw [hl]; simp; omega) a6⟩
end
end Hr

set_option Elab.async false
set_option linter.all false
set_option maxRecDepth 100000
set_option maxHeartbeats 4000000
namespace Hr
open PySem PySem.Spec PyProof.Rows L2
/-- the slots, written out -/
theorem st_is {t : L2.St → Hp → Prop} {σ : L2.St} {H : Hp} (σ' : L2.St) (e : σ = σ') (h : t σ' H) : t σ H := e ▸ h
/-! lists of numbers -/
abbrev iV (l : List Int) : List V := l.map V.int
abbrev nV (l : List Nat) : List V := l.map fun i => V.int (i : Nat)
abbrev iD (l : List Int) : PyData := .list (l.map PyData.int)
abbrev nD (l : List Nat) : PyData := .list (l.map fun i => PyData.int (i : Nat))
theorem inV_int (i : Int) (l : List Int) : inV (.int i) (iV l) = decide (i ∈ l) := by
  induction l with
  | nil => rfl
  | cons x r ih =>
    have e : inV (.int i) (iV (x :: r)) = (eqV (.int x) (.int i) || inV (.int i) (iV r)) := rfl
    rw [e, ih]
    show ((x == i) || decide (i ∈ r)) = _
    rw [Bool.eq_iff_iff, Bool.or_eq_true_iff, beq_iff_eq, decide_eq_true_eq, decide_eq_true_eq, List.mem_cons]
    exact or_congr_left eq_comm
theorem nV_i (l : List Nat) : nV l = iV (l.map fun (i : Nat) => (i : Int)) := by rw [iV, List.map_map]; rfl
theorem inV_nat (i : Nat) (l : List Nat) : inV (.int (i : Nat)) (nV l) = decide (i ∈ l) := by
  rw [nV_i, inV_int, Bool.eq_iff_iff, decide_eq_true_eq, decide_eq_true_eq, List.mem_map]
  exact ⟨fun ⟨a, h1, h2⟩ => by rw [← Int.ofNat.inj h2]; exact h1, fun h => ⟨i, h, rfl⟩⟩
theorem flat_ints (l : List Int) : (iV l).all flatV = true := by
  rw [List.all_map, List.all_eq_true]
  intro x _
  rfl
theorem flat_nats (l : List Nat) : (nV l).all flatV = true := by
  rw [List.all_map, List.all_eq_true]
  intro x _
  rfl
theorem rg_nat (n : Nat) : rgV 0 (n : Int) = nV (List.range n) := by
  unfold rgV nV
  rw [show ((n : Int) - 0).toNat = n by omega]
  refine List.map_congr_left fun i _ => ?_
  rw [Int.zero_add]
theorem dpa_nats {K : PySem.W.Frag} {H : Hp} : ∀ (l : List Nat), DpAll K H (nV l) (l.map fun i => PyData.int (i : Nat))
  | [] => .nil
  | n :: r => .cons (.int _) (dpa_nats r)
theorem ints_inv {K : PySem.W.Frag} {H : Hp} : ∀ {vs : List V} {l : List Int}, DpAll K H vs (l.map PyData.int) → vs = iV l
  | _, [], h => by cases h; rfl
  | _, s :: r, h => by
    cases h with
    | cons a t =>
      cases a
      rw [ints_inv t]; rfl
theorem nats_inv {K : PySem.W.Frag} {H : Hp} : ∀ {vs : List V} {l : List Nat}, DpAll K H vs (l.map fun i => PyData.int (i : Nat)) → vs = nV l
  | _, [], h => by cases h; rfl
  | _, s :: r, h => by
    cases h with
    | cons a t =>
      cases a
      rw [nats_inv t]; rfl
theorem deep_int {n : Nat} {i : Int} : deep (n + 1) (.int i) = true := by unfold deep; rfl
theorem deep_bool {n : Nat} {i : Bool} : deep (n + 1) (.bool i) = true := by unfold deep; rfl
theorem deep_none {n : Nat} : deep (n + 1) .none = true := by unfold deep; rfl
theorem nD_deep {n : Nat} {l : List Nat} (h : l.length < 50000) : deep (n + 2) (nD l) = true :=
  deep_list_of (by rw [List.length_map]; exact h) fun d hd => by
    obtain ⟨z, _, rfl⟩ := List.mem_map.mp hd
    exact deep_int
theorem eqv_same {n : Nat} {d : PyData} (h : deep n d = true) : PyData.eqv d d = true := SeqAt.eqv_refl d (deep_lay n d h).1
/-- comparing a list of numbers with an equal one -/
theorem ne_nats {K : PySem.W.Frag} {H : Hp} {a b : Addr} {l m : List Nat} {Q : VK} (ha : H a = some (.lst (nV l))) (hb : H b = some (.lst (nV m))) (e : l = m) (hl : l.length < 50000) (q : Q (.bl false) H) : rNeD K (.ref a) (.ref b) H Q := by
  subst e
  refine ⟨nD l, nD l, .lst (SqL.of ha) (dpa_nats l), .lst (SqL.of hb) (dpa_nats l), deep_shaped (nD_deep (n := 0) hl) (by decide), deep_shaped (nD_deep (n := 0) hl) (by decide), ?_⟩
  rw [eqv_same (nD_deep (n := 0) hl)]
  exact q
/-- a comprehension with a test over a list of numbers -/
theorem lc_nats {J : It} {G : Hp → Prop} {l : List Nat} (w : Walk J (nV l).length G (YAt (nV l))) {g : TG} {tt : TT} {te : TE} {vs : List Nat} {σ : L2.St} {H1 : Hp} {D : Addr} {Qd : Hp → Prop} (hD : H1 D = none) (p : Nat → Bool) (hG : ∀ H, Same H1 H → G H) (hn : l.length < 100000)
    (hs : ∀ (i : Nat) H (R : V → Hp → Prop) (Z : Hp → Prop), i ∈ l → Same H1 H → (p i = true → ∀ H4, Same H H4 → R (.int (i : Nat)) H4) → (p i = false → ∀ H4, Same H H4 → Z H4) → g (.int (i : Nat)) (wipe σ vs) H fun σ2 H2 => wipe σ2 vs = wipe σ vs ∧ tt σ2 H2 fun b H3 => if b = true then te σ2 H3 R else Z H3)
    (hd : ∀ H, Same H1 H → H D = some (.lst (nV (l.filter p))) → Qd H) :
    ∃ W : Nat → Nat → Hp → Prop, (∃ m, W 0 m (upd H1 D (.lst []))) ∧ ∀ i m H, W i m H →
      (J.stop i H ∧ Qd H) ∨ (J.go i H ∧ ∃ Nx : Hp → Prop, (∀ H', Nx H' → ∃ m', m' < m ∧ W (i + 1) m' H') ∧ ∀ x H', J.yld i H x H' → g x (wipe σ vs) H' fun σ2 H2 => wipe σ2 vs = wipe σ vs ∧ tt σ2 H2 fun b H3 =>
        if b = true then te σ2 H3 fun y H4 => ∃ acc, H4 D = some (.lst acc) ∧ acc.length < sizeLine ∧ Nx (upd H4 D (.lst (acc ++ [y]))) else Nx H3) := by
  let pv : V → Bool := fun v => match v with | .int i => p i.toNat | _ => false
  refine lc_filt w hD (fun v => v) pv hG (by rw [List.length_map]; exact hn) (fun i x H R Z hx sm hr hz => ?_) (fun H sm hL => ?_)
  · rw [List.getElem?_map] at hx
    cases hl : l[i]? with
    | none => rw [hl] at hx; cases hx
    | some j =>
      rw [hl] at hx
      cases hx
      exact hs j H R Z (List.mem_of_getElem? hl) sm hr hz
  · refine hd H sm (hL.trans ?_)
    rw [List.map_id', nV, List.filter_map]
    rfl
end Hr

set_option Elab.async false
set_option linter.all false
set_option maxRecDepth 100000
set_option maxHeartbeats 4000000
namespace Hr
open PySem PySem.Spec PyProof.Rows L2
/-! ### a call by keywords alone, in any order -/
abbrev pick {α : Type} (ix : List Nat) (l : List α) : List α := ix.filterMap (l[·]?)
structure KwP (fd : FuncData) (ps ks : List Str) (ix : List Nat) : Prop where
  to : ∀ (s : Shared) (us : List Value), us.length = ks.length → BindsTo s fd ⟨[], ks.zip us⟩ (ps.zip (pick ix us))
  len : ks.length = ps.length
theorem vals_pick {vs : List V} {us : List Value} (h : Vals vs us) : ∀ ix : List Nat, Vals (pick ix vs) (pick ix us)
  | [] => .nil
  | i :: r => by
    unfold pick
    rw [List.filterMap_cons, List.filterMap_cons]
    have hl := h.length
    by_cases hi : i < vs.length
    · have h1 := List.getElem?_eq_getElem hi
      have h2 := List.getElem?_eq_getElem (show i < us.length by omega)
      rw [h1, h2]
      exact .cons (vals_get h h1 h2) (vals_pick h r)
    · rw [List.getElem?_eq_none (by omega), List.getElem?_eq_none (by omega)]
      exact vals_pick h r
def tKwP (sp : Sp) (E : XK) (ix : List Nat) (n : Nat) (tk : TA) : TE := fun σ H Q => tk σ H fun vs H1 => vs.length = n ∧ sp (pick ix vs) H1 Q E
section
variable {X : Cx} {CX : CXT} {k : Nat} {f : Addr} {fd : FuncData} {ps ks : List Str} {sp : Sp} {E : XK} {x : Str} {p pos : Pos} {kws : List Keyword} {tk : TA} {ix : List Nat}
theorem pe_kwP (F : FnOk X.prog X.w X.K X.mg X.base CX k f fd ps sp) (hr : Room k X.A) (hg : Gl X x) (hm : X.mg x = some (.ref f)) (hk : PySem.W.keepIn X.K (.ref f) = true) (hb : KwP fd ps ks ix) (hx : Passes CX X E) (hkw : PK X kws tk)
    (hall : (backToKw pos (keywordEach kws X.env)).all (·.1.isSome) = true := by rfl) (hks : (backToKw pos (keywordEach kws X.env)).filterMap (·.1) = ks := by rfl) (hdb : (x == ("__debug__" : Str)) = false := by decide)
    (hpl : ((backTo pos (starEach [] X.env)).any (·.1) || (backToKw pos (keywordEach kws X.env)).any (·.1.isNone)) = false := by rfl) :
    PE X (.Call (.Name x p) [] kws pos) (tKwP sp E ix ks.length tk) := by
  refine ⟨fun pins s σ H Q I h => ?_⟩
  refine wpAny_Call_Name_kw (ld_glob I hg hm ?_ hdb)
  refine PySem.W.callWith_KW0 (h₀ := X.base) I.ok.mod.kin hk hall ?_ hpl
  refine thn (hkw.run pos pins s σ H _ I h) fun us s1 ⟨vs, H1, I1, r, hvl, q⟩ => ⟨I1.kIn, ?_⟩
  rw [hks]
  have hl : us.length = ks.length := by rw [← r.length]; exact hvl
  refine wpAny_call (codeAny_mono (F.run X.A X.stack s1 H1 ⟨[], ks.zip us⟩ (pick ix us) (pick ix vs) Q E hr I1.env0 (hb.to s1 us hl) (vals_pick r ix) q) fun r s' hq => ?_)
  cases r with
  | error e => exact hx pins σ H1 s1 e s' I1 hq
  | ok fl =>
    cases fl with
    | ret u => exact I1.after hq
    | next => exact False.elim hq
    | brk => exact False.elim hq
    | cont => exact False.elim hq
end
theorem kp_of {K : PySem.W.Frag} {x qual : Str} {st : Stmt} {f : Addr} {fd : FuncData} {ps ks : List Str} {ix : List Nat} (F : Fun K x qual st f fd) (hl : ks.length = ps.length)
    (h : ∀ (kV doc pm : Value) (an : Option Addr) (cdv ct : Value) (us : List Value), us.length = ks.length → bindArgs (PySem.W.fnOf x qual (defArgs st) (defBody st) (defScope st) .none kV doc pm an cdv ct) ⟨[], ks.zip us⟩ = pure (ps.zip (pick ix us))) : KwP fd ps ks ix := by
  obtain ⟨oc, od, kV, doc, pm, an, cdv, ct, osl, rfl, lk, hcd⟩ := F.ex
  exact ⟨fun s us hl => .of_eq (h kV doc pm an cdv ct us hl), hl⟩
/-! ### min with a default -/
def minI : List Int → Option Int
  | [] => none
  | y :: ys => some (PySem.W.minOf y ys)
@[irreducible] def rMinD (K : PySem.W.Frag) : List V → List V → Hp → VK → Prop := fun vs zs H Q => ∃ (a : Addr) (ns : List Int) (d : V), vs = [.ref a] ∧ zs = [d] ∧ SqL K H a (ns.map V.int) ∧ Q (match minI ns with | none => d | some i => .int i) H
theorem cr_minD {X : Cx} (hc : X.calm = true) (hu : X.A.units + 64 < cLine) : CallRK X (.builtin "min") [Str.ofString "default"] (rMinD X.K) := by
  intro pins s σ H vs zs us ws Q I r rz h
  unfold rMinD at h
  obtain ⟨a, ns, d, rfl, rfl, hs, q⟩ := h
  obtain rfl := Vals.ref1 r
  obtain ⟨w1, rfl, rd⟩ := vals1 rz
  obtain ⟨its, rv, hl, _⟩ := I.list hs
  obtain ⟨as, ra⟩ := Dp.readsAll I (ns.map PyData.int) _ _ (dpa_ints ns) rv
  refine PySem.W.min_list_datum_default (α := Int) (xs := ns) (I.ok.hd hc) hl.isList ⟨as, ra⟩ (by show X.A.units + 1 + 0 < cLine; omega) (fun e h' tk k => ?_) fun y ys i v h' tk e hv hh k => ?_
  · subst e
    exact ⟨d, H, I.kept k, rd, q⟩
  · subst e
    obtain ⟨bs, rd⟩ := hh
    cases rd
    exact ⟨.int _, H, I.kept k, ⟨_, rfl⟩, q⟩
theorem cr_minDK {X : Cx} {K : PySem.W.Frag} (hc : X.calm = true) (hu : X.A.units + 64 < cLine) (e : X.K = K := by rfl) : CallRK X (.builtin "min") [Str.ofString "default"] (rMinD K) := e ▸ cr_minD hc hu
theorem minOf_mem : ∀ (ys : List Int) (y : Int), PySem.W.minOf y ys ∈ y :: ys := by
  intro ys
  unfold PySem.W.minOf
  induction ys with
  | nil => intro y; simp
  | cons x r ih =>
    intro y
    rw [List.foldl_cons]
    split
    · exact List.mem_cons_of_mem _ (ih x)
    · rcases List.mem_cons.mp (ih y) with h | h
      · rw [h]; exact List.mem_cons_self
      · exact List.mem_cons_of_mem _ (List.mem_cons_of_mem _ h)
theorem minOf_le : ∀ (ys : List Int) (y : Int), ∀ x ∈ y :: ys, PySem.W.minOf y ys ≤ x := by
  intro ys
  unfold PySem.W.minOf
  induction ys with
  | nil => intro y x hx; rw [List.mem_singleton.mp hx]; exact Int.le_refl _
  | cons z r ih =>
    intro y x hx
    rw [List.foldl_cons]
    have hlt : ∀ a b : Int, PySem.W.DatumOrd.lt a b = true ↔ a < b := fun a b => by
      show decide (a < b) = true ↔ _
      exact decide_eq_true_iff
    split
    · rename_i h
      have h' := (hlt _ _).mp h
      rcases List.mem_cons.mp hx with rfl | hx
      · have := ih z z List.mem_cons_self
        omega
      · exact ih z x hx
    · rename_i h
      have h' : ¬ z < y := fun q => h ((hlt _ _).mpr q)
      rcases List.mem_cons.mp hx with rfl | hx
      · exact ih x x List.mem_cons_self
      · rcases List.mem_cons.mp hx with rfl | hx
        · have := ih y y List.mem_cons_self
          omega
        · exact ih y x (List.mem_cons_of_mem _ hx)
theorem minI_some {l : List Int} {i : Int} (h : i ∈ l) (hl : ∀ x ∈ l, i ≤ x) : minI l = some i := by
  cases l with
  | nil => cases h
  | cons y ys =>
    show some (PySem.W.minOf y ys) = some i
    have h1 := minOf_le ys y i h
    have h2 := hl _ (minOf_mem ys y)
    congr 1
    omega
/-- a list of numbers that are those below n with p: its least is the first one found -/
theorem minI_find {l : List Nat} {n : Nat} {p : Nat → Bool} (h : ∀ i, i ∈ l ↔ i < n ∧ p i = true) : minI (l.map fun (i : Nat) => (i : Int)) = ((List.range n).find? p).map fun (i : Nat) => (i : Int) := by
  cases hf : (List.range n).find? p with
  | none =>
    rw [List.find?_range_eq_none] at hf
    cases l with
    | nil => rfl
    | cons x r =>
      have := (h x).mp List.mem_cons_self
      have h2 := hf x this.1
      rw [this.2] at h2
      cases h2
  | some i =>
    rw [List.find?_range_eq_some] at hf
    refine minI_some (List.mem_map.mpr ⟨i, (h i).mpr ⟨by simpa using hf.2.1, hf.1⟩, rfl⟩) fun x hx => ?_
    obtain ⟨j, hj, rfl⟩ := List.mem_map.mp hx
    have k := (h j).mp hj
    by_cases hji : j < i
    · have h2 := hf.2.2 j hji
      rw [k.2] at h2
      cases h2
    · show (i : Int) ≤ (j : Int)
      omega
end Hr
namespace Hr
open PySem PySem.Spec PyProof.Rows L2
theorem pe_revLK {X : Cx} {K : PySem.W.Frag} {e : Expr} {te : TE} {k : Nat} {p1 p2 p3 pos : Pos} (he : PE X e te) (hK : X.K = K := by rfl) : PE X (.Subscript e (.Slice none none (some (.UnaryOp .USub (.Constant (.int 1) k p1) p2)) p3) pos) (tRevL K te) := hK ▸ pe_revL he
/-- one statement, then the others: what stands between them -/
theorem seq_join {s1 s2 : TS} {D : Ends} {σ : L2.St} {H : Hp} (J : L2.St → Hp → Prop) (h1 : ∀ N : L2.St → Hp → Prop, (∀ σ' H', J σ' H' → N σ' H') → s1 { D with nx := N } σ H) (h2 : ∀ σ' H', J σ' H' → s2 D σ' H') : tSeq s1 s2 D σ H := h1 _ h2
end Hr

set_option Elab.async false
set_option linter.all false
set_option maxRecDepth 100000
set_option maxHeartbeats 4000000
/-! enumerate(tuple); tuple(list) whose object is known -/
namespace Hr
open PySem PySem.Spec PyProof.Rows L2
set_option maxHeartbeats 8000000 in
theorem meets_enum1B {v : Value} {o : Obj} {H : Heap → Prop} (B : Begins v o H) :
    Meets (Builtin.«enumerate.__new__» ⟨[.type "enumerate", v], []⟩) (fun _ R s => H s.heap ∧
      R (.ok (.ret (.ref (s.heap.push o).objs.size))) { s with heap := (s.heap.push o).push { cls := .type "enumerate", data := .fields #[.none, .bool false, .ref s.heap.objs.size, rawInt 0, .none, .none] } }) :=
  .of_wp fun prog w A R s h => by
    obtain ⟨hp, g, d, tk, os⟩ := s; obtain ⟨h1, h⟩ := h
    have hsub := sub_enumerate
    have q1 : ∀ {A' : Around} {E : Value → Shared → Prop} {Q : Value → Shared → Prop}, Q (.ref hp.objs.size) ⟨hp.push o, g, d, tk, os⟩ → wpAny (model prog w) A' (pyIter v) Q E ⟨hp, g, d, tk, os⟩ :=
      fun q => B.iter prog w _ _ ⟨hp, g, d, tk, os⟩ _ h1 q
    wp_walk using q1
    refine wpAny_stack_any fun st => wpAny_pure ?_
    split
    · rename_i c _ _ _ _ _
      cases (c == Value.type "enumerate")
      · wp_walk using q1
        exact ⟨_, rfl, h⟩
      · wp_walk using q1
        exact ⟨_, rfl, h⟩
    · wp_walk using q1
      exact ⟨_, rfl, h⟩
section
variable {prog : Program} {w : World} {A : Around} {E : Value → Shared → Prop} {s : Shared}
theorem call_enum1 {v : Value} {o : Obj} {H : Heap → Prop} {Q : Value → Shared → Prop} (B : Begins v o H) (h1 : H s.heap)
    (h : ∀ h', IsEnum h' (s.heap.objs.size + 1) s.heap.objs.size 0 .none → h'.get? s.heap.objs.size = some o → h'.objs.size = s.heap.objs.size + 2 →
      (∀ b o, s.heap.get? b = some o → h'.get? b = some o) → Q (.ref (s.heap.objs.size + 1)) { s with heap := h' }) :
    wpAny (model prog w) A (call (.type "enumerate") [v]) Q E s := by
  refine callType_new F.called_enumerate (by decide) (F.typeCall_enumerate_1 _) (F.newCall_enumerate_1 _) (fun obj => F.args_object_init_2 obj _) F.entry_enumerate_new
    (meets_enum1B B) ⟨h1, ?_⟩
  have hz : (s.heap.push o).objs.size = s.heap.objs.size + 1 := Heap.size_push ..
  show _ ∧ _
  rw [hz]
  have he : IsEnum ((s.heap.push o).push { cls := .type "enumerate", data := .fields #[.none, .bool false, .ref s.heap.objs.size, rawInt 0, .none, .none] }) (s.heap.objs.size + 1) s.heap.objs.size 0 .none := by
    have := Heap.get?_push_size (s.heap.push o) (o := { cls := .type "enumerate", data := .fields #[.none, .bool false, .ref s.heap.objs.size, rawInt 0, .none, .none] }) rfl
    rw [hz] at this; exact this
  refine ⟨⟨_, he, rfl⟩, h _ he (Heap.get?_push_of_some _ (Heap.get?_push_size _ B.free)) (by rw [Heap.size_push, hz]) fun b o x => Heap.get?_push_of_some _ (Heap.get?_push_of_some _ x)⟩
end
/-- the tuple at a as it stands at each turn, the items in new pairs -/
def IteT (K : PySem.W.Frag) (a : Addr) : It :=
  ⟨fun i H => ∃ (xs : List V) (x : V), SqT K H a xs ∧ xs[i]? = some x, fun i H v H' => ∃ T x, v = .ref T ∧ H T = none ∧ H' = upd H T (.tup [.int (i : Nat), x]) ∧ ∀ xs, SqT K H a xs → xs[i]? = some x, fun i H => ∃ xs : List V, SqT K H a xs ∧ xs.length = i⟩
theorem turn_enumT {P : Program} {w : World} {K : PySem.W.Frag} {elts : List Expr} {kk : Nat} {tpos : Pos} (a e it : Addr) (hae : a ≠ e) (hai : a ≠ it) :
    Turn P w K (.Tuple elts kk tpos) (IteT K a) [e, it] e (fun i h => (∃ old, IsEnum h e it ((i : Nat) : Int) old) ∧ h.IsTupleIter it a i ∧ e ≠ it) where
  mem := by simp
  obj := fun i h st b hb => by
    obtain ⟨⟨old, he⟩, ⟨o, ho, hc, hd⟩, _⟩ := st
    have e' : b = e ∨ b = it := by simpa using hb
    rcases e' with z | z
    · rw [z]; exact ⟨_, he, fun v q => nomatch q⟩
    · rw [z]; exact ⟨o, ho, fun v q => by rw [hd] at q; cases q⟩
  keep := fun i h h' st k => let ⟨⟨old, he⟩, hi, hne⟩ := st; ⟨⟨old, k e (by simp) _ he⟩, hi.at fun o q => k it (by simp) o q, hne⟩
  item := by
    intro X hP hw hK hc i pins s σ H E I hf st hg
    subst hP hw hK
    obtain ⟨⟨old, he⟩, hit, hne⟩ := st
    obtain ⟨xs, x, hq, hx⟩ := hg
    obtain ⟨its, rv, p, hz⟩ := I.tuple hq
    obtain ⟨u, hu, ru⟩ := rv.get hx
    have hel : e < s.heap.objs.size := Heap.lt_size he
    have hil : it < s.heap.objs.size := by obtain ⟨_, q, _⟩ := hit; exact Heap.lt_size q
    have hlt : i < its.toArray.size := by
      have := (List.getElem?_eq_some_iff.mp hu).1
      simpa using this
    refine wpAny_pyNext_enum_itemC (Draws.tuple (A := X.A.in1) (I.ok.hd hc) it a hai its.toArray) he ⟨hit, show s.heap.IsTuple a its.toArray from p⟩ hlt hne (by simp [hne, Ne.symm hae]) fun x' h' tk hx' ho hst hT hsz hk => ?_
    have ex : x' = u := by
      have h1 : its.toArray[i]? = some x' := hx'
      have h2 : its.toArray[i]? = some u := by simpa using hu
      exact Option.some.inj (h1.symm.trans h2)
    subst ex
    refine ⟨_, rfl, wpAny_letOwnedTupleGo_enum (s := { s with heap := h', toks := tk + 1 }) ho fun h'' he' sb => ?_⟩
    have hT2 : h''.get? s.heap.objs.size = some { cls := .type "tuple", data := .seq #[.int i tk, x'] } := (sb.2 _ (Nat.ne_of_gt hel)).trans hT
    have new : ObjOk X.prog X.w (upd H s.heap.objs.size (.tup [.int (i : Nat), x])) h'' s.heap.objs.size (.tup [.int (i : Nat), x]) :=
      ⟨by show 2 ≤ sizeLine; decide, [.int i tk, x'], .cons ⟨_, rfl⟩ (.cons ru .nil), ⟨_, hT2, rfl, _, rfl⟩⟩
    have I1 : Inv X pins σ (upd H s.heap.objs.size (.tup [.int (i : Nat), x])) { s with heap := h'', toks := tk + 1 } :=
      I.turnedNew (ch := [e, it]) (fun b ob hb q => (sb.2 b (fun z => hb (by simp [z]))).trans (hk b ob (fun z => hb (by simp [z])) (fun z => hb (by simp [z])) q)) hf (Nat.le_refl _) new
    refine ⟨.ref s.heap.objs.size, _, I1, rfl, ⟨_, x, rfl, I.hok.fresh (Nat.le_refl _), rfl, fun ys hy => by rw [I.tuple_inj hy hq]; exact hx⟩, ⟨⟨x', ?_⟩, hst.1.at fun o q => (sb.2 it (Ne.symm hne)).trans q, hne⟩, fun b hb => ?_⟩
    · have e1 : ((i + 1 : Nat) : Int) = (i : Int) + 1 := by omega
      rw [e1]; exact he'
    · have hb' : b < s.heap.objs.size := by
        have e' : b = e ∨ b = it := by simpa using hb
        rcases e' with z | z
        · rw [z]; exact hel
        · rw [z]; exact hil
      rw [upd_ne (Nat.ne_of_lt hb')]
      exact (hf b hb).1
  done := by
    intro X hP hw hK hc i pins s σ H E I hf st hg
    subst hP hw hK
    obtain ⟨⟨old, he⟩, hit, hne⟩ := st
    obtain ⟨xs, hq, hx⟩ := hg
    obtain ⟨its, rv, p, hz⟩ := I.tuple hq
    obtain ⟨f0, f1, f2, f3, f4, f5⟩ := hf it (by simp)
    have hl := rv.length
    have ei : i = its.toArray.size := by simp; omega
    refine wpAny_pyNext_enum_endD (Draws.tuple (A := X.A.in1) (I.ok.hd hc) it a hai its.toArray) he (ei ▸ ⟨hit, show s.heap.IsTuple a its.toArray from p⟩) fun h' eb => ⟨rfl, I.turned (t' := s.toks) (fun b o hb q => eb b o hb q) f0 f1 f3 f4 f5⟩
  self := fun A i s Q E st h => let ⟨⟨_, he⟩, _⟩ := st; wpAny_pyIter_enum he h
def iEnumA (K : PySem.W.Frag) (ta : TA) : TI := fun σ H R => ta σ H fun vs H1 => ∃ a xs, vs = [.ref a] ∧ ((SqL K H1 a xs ∧ R (Ite K a) H1) ∨ (SqT K H1 a xs ∧ R (IteT K a) H1))
theorem pi_enumA {X : Cx} {e : Expr} {ta : TA} {p pos tpos : Pos} {elts : List Expr} {kk : Nat} (hg : Gl X "enumerate") (hm : X.mg "enumerate" = none) (ha : PA X [e] ta) (hs : starEach [e] X.env = [(false, eval e X.env)] := by rfl) :
    PI X (.Tuple elts kk tpos) (.Call (.Name "enumerate" p) [e] [] pos) (iEnumA X.K ta) := by
  refine ⟨fun pins s σ H R I h => ?_⟩
  refine Call_ (ld_blt I hg hm boot_enumerate (PyProof.Rows.callWith_type1 (thn (ha.run pos pins s σ H _ I h) fun us s1 ⟨vs, H1, I1, r1, q1⟩ => ?_) hs rfl))
  obtain ⟨a, xs, ex, q⟩ := q1
  subst ex
  cases r1 with
  | cons r rr =>
    cases rr
    cases r
    have fresh : ∀ b, b ∈ [s1.heap.objs.size + 1, s1.heap.objs.size] → FpOk X pins H1 b := fun b hb => by
      have e' : b = s1.heap.objs.size + 1 ∨ b = s1.heap.objs.size := by simpa using hb
      have hle : s1.heap.objs.size ≤ b := by
        rcases e' with z | z
        · rw [z]; exact Nat.le_add_right _ _
        · rw [z]; exact Nat.le_refl _
      exact I1.fpOk hle (I1.hok.fresh hle)
    rcases q with ⟨hq, q⟩ | ⟨hq, q⟩
    · obtain ⟨its, rv, p', hz⟩ := I1.list hq
      refine call_enumerate_list p'.isList fun h' he hit hsz hk => wpAny_pyIter_enum he ?_
      have I2 : Inv X pins σ H1 { s1 with heap := h' } := I1.kept (t' := s1.toks) hk
      exact ⟨s1.heap.objs.size + 1, [s1.heap.objs.size + 1, s1.heap.objs.size], _, _, H1, rfl, I2, turn_enum a (s1.heap.objs.size + 1) s1.heap.objs.size, ⟨⟨.none, he⟩, hit, Nat.succ_ne_self _⟩, fresh, q⟩
    · obtain ⟨its, rv, p', hz⟩ := I1.tuple hq
      have ht : s1.heap.IsTuple a its.toArray := p'
      have hal : a < s1.heap.objs.size := by obtain ⟨o, ho, _⟩ := id ht; exact Heap.lt_size ho
      refine call_enum1 (begins_tuple a its.toArray) ht fun h' he ho hsz hk => wpAny_pyIter_enum he ?_
      have I2 : Inv X pins σ H1 { s1 with heap := h' } := I1.kept (t' := s1.toks) hk
      exact ⟨s1.heap.objs.size + 1, [s1.heap.objs.size + 1, s1.heap.objs.size], _, _, H1, rfl, I2, turn_enumT a (s1.heap.objs.size + 1) s1.heap.objs.size (Nat.ne_of_lt (Nat.lt_succ_of_lt hal)) (Nat.ne_of_lt hal), ⟨⟨.none, he⟩, ⟨_, ho, rfl, rfl⟩, Nat.succ_ne_self _⟩, fresh, q⟩
theorem walk_enumT {K : PySem.W.Frag} {a : Addr} {xs : List V} : Walk (IteT K a) xs.length (fun H => SqT K H a xs) (YPair (fun i => some (.int (i : Nat))) (fun i => xs[i]?)) := by
  refine ⟨fun i _ hi q => ⟨xs, xs[i], q, by simp [hi]⟩, fun _ q => ⟨xs, q, rfl⟩, fun i H v H' _ q y => ?_⟩
  obtain ⟨T, x, h1, h2, h3, h4⟩ := y
  exact ⟨T, .int (i : Nat), x, h1, h2, h3, rfl, h4 xs q⟩
def rTupF (K : PySem.W.Frag) : List V → Hp → VK → Prop := fun xs H Q => ∃ p ys, xs = [.ref p] ∧ SqL K H p ys ∧ ∀ l o, H l = none → o.dict = none → Q (.ref l) (upd H l (.frz o (.tup ys)))
section
variable {X : Cx}
theorem call_tupF : CallR X (.type "tuple") (rTupF X.K) := by
  intro pins s σ H xs us Q I r h
  obtain ⟨p, ys, rfl, hq, q⟩ := h
  obtain ⟨u, rfl, rx⟩ := vals1 r
  cases rx
  obtain ⟨its, r', pl, hz⟩ := I.list hq
  have hlen := r'.length
  refine call_tuple_list pl.isList (fun h' kp => ?_) (by simp only [List.size_toArray] <;> omega)
  have I1 : Inv X pins σ H { s with heap := h' } := I.kept (t' := s.toks) kp
  have I2 : Inv X pins σ (upd H h'.objs.size (.frz { cls := .type "tuple", data := .seq its.toArray } (.tup ys))) { s with heap := h'.push { cls := .type "tuple", data := .seq its.toArray } } :=
    I1.laid (t' := s.toks) (fun b o e => Heap.get?_push_of_some _ e) (Nat.le_refl _) (show ObjOk X.prog X.w _ _ _ (.frz _ (.tup ys)) from ⟨Heap.get?_push_size _ rfl, hz, its, r', IsTup.new _ _⟩)
  exact ⟨.ref h'.objs.size, _, I2, rfl, q _ _ (I1.hok.fresh (Nat.le_refl _)) rfl⟩
theorem call_tupFK {K : PySem.W.Frag} (e : X.K = K := by rfl) : CallR X (.type "tuple") (rTupF K) := e ▸ call_tupF
theorem pi_enumAK {K : PySem.W.Frag} {e : Expr} {ta : TA} {p pos tpos : Pos} {elts : List Expr} {kk : Nat} (hg : Gl X "enumerate") (hm : X.mg "enumerate" = none) (ha : PA X [e] ta) (hs : starEach [e] X.env = [(false, eval e X.env)] := by rfl) (hK : X.K = K := by rfl) :
    PI X (.Tuple elts kk tpos) (.Call (.Name "enumerate" p) [e] [] pos) (iEnumA K ta) := hK ▸ pi_enumA hg hm ha hs
end
end Hr

set_option Elab.async false
set_option linter.all false
set_option maxRecDepth 100000
set_option maxHeartbeats 4000000
namespace Hr
open PySem PySem.Spec PyProof.Rows L2
def topS (i : Nat) : Stmt := PySem.Challenge.pw_hiddenrank_k13_conditions_and_requests.main.body.getD i (.Pass ⟨0, 0, 0, 0⟩)
abbrev s_Schema___init__ : Stmt := inClass (topS 26) 0
abbrev N_Schema___init__ : List Str := ["self", "fields", "kept"]
theorem sc_Schema___init__ : FnScope N_Schema___init__ ["self", "fields"] (defScope s_Schema___init__) := ⟨rfl, rfl, rfl, by decide +kernel, rfl, by decide +kernel, by decide +kernel⟩
abbrev s_Schema___eq__ : Stmt := inClass (topS 26) 1
abbrev N_Schema___eq__ : List Str := ["self", "other"]
theorem sc_Schema___eq__ : FnScope N_Schema___eq__ ["self", "other"] (defScope s_Schema___eq__) := ⟨rfl, rfl, rfl, by decide +kernel, rfl, by decide +kernel, by decide +kernel⟩
abbrev s_Schema___len__ : Stmt := inClass (topS 26) 2
abbrev N_Schema___len__ : List Str := ["self"]
theorem sc_Schema___len__ : FnScope N_Schema___len__ ["self"] (defScope s_Schema___len__) := ⟨rfl, rfl, rfl, by decide +kernel, rfl, by decide +kernel, by decide +kernel⟩
abbrev s_Schema___repr__ : Stmt := inClass (topS 26) 3
abbrev N_Schema___repr__ : List Str := ["self"]
theorem sc_Schema___repr__ : FnScope N_Schema___repr__ ["self"] (defScope s_Schema___repr__) := ⟨rfl, rfl, rfl, by decide +kernel, rfl, by decide +kernel, by decide +kernel⟩
abbrev s_Schema_fields : Stmt := inClass (topS 26) 4
abbrev N_Schema_fields : List Str := ["self"]
theorem sc_Schema_fields : FnScope N_Schema_fields ["self"] (defScope s_Schema_fields) := ⟨rfl, rfl, rfl, by decide +kernel, rfl, by decide +kernel, by decide +kernel⟩
abbrev s_Schema_values_of : Stmt := inClass (topS 26) 5
abbrev N_Schema_values_of : List Str := ["self", "field"]
theorem sc_Schema_values_of : FnScope N_Schema_values_of ["self", "field"] (defScope s_Schema_values_of) := ⟨rfl, rfl, rfl, by decide +kernel, rfl, by decide +kernel, by decide +kernel⟩
abbrev s_Schema_size : Stmt := inClass (topS 26) 6
abbrev N_Schema_size : List Str := ["self"]
theorem sc_Schema_size : FnScope N_Schema_size ["self"] (defScope s_Schema_size) := ⟨rfl, rfl, rfl, by decide +kernel, rfl, by decide +kernel, by decide +kernel⟩
abbrev s_Schema_request_of : Stmt := inClass (topS 26) 7
abbrev N_Schema_request_of : List Str := ["self", "number", "backwards", "rest", "values"]
theorem sc_Schema_request_of : FnScope N_Schema_request_of ["self", "number"] (defScope s_Schema_request_of) := ⟨rfl, rfl, rfl, by decide +kernel, rfl, by decide +kernel, by decide +kernel⟩
abbrev s_Schema_number_of : Stmt := inClass (topS 26) 8
abbrev N_Schema_number_of : List Str := ["self", "request", "number", "position", "values"]
theorem sc_Schema_number_of : FnScope N_Schema_number_of ["self", "request"] (defScope s_Schema_number_of) := ⟨rfl, rfl, rfl, by decide +kernel, rfl, by decide +kernel, by decide +kernel⟩
abbrev s_consists_of : Stmt := topS 18
abbrev N_consists_of : List Str := ["text", "characters", "character"]
theorem sc_consists_of : FnScope N_consists_of ["text", "characters"] (defScope s_consists_of) := ⟨rfl, rfl, rfl, by decide +kernel, rfl, by decide +kernel, by decide +kernel⟩
abbrev s_is_name : Stmt := topS 19
abbrev N_is_name : List Str := ["text"]
theorem sc_is_name : FnScope N_is_name ["text"] (defScope s_is_name) := ⟨rfl, rfl, rfl, by decide +kernel, rfl, by decide +kernel, by decide +kernel⟩
abbrev s_is_value : Stmt := topS 20
abbrev N_is_value : List Str := ["text"]
theorem sc_is_value : FnScope N_is_value ["text"] (defScope s_is_value) := ⟨rfl, rfl, rfl, by decide +kernel, rfl, by decide +kernel, by decide +kernel⟩
abbrev s_is_field_name : Stmt := topS 21
abbrev N_is_field_name : List Str := ["text"]
theorem sc_is_field_name : FnScope N_is_field_name ["text"] (defScope s_is_field_name) := ⟨rfl, rfl, rfl, by decide +kernel, rfl, by decide +kernel, by decide +kernel⟩
abbrev s_check_count : Stmt := topS 22
abbrev N_check_count : List Str := ["many", "limit"]
theorem sc_check_count : FnScope N_check_count ["many", "limit"] (defScope s_check_count) := ⟨rfl, rfl, rfl, by decide +kernel, rfl, by decide +kernel, by decide +kernel⟩
abbrev s_checked_values : Stmt := topS 23
abbrev N_checked_values : List Str := ["values", "kept", "value"]
theorem sc_checked_values : FnScope N_checked_values ["values"] (defScope s_checked_values) := ⟨rfl, rfl, rfl, by decide +kernel, rfl, by decide +kernel, by decide +kernel⟩
abbrev s_checked_fields : Stmt := topS 24
abbrev N_checked_fields : List Str := ["fields", "kept", "name", "values"]
theorem sc_checked_fields : FnScope N_checked_fields ["fields"] (defScope s_checked_fields) := ⟨rfl, rfl, rfl, by decide +kernel, rfl, by decide +kernel, by decide +kernel⟩
abbrev s_count_requests : Stmt := topS 25
abbrev N_count_requests : List Str := ["choices", "many", "values"]
theorem sc_count_requests : FnScope N_count_requests ["choices"] (defScope s_count_requests) := ⟨rfl, rfl, rfl, by decide +kernel, rfl, by decide +kernel, by decide +kernel⟩
abbrev s_parts_of : Stmt := topS 28
abbrev N_parts_of : List Str := ["condition"]
theorem sc_parts_of : FnScope N_parts_of ["condition"] (defScope s_parts_of) := ⟨rfl, rfl, rfl, by decide +kernel, rfl, by decide +kernel, by decide +kernel⟩
abbrev s_all_parts : Stmt := topS 29
abbrev N_all_parts : List Str := ["condition", "found", "part"]
theorem sc_all_parts : FnScope N_all_parts ["condition"] (defScope s_all_parts) := ⟨rfl, rfl, rfl, by decide +kernel, rfl, by decide +kernel, by decide +kernel⟩
abbrev s_tests_of : Stmt := topS 30
abbrev N_tests_of : List Str := ["condition", "found", "part"]
theorem sc_tests_of : FnScope N_tests_of ["condition"] (defScope s_tests_of) := ⟨rfl, rfl, rfl, by decide +kernel, rfl, by decide +kernel, by decide +kernel⟩
abbrev s_check_condition : Stmt := topS 32
abbrev N_check_condition : List Str := ["schema", "condition", "field", "value"]
theorem sc_check_condition : FnScope N_check_condition ["schema", "condition"] (defScope s_check_condition) := ⟨rfl, rfl, rfl, by decide +kernel, rfl, by decide +kernel, by decide +kernel⟩
abbrev s_holds : Stmt := topS 33
abbrev N_holds : List Str := ["fields", "condition", "request", "kind", "answers", "part"]
theorem sc_holds : FnScope N_holds ["fields", "condition", "request"] (defScope s_holds) := ⟨rfl, rfl, rfl, by decide +kernel, rfl, by decide +kernel, by decide +kernel⟩
abbrev s_truths : Stmt := topS 34
abbrev N_truths : List Str := ["schema", "condition", "fields", "number"]
theorem sc_truths : FnScope N_truths ["schema", "condition"] (defScope s_truths) := ⟨rfl, rfl, rfl, by decide +kernel, rfl, by decide +kernel, by decide +kernel⟩
abbrev s_matches : Stmt := topS 35
abbrev N_matches : List Str := ["schema", "condition", "request"]
theorem sc_matches : FnScope N_matches ["schema", "condition", "request"] (defScope s_matches) := ⟨rfl, rfl, rfl, by decide +kernel, rfl, by decide +kernel, by decide +kernel⟩
abbrev s_matching : Stmt := topS 36
abbrev N_matching : List Str := ["schema", "condition", "number", "matched"]
theorem sc_matching : FnScope N_matching ["schema", "condition"] (defScope s_matching) := ⟨rfl, rfl, rfl, by decide +kernel, rfl, by decide +kernel, by decide +kernel⟩
abbrev s__law_bag : Stmt := topS 38
abbrev N__law_bag : List Str := ["_law_script"]
theorem sc__law_bag : FnScope N__law_bag ["_law_script"] (defScope s__law_bag) := ⟨rfl, rfl, rfl, by decide +kernel, rfl, by decide +kernel, by decide +kernel⟩
abbrev s__law_pull : Stmt := topS 39
abbrev N__law_pull : List Str := ["_law_bag_here", "_law_sides", "_law_twice", "_law_cell", "_law_digit"]
theorem sc__law_pull : FnScope N__law_pull ["_law_bag_here", "_law_sides"] (defScope s__law_pull) := ⟨rfl, rfl, rfl, by decide +kernel, rfl, by decide +kernel, by decide +kernel⟩
abbrev s__law_of : Stmt := topS 40
abbrev N__law_of : List Str := ["_law_bag_here", "_law_some"]
theorem sc__law_of : FnScope N__law_of ["_law_bag_here", "_law_some"] (defScope s__law_of) := ⟨rfl, rfl, rfl, by decide +kernel, rfl, by decide +kernel, by decide +kernel⟩
abbrev s__law_same : Stmt := topS 41
abbrev N__law_same : List Str := ["_law_found", "_law_due", "_law_one", "_law_two"]
theorem sc__law_same : FnScope N__law_same ["_law_found", "_law_due"] (defScope s__law_same) := ⟨rfl, rfl, rfl, by decide +kernel, rfl, by decide +kernel, by decide +kernel⟩
abbrev s__law_names : Stmt := topS 42
abbrev N__law_names : List Str := ["_law_bag_here", "_law_many_here", "_law_letters", "_law_stem", "_law_found", "_law_k", "_law_spot", "_law_first", "_law_one"]
theorem sc__law_names : FnScope N__law_names ["_law_bag_here", "_law_many_here"] (defScope s__law_names) := ⟨rfl, rfl, rfl, by decide +kernel, rfl, by decide +kernel, by decide +kernel⟩
abbrev s__law_marks : Stmt := topS 43
abbrev N__law_marks : List Str := ["_law_bag_here", "_law_many_here", "_law_signs", "_law_stem", "_law_spot", "_law_first", "_law_k"]
theorem sc__law_marks : FnScope N__law_marks ["_law_bag_here", "_law_many_here"] (defScope s__law_marks) := ⟨rfl, rfl, rfl, by decide +kernel, rfl, by decide +kernel, by decide +kernel⟩
abbrev s__law_fields : Stmt := topS 44
abbrev N__law_fields : List Str := ["_law_bag_here", "_law_most", "_law_names_here", "_law_name"]
theorem sc__law_fields : FnScope N__law_fields ["_law_bag_here", "_law_most"] (defScope s__law_fields) := ⟨rfl, rfl, rfl, by decide +kernel, rfl, by decide +kernel, by decide +kernel⟩
abbrev s__law_size : Stmt := topS 45
abbrev N__law_size : List Str := ["_law_fields_here", "_law_many_here", "_law_name", "_law_marks_here"]
theorem sc__law_size : FnScope N__law_size ["_law_fields_here"] (defScope s__law_size) := ⟨rfl, rfl, rfl, by decide +kernel, rfl, by decide +kernel, by decide +kernel⟩
abbrev s__law_request : Stmt := topS 46
abbrev N__law_request : List Str := ["_law_fields_here", "_law_number", "_law_found", "_law_name", "_law_marks_here"]
theorem sc__law_request : FnScope N__law_request ["_law_fields_here", "_law_number"] (defScope s__law_request) := ⟨rfl, rfl, rfl, by decide +kernel, rfl, by decide +kernel, by decide +kernel⟩
abbrev s__law_schema : Stmt := topS 47
abbrev N__law_schema : List Str := ["_law_fields_here", "_law_name", "_law_marks_here"]
theorem sc__law_schema : FnScope N__law_schema ["_law_fields_here"] (defScope s__law_schema) := ⟨rfl, rfl, rfl, by decide +kernel, rfl, by decide +kernel, by decide +kernel⟩
abbrev s__law_test : Stmt := topS 48
abbrev N__law_test : List Str := ["_law_bag_here", "_law_fields_here", "_law_name", "_law_marks_here"]
theorem sc__law_test : FnScope N__law_test ["_law_bag_here", "_law_fields_here"] (defScope s__law_test) := ⟨rfl, rfl, rfl, by decide +kernel, rfl, by decide +kernel, by decide +kernel⟩
abbrev s__law_tree : Stmt := topS 49
abbrev N__law_tree : List Str := ["_law_bag_here", "_law_fields_here", "_law_deep", "_law_way", "_law_parts_here", "_law_k"]
theorem sc__law_tree : FnScope N__law_tree ["_law_bag_here", "_law_fields_here", "_law_deep"] (defScope s__law_tree) := ⟨rfl, rfl, rfl, by decide +kernel, rfl, by decide +kernel, by decide +kernel⟩
abbrev s__law_parts : Stmt := topS 50
abbrev N__law_parts : List Str := ["_law_tree_here"]
theorem sc__law_parts : FnScope N__law_parts ["_law_tree_here"] (defScope s__law_parts) := ⟨rfl, rfl, rfl, by decide +kernel, rfl, by decide +kernel, by decide +kernel⟩
abbrev s__law_many : Stmt := topS 51
abbrev N__law_many : List Str := ["_law_tree_here", "_law_part"]
theorem sc__law_many : FnScope N__law_many ["_law_tree_here"] (defScope s__law_many) := ⟨rfl, rfl, rfl, by decide +kernel, rfl, by decide +kernel, by decide +kernel⟩
abbrev s__law_holds : Stmt := topS 52
abbrev N__law_holds : List Str := ["_law_tree_here", "_law_fields_here", "_law_request_z", "_law_rows", "_law_at", "_law_part", "_law_name", "_law_marks_here"]
theorem sc__law_holds : FnScope N__law_holds ["_law_tree_here", "_law_fields_here", "_law_request_z"] (defScope s__law_holds) := ⟨rfl, rfl, rfl, by decide +kernel, rfl, by decide +kernel, by decide +kernel⟩
abbrev s__law_matching : Stmt := topS 53
abbrev N__law_matching : List Str := ["_law_fields_here", "_law_tree_here", "_law_every", "_law_number"]
theorem sc__law_matching : FnScope N__law_matching ["_law_fields_here", "_law_tree_here"] (defScope s__law_matching) := ⟨rfl, rfl, rfl, by decide +kernel, rfl, by decide +kernel, by decide +kernel⟩
abbrev s__law_small_tree : Stmt := topS 54
abbrev N__law_small_tree : List Str := ["_law_bag_here", "_law_fields_here", "_law_tree_here"]
theorem sc__law_small_tree : FnScope N__law_small_tree ["_law_bag_here", "_law_fields_here"] (defScope s__law_small_tree) := ⟨rfl, rfl, rfl, by decide +kernel, rfl, by decide +kernel, by decide +kernel⟩
abbrev s_law : Stmt := topS 55
abbrev N_law : List Str := ["_law_script", "_law_bag_here", "_law_turn", "_law_fields_here", "_law_due", "_law_number", "_law_again", "_law_schema_z", "_law_tree_here", "_law_found"]
theorem sc_law : FnScope N_law ["_law_script"] (defScope s_law) := ⟨rfl, rfl, rfl, by decide +kernel, rfl, by decide +kernel, by decide +kernel⟩
structure Txt (K : PySem.W.Frag) (mg : Str → Option Value) : Prop where
  m_abs : mg "abs" = none
  m_all : mg "all" = none
  m_any : mg "any" = none
  m_bool : mg "bool" = none
  m_enumerate : mg "enumerate" = none
  m_int : mg "int" = none
  m_isinstance : mg "isinstance" = none
  m_len : mg "len" = none
  m_list : mg "list" = none
  m_max : mg "max" = none
  m_range : mg "range" = none
  m_reversed : mg "reversed" = none
  m_str : mg "str" = none
  m_sum : mg "sum" = none
  m_tuple : mg "tuple" = none
  m_zip : mg "zip" = none
  c_MAX_NAME : Gv mg "MAX_NAME" (.int 8)
  c_MAX_FIELDS : Gv mg "MAX_FIELDS" (.int 5)
  c_MAX_VALUES : Gv mg "MAX_VALUES" (.int 6)
  c_MAX_REQUESTS : Gv mg "MAX_REQUESTS" (.int 400)
  c_NAME_CHARACTERS : Gv mg "NAME_CHARACTERS" (.str "abcdefghijklmnopqrstuvwxyz")
  c_VALUE_CHARACTERS : Gv mg "VALUE_CHARACTERS" (.str "abcdefghijklmnopqrstuvwxyz0123456789")
  g_Schema : mg "Schema" = some (.ref (adr (mg "Schema")))
  k_Schema : Cls K (adr (mg "Schema"))
  n_Schema_labels : NoAttr K (adr (mg "Schema")) "labels"
  n_Schema_choices : NoAttr K (adr (mg "Schema")) "choices"
  n_Schema_total : NoAttr K (adr (mg "Schema")) "total"
  h_Schema___init__ : ∃ f fd, Fun K "__init__" "Schema.__init__" s_Schema___init__ f fd ∧ Binds K fd ["self", "fields"] [] ∧ Mk K (adr (mg "Schema")) f
  h_Schema___eq__ : ∃ f fd, Fun K "__eq__" "Schema.__eq__" s_Schema___eq__ f fd ∧ Binds K fd ["self", "other"] [] ∧ Meth K (adr (mg "Schema")) "__eq__" f
  h_Schema___len__ : ∃ f fd, Fun K "__len__" "Schema.__len__" s_Schema___len__ f fd ∧ Binds K fd ["self"] [] ∧ Meth K (adr (mg "Schema")) "__len__" f
  h_Schema___repr__ : ∃ f fd, Fun K "__repr__" "Schema.__repr__" s_Schema___repr__ f fd ∧ Binds K fd ["self"] [] ∧ Meth K (adr (mg "Schema")) "__repr__" f
  h_Schema_fields : ∃ f fd, Fun K "fields" "Schema.fields" s_Schema_fields f fd ∧ Binds K fd ["self"] [] ∧ Meth K (adr (mg "Schema")) "fields" f
  h_Schema_values_of : ∃ f fd, Fun K "values_of" "Schema.values_of" s_Schema_values_of f fd ∧ Binds K fd ["self", "field"] [] ∧ Meth K (adr (mg "Schema")) "values_of" f
  h_Schema_size : ∃ f fd, Fun K "size" "Schema.size" s_Schema_size f fd ∧ Binds K fd ["self"] [] ∧ Meth K (adr (mg "Schema")) "size" f
  h_Schema_request_of : ∃ f fd, Fun K "request_of" "Schema.request_of" s_Schema_request_of f fd ∧ Binds K fd ["self", "number"] [] ∧ Meth K (adr (mg "Schema")) "request_of" f
  h_Schema_number_of : ∃ f fd, Fun K "number_of" "Schema.number_of" s_Schema_number_of f fd ∧ Binds K fd ["self", "request"] [] ∧ Meth K (adr (mg "Schema")) "number_of" f
  h_consists_of : ∃ f fd, Fun K "consists_of" "consists_of" s_consists_of f fd ∧ Binds K fd ["text", "characters"] [] ∧ mg "consists_of" = some (.ref f)
  h_is_name : ∃ f fd, Fun K "is_name" "is_name" s_is_name f fd ∧ Binds K fd ["text"] [] ∧ mg "is_name" = some (.ref f)
  h_is_value : ∃ f fd, Fun K "is_value" "is_value" s_is_value f fd ∧ Binds K fd ["text"] [] ∧ mg "is_value" = some (.ref f)
  h_is_field_name : ∃ f fd, Fun K "is_field_name" "is_field_name" s_is_field_name f fd ∧ Binds K fd ["text"] [] ∧ mg "is_field_name" = some (.ref f)
  h_check_count : ∃ f fd, Fun K "check_count" "check_count" s_check_count f fd ∧ Binds K fd ["many", "limit"] [] ∧ mg "check_count" = some (.ref f)
  h_checked_values : ∃ f fd, Fun K "checked_values" "checked_values" s_checked_values f fd ∧ Binds K fd ["values"] [] ∧ mg "checked_values" = some (.ref f)
  h_checked_fields : ∃ f fd, Fun K "checked_fields" "checked_fields" s_checked_fields f fd ∧ Binds K fd ["fields"] [] ∧ mg "checked_fields" = some (.ref f)
  h_count_requests : ∃ f fd, Fun K "count_requests" "count_requests" s_count_requests f fd ∧ Binds K fd ["choices"] [] ∧ mg "count_requests" = some (.ref f)
  h_parts_of : ∃ f fd, Fun K "parts_of" "parts_of" s_parts_of f fd ∧ Binds K fd ["condition"] [] ∧ mg "parts_of" = some (.ref f)
  h_all_parts : ∃ f fd, Fun K "all_parts" "all_parts" s_all_parts f fd ∧ Binds K fd ["condition"] [] ∧ mg "all_parts" = some (.ref f)
  h_tests_of : ∃ f fd, Fun K "tests_of" "tests_of" s_tests_of f fd ∧ Binds K fd ["condition"] [] ∧ mg "tests_of" = some (.ref f)
  h_check_condition : ∃ f fd, Fun K "check_condition" "check_condition" s_check_condition f fd ∧ Binds K fd ["schema", "condition"] [] ∧ mg "check_condition" = some (.ref f)
  h_holds : ∃ f fd, Fun K "holds" "holds" s_holds f fd ∧ Binds K fd ["fields", "condition", "request"] [] ∧ mg "holds" = some (.ref f)
  h_truths : ∃ f fd, Fun K "truths" "truths" s_truths f fd ∧ Binds K fd ["schema", "condition"] [] ∧ mg "truths" = some (.ref f)
  h_matches : ∃ f fd, Fun K "matches" "matches" s_matches f fd ∧ Binds K fd ["schema", "condition", "request"] [] ∧ mg "matches" = some (.ref f) ∧ KwP fd ["schema", "condition", "request"] ["request", "condition", "schema"] [2, 1, 0]
  h_matching : ∃ f fd, Fun K "matching" "matching" s_matching f fd ∧ Binds K fd ["schema", "condition"] [] ∧ mg "matching" = some (.ref f) ∧ KwP fd ["schema", "condition"] ["condition", "schema"] [1, 0]
  h__law_bag : ∃ f fd, Fun K "_law_bag" "_law_bag" s__law_bag f fd ∧ Binds K fd ["_law_script"] [] ∧ mg "_law_bag" = some (.ref f)
  h__law_pull : ∃ f fd, Fun K "_law_pull" "_law_pull" s__law_pull f fd ∧ Binds K fd ["_law_bag_here", "_law_sides"] [] ∧ mg "_law_pull" = some (.ref f)
  h__law_of : ∃ f fd, Fun K "_law_of" "_law_of" s__law_of f fd ∧ Binds K fd ["_law_bag_here", "_law_some"] [] ∧ mg "_law_of" = some (.ref f)
  h__law_same : ∃ f fd, Fun K "_law_same" "_law_same" s__law_same f fd ∧ Binds K fd ["_law_found", "_law_due"] [] ∧ mg "_law_same" = some (.ref f)
  h__law_names : ∃ f fd, Fun K "_law_names" "_law_names" s__law_names f fd ∧ Binds K fd ["_law_bag_here", "_law_many_here"] [] ∧ mg "_law_names" = some (.ref f)
  h__law_marks : ∃ f fd, Fun K "_law_marks" "_law_marks" s__law_marks f fd ∧ Binds K fd ["_law_bag_here", "_law_many_here"] [] ∧ mg "_law_marks" = some (.ref f)
  h__law_fields : ∃ f fd, Fun K "_law_fields" "_law_fields" s__law_fields f fd ∧ Binds K fd ["_law_bag_here", "_law_most"] [] ∧ mg "_law_fields" = some (.ref f)
  h__law_size : ∃ f fd, Fun K "_law_size" "_law_size" s__law_size f fd ∧ Binds K fd ["_law_fields_here"] [] ∧ mg "_law_size" = some (.ref f)
  h__law_request : ∃ f fd, Fun K "_law_request" "_law_request" s__law_request f fd ∧ Binds K fd ["_law_fields_here", "_law_number"] [] ∧ mg "_law_request" = some (.ref f)
  h__law_schema : ∃ f fd, Fun K "_law_schema" "_law_schema" s__law_schema f fd ∧ Binds K fd ["_law_fields_here"] [] ∧ mg "_law_schema" = some (.ref f)
  h__law_test : ∃ f fd, Fun K "_law_test" "_law_test" s__law_test f fd ∧ Binds K fd ["_law_bag_here", "_law_fields_here"] [] ∧ mg "_law_test" = some (.ref f)
  h__law_tree : ∃ f fd, Fun K "_law_tree" "_law_tree" s__law_tree f fd ∧ Binds K fd ["_law_bag_here", "_law_fields_here", "_law_deep"] [] ∧ mg "_law_tree" = some (.ref f)
  h__law_parts : ∃ f fd, Fun K "_law_parts" "_law_parts" s__law_parts f fd ∧ Binds K fd ["_law_tree_here"] [] ∧ mg "_law_parts" = some (.ref f)
  h__law_many : ∃ f fd, Fun K "_law_many" "_law_many" s__law_many f fd ∧ Binds K fd ["_law_tree_here"] [] ∧ mg "_law_many" = some (.ref f)
  h__law_holds : ∃ f fd, Fun K "_law_holds" "_law_holds" s__law_holds f fd ∧ Binds K fd ["_law_tree_here", "_law_fields_here", "_law_request_z"] [] ∧ mg "_law_holds" = some (.ref f)
  h__law_matching : ∃ f fd, Fun K "_law_matching" "_law_matching" s__law_matching f fd ∧ Binds K fd ["_law_fields_here", "_law_tree_here"] [] ∧ mg "_law_matching" = some (.ref f)
  h__law_small_tree : ∃ f fd, Fun K "_law_small_tree" "_law_small_tree" s__law_small_tree f fd ∧ Binds K fd ["_law_bag_here", "_law_fields_here"] [] ∧ mg "_law_small_tree" = some (.ref f)
section
variable {P : Program} {w : World} {K : PySem.W.Frag} {mg : Str → Option Value} {base : Heap}
theorem seqI {t1 t2 : TS} {D : Ends} {σ : L2.St} {H : Hp} (I : L2.St → Hp → Prop) (h2 : ∀ σ' H', I σ' H' → t2 D σ' H') (h1 : ∀ N : L2.St → Hp → Prop, (∀ σ' H', I σ' H' → N σ' H') → t1 { D with nx := N } σ H) : tSeq t1 t2 D σ H := h1 (t2 D) h2
theorem cut_ints (ns : List Int) (lo hi : Option Int) : ∃ ms : List Int, cutV (ns.map V.int) lo hi = ms.map V.int ∧ ms.length ≤ ns.length := by
  refine ⟨(ns.drop (HT.sIx (ns.map V.int).length 0 lo)).take (HT.sIx (ns.map V.int).length (ns.map V.int).length hi - HT.sIx (ns.map V.int).length 0 lo), ?_, ?_⟩
  · unfold cutV
    rw [List.map_take, List.map_drop]
  · rw [List.length_take, List.length_drop]
    omega
theorem at_int {ns : List Int} {i : Int} (h0 : 0 ≤ i) (h1 : i < ns.length) : ∃ c : Int, atI (ns.map V.int) i = some (.int c) := by
  have hk : i.toNat < ns.length := by omega
  have ek : i = ((i.toNat : Nat) : Int) := by omega
  have q : atI (ns.map V.int) ((i.toNat : Nat) : Int) = some (.int ns[i.toNat]) := atI_nat (by rw [List.getElem?_map, List.getElem?_eq_getElem hk] <;> rfl)
  rw [← ek] at q
  exact ⟨_, q⟩
theorem fmod_in {a n : Int} (h : 0 < n) : 0 ≤ a.fmod n ∧ a.fmod n < n := ⟨Int.fmod_nonneg_of_pos _ h, Int.fmod_lt_of_pos _ h⟩
theorem fdiv_in {a n : Int} (h : 0 < n) (h0 : 0 ≤ a) : 0 ≤ a.fdiv n := by
  rw [Int.fdiv_eq_ediv_of_nonneg _ (by omega)]
  exact Int.ediv_nonneg h0 (by omega)
theorem bag_at {H : Hp} {b l : Addr} {ns : List Int} {i g t : Int} (nl : l ≠ b) (hl : H l = some (.lst (ns.map V.int))) (h : ns.length ≤ 63) (h1 : 0 ≤ i) (h2 : 0 ≤ g) (h3 : 0 ≤ t) (h4 : t < 2147483647) : Bag (upd H b (.lst [.ref l, .int i, .int g, .int t])) b l :=
  ⟨ns, i, g, t, upd_same, by rw [upd_ne nl]; exact hl, h, h1, h2, h3, h4⟩
theorem bag_ne {b l : Addr} {ns : List Int} {i g s : Int} {H : Hp} (h : H b = some (.lst [.ref l, .int i, .int g, .int s])) (h' : H l = some (.lst (ns.map V.int))) : l ≠ b := by
  refine ne_of h' h fun e => ?_
  cases ns with
  | nil => cases e
  | cons n r => cases (List.cons.inj (HO.lst.inj e)).1
theorem ok__law_bag {f : Addr} {fd : FuncData} (T : Txt K mg) (F : Fun K "_law_bag" "_law_bag" s__law_bag f fd) : FnOk P w K mg base CX0 1 f fd ["_law_script"] (sp_bag K) := by
  refine F.ok sc__law_bag (fun vs H Q E h => ?_) (fun cdv A outer s H vs Q E hr h => ?_)
  · obtain ⟨a, ns, rfl, _⟩ := h
    rfl
  obtain ⟨a, ns, rfl, hS, hn, q⟩ := h
  refine ⟨_, (pss_one (ps_ret (pe_lst (pa_cons (pe_callTy (call_list_ofK (K := K)) (by rfl) T.m_list (by decide +kernel) (pa_cons (pe_slice (sl_listK (K := K)) (pv 0) po_none (po_some pe_int)) pa_nil)) (pa_cons pe_int (pa_cons pe_int (pa_cons pe_int pa_nil))))))), ?_⟩
  obtain ⟨ms, em, hm⟩ := cut_ints ns none (some 63)
  refine ⟨_, rfl, 63, rfl, a, _, rfl, hS, fun p hp => ⟨p, ms.map V.int, rfl, .inl (.inl (.inl (by rw [upd_same, em]))), fun l hl => ⟨by show 4 ≤ sizeLine; decide, fun b hb => ?_⟩⟩⟩
  have s1 : Same H (upd H p (.lst (cutV (ns.map V.int) none (some 63)))) := same_new hp
  have s2 := same_new (o := .lst (ms.map V.int)) hl
  have s3 := same_new (o := .lst [V.ref l, .int 0, .int 0, .int 9485]) hb
  exact q b l _ ⟨ms, 0, 0, 9485, upd_same, s3 _ _ upd_same, by omega, by omega, by omega, by omega, by omega⟩ ((s1.trans s2).free hb) ((s1.trans s2).trans s3)
theorem ok__law_pull {f : Addr} {fd : FuncData} (T : Txt K mg) (F : Fun K "_law_pull" "_law_pull" s__law_pull f fd) : FnOk P w K mg base CX0 1 f fd ["_law_bag_here", "_law_sides"] sp_pull := by
  refine F.ok sc__law_pull (fun vs H Q E h => ?_) (fun cdv A outer s H vs Q E hr h => ?_)
  · obtain ⟨b, l, n, rfl, _⟩ := h
    rfl
  obtain ⟨b, l, n, rfl, ⟨ns, i, g, t, hb, hl, hlen, hi, hg, ht, ht'⟩, hn1, hn2, q⟩ := h
  have nl : l ≠ b := bag_ne hb hl
  refine ⟨_, (pss_cons (ps_if (PW.pt (pw_and (pt_cmpR op_eq (pe_ix (ix_listK (K := K)) (pv 0) pe_int (fun _ _ => rfl)) pe_int (nomark _)) (pw_and1 (pt_cmpR op_lt (pe_ix (ix_listK (K := K)) (pv 0) pe_int (fun _ _ => rfl)) (pe_callB (call_len_seqK (K := K)) (by rfl) T.m_len PySem.boot_len (pa_cons (pe_ix (ix_listK (K := K)) (pv 0) pe_int (fun _ _ => rfl)) pa_nil)) (nomark _))))) (pss_cons (ps_set (i := 3) sc__law_pull.nd rfl (.inl rfl) (pe_ix (ix_listK (K := K)) (pe_ix (ix_listK (K := K)) (pv 0) pe_int (fun _ _ => rfl)) (pe_ix (ix_listK (K := K)) (pv 0) pe_int (fun _ _ => rfl)) (fun _ _ => rfl)))
      (pss_cons (ps_asg (pe_op op_add (pe_ix (ix_listK (K := K)) (pv 0) pe_int (fun _ _ => rfl)) pe_int) (pg_sub (pv 0) pe_int set_list))
      (pss_one (ps_if (pt_cmpR op_ge (pe_callB call_abs (by rfl) T.m_abs (by decide +kernel) (pa_cons (pv 3) pa_nil)) (pe_op op_pow pe_int pe_int) (nomark _)) (pss_one (ps_asg (pe_callB call_abs (by rfl) T.m_abs (by decide +kernel) (pa_cons (pv 3) pa_nil)) (pg_sub (pv 0) pe_int set_list))) (pss_one (ps_asg (pe_op op_modN (pe_op op_add (pe_op op_add (pe_op op_mul (pe_ix (ix_listK (K := K)) (pv 0) pe_int (fun _ _ => rfl)) pe_int) (pe_op op_mul (pe_op op_modN (pv 3) pe_int) pe_int)) pe_int) pe_int) (pg_sub (pv 0) pe_int set_list))))))) pss_nil)
      (pss_cons (ps_if (pt_cmpR op_gt (pe_ix (ix_listK (K := K)) (pv 0) pe_int (fun _ _ => rfl)) pe_int (nomark _)) (pss_cons (ps_set (i := 4) sc__law_pull.nd rfl (.inl rfl) (pe_op op_modN (pe_ix (ix_listK (K := K)) (pv 0) pe_int (fun _ _ => rfl)) (pv 1)))
      (pss_cons (ps_asg (pe_op op_fdivN (pe_ix (ix_listK (K := K)) (pv 0) pe_int (fun _ _ => rfl)) (pv 1)) (pg_sub (pv 0) pe_int set_list))
      (pss_one (ps_ret (pv 4))))) pss_nil)
      (pss_cons (ps_set (i := 2) sc__law_pull.nd rfl (.inl rfl) (pe_op op_modN (pe_op op_mul (pe_ix (ix_listK (K := K)) (pv 0) pe_int (fun _ _ => rfl)) (pe_ix (ix_listK (K := K)) (pv 0) pe_int (fun _ _ => rfl))) pe_int))
      (pss_cons (ps_asg (pe_op op_modN (pe_op op_add (pe_op op_add (pe_op op_mul (pv 2) pe_int) (pe_op op_mul (pe_ix (ix_listK (K := K)) (pv 0) pe_int (fun _ _ => rfl)) pe_int)) pe_int) pe_int) (pg_sub (pv 0) pe_int set_list))
      (pss_one (ps_ret (pe_op op_modN (pe_op op_fdivN (pe_ix (ix_listK (K := K)) (pv 0) pe_int (fun _ _ => rfl)) pe_int) (pv 1)))))))), ?_⟩
  refine seqI (fun σ' H' => ∃ (x : Option V) (i g t : Int), σ' = [some (.ref b), some (.int n), none, x, none] ∧ H' = upd H b (.lst [.ref l, .int i, .int g, .int t]) ∧ 0 ≤ i ∧ 0 ≤ g ∧ 0 ≤ t ∧ t < 2147483647) ?_ ?_
  · rintro σ' H' ⟨x, i, g, t, rfl, rfl, hi, hg, ht, ht'⟩
    have hb1 : (upd H b (.lst [.ref l, .int i, .int g, .int t])) b = some (.lst [.ref l, .int i, .int g, .int t]) := upd_same
    refine ⟨_, rfl, b, _, _, _, rfl, rfl, SqL.of hb1, rfl, _, _, rfl, rfl, _, rfl, ite2 (fun c => ?_) (fun c => ?_)⟩
    · have e := fmod_in (a := g) (n := n) (by omega)
      refine ⟨_, rfl, b, _, _, _, rfl, rfl, SqL.of hb1, rfl, _, rfl, _, _, rfl, rfl, by omega, ?_⟩
      refine ⟨_, rfl, b, _, _, _, rfl, rfl, SqL.of hb1, rfl, _, rfl, _, _, rfl, rfl, ⟨by omega, by omega⟩, ?_⟩
      refine ⟨_, rfl, b, _, 2, 2, rfl, rfl, hb1, rfl, _, rfl, ?_⟩
      rw [upd_upd]
      exact q _ _ e.1 e.2 (Bx.bagstep (bag_at nl hl hlen hi (fdiv_in (by omega) hg) ht ht'))
    · refine ⟨_, rfl, b, _, _, _, rfl, rfl, SqL.of hb1, rfl, _, rfl, b, _, _, _, rfl, rfl, SqL.of hb1, rfl, _, _, rfl, rfl, .inl ⟨by omega, by omega⟩, _, _, rfl, rfl, by omega, ?_⟩
      have e1 := fmod_in (a := t * t) (n := 2147483629) (by omega)
      refine ⟨_, rfl, _, _, rfl, rfl, .inl ⟨by omega, by omega⟩, _, rfl, b, _, _, _, rfl, rfl, SqL.of hb1, rfl, _, _, rfl, rfl, .inl ⟨by omega, by omega⟩, _, _, rfl, rfl, _, _, rfl, rfl, _, _, rfl, rfl, by omega, ?_⟩
      have e2 := fmod_in (a := (t * t).fmod 2147483629 * 16807 + t * 40692 + 12345) (n := 2147483647) (by omega)
      refine ⟨_, rfl, b, _, 3, 3, rfl, rfl, hb1, rfl, ?_⟩
      refine ⟨_, rfl, b, _, 3, _, rfl, rfl, SqL.of upd_same, rfl, _, _, rfl, rfl, ⟨by omega, by omega⟩, _, rfl, _, _, rfl, rfl, by omega, ?_⟩
      have e3 := fmod_in (a := (((t * t).fmod 2147483629 * 16807 + t * 40692 + 12345).fmod 2147483647).fdiv 64) (n := n) (by omega)
      rw [upd_upd]
      exact q _ _ e3.1 e3.2 (Bx.bagstep (bag_at nl hl hlen hi hg e2.1 e2.2))
  · intro N hN
    refine ⟨_, rfl, b, _, _, _, rfl, rfl, SqL.of hb, rfl, rfl, _, rfl, ite2 (fun c => ?_) (fun c => ?_)⟩
    · refine ⟨_, rfl, b, _, _, _, rfl, rfl, SqL.of hb, rfl, _, rfl, b, _, _, _, rfl, rfl, SqL.of hb, rfl, l, _, rfl, .inl (SqL.of hl), _, _, rfl, rfl, _, rfl, ite2 (fun c2 => ?_) (fun c2 => ?_)⟩
      · have c3 : i < ns.length := by
          have := of_decide_eq_true c2
          rw [List.length_map] at this
          exact this
        obtain ⟨v, hv⟩ := at_int hi c3
        refine ⟨_, rfl, b, _, _, _, rfl, rfl, SqL.of hb, rfl, _, rfl, b, _, _, _, rfl, rfl, SqL.of hb, rfl, l, _, i, .int v, rfl, rfl, SqL.of hl, hv, ?_⟩
        refine ⟨_, rfl, b, _, _, _, rfl, rfl, SqL.of hb, rfl, _, _, rfl, rfl, _, rfl, b, _, 1, 1, rfl, rfl, hb, rfl, ?_⟩
        refine ⟨_, rfl, v, rfl, 10, 18, rfl, rfl, ⟨by decide, by decide, by decide⟩, _, _, rfl, rfl, _, rfl, ite2 (fun c4 => ?_) (fun c4 => ?_)⟩
        · refine ⟨_, rfl, v, rfl, _, rfl, b, _, 2, 2, rfl, rfl, upd_same, rfl, ?_⟩
          refine hN _ _ ⟨_, i + 1, (if v < 0 then -v else v), t, rfl, ?_, by omega, by split <;> omega, ht, ht'⟩
          rw [upd_upd]
          rfl
        · have e1 := fmod_in (a := v) (n := 1000003) (by omega)
          have e2 := fmod_in (a := t * 48271 + v.fmod 1000003 * 911 + 7) (n := 2147483647) (by omega)
          refine ⟨_, rfl, b, _, 3, .int t, rfl, rfl, SqL.of upd_same, rfl, _, _, rfl, rfl, .inl ⟨by omega, by omega⟩, _, rfl, _, _, rfl, rfl, by omega, _, _, rfl, rfl, .inl ⟨by omega, by omega⟩, _, _, rfl, rfl, _, _, rfl, rfl, _, _, rfl, rfl, by omega, ?_⟩
          refine ⟨_, rfl, b, _, 3, 3, rfl, rfl, upd_same, rfl, ?_⟩
          refine hN _ _ ⟨_, i + 1, g, _, rfl, ?_, by omega, hg, e2.1, e2.2⟩
          rw [upd_upd]
          rfl
      · exact hN _ _ ⟨none, i, g, t, rfl, (upd_id hb).symm, hi, hg, ht, ht'⟩
    · exact hN _ _ ⟨none, i, g, t, rfl, (upd_id hb).symm, hi, hg, ht, ht'⟩
theorem ok__law_ofS {f : Addr} {fd : FuncData} (T : Txt K mg) (F : Fun K "_law_of" "_law_of" s__law_of f fd) : FnOk P w K mg base CX0 2 f fd ["_law_bag_here", "_law_some"] sp_ofS := by
  obtain ⟨f__law_pull, fd__law_pull, F__law_pull, b__law_pull, g__law_pull⟩ := T.h__law_pull
  have G__law_pull := ok__law_pull (P := P) (w := w) (base := base) T F__law_pull
  refine F.ok sc__law_of (fun vs H Q E h => ?_) (fun cdv A outer s H vs Q E hr h => ?_)
  · obtain ⟨b, l, z, rfl, _⟩ := h
    rfl
  obtain ⟨b, l, z, rfl, hb, h1, h2, q⟩ := h
  have hr__law_pull := hr
  refine ⟨_, (pss_one (ps_ret (pe_ix ix_str (pv 1) (pe_call G__law_pull hr__law_pull (by rfl) g__law_pull F__law_pull.kp b__law_pull .nil pass0 (pa_cons (pv 0) (pa_cons (pe_callB call_len_str (by rfl) T.m_len PySem.boot_len (pa_cons (pv 1) pa_nil)) pa_nil))) (fun _ _ => rfl)))), ?_⟩
  refine ⟨_, rfl, _, rfl, _, rfl, z, rfl, szl h2, b, l, _, rfl, hb, by omega, by omega, fun d H' d0 d1 bx => ?_⟩
  have hk : d.toNat < z.cps.toList.length := by
    have : z.cps.toList.length = z.length := rfl
    omega
  have e : atI z.cps.toList d = some z.cps.toList[d.toNat] := by
    have q : atI z.cps.toList ((d.toNat : Nat) : Int) = some z.cps.toList[d.toNat] := atI_nat (List.getElem?_eq_getElem hk)
    rwa [show ((d.toNat : Nat) : Int) = d by omega] at q
  exact ⟨z, d, _, rfl, rfl, szl h2, e, q _ H' (List.getElem_mem hk) bx⟩
theorem ok__law_ofL {f : Addr} {fd : FuncData} (T : Txt K mg) (F : Fun K "_law_of" "_law_of" s__law_of f fd) : FnOk P w K mg base CX0 2 f fd ["_law_bag_here", "_law_some"] (sp_ofL K) := by
  obtain ⟨f__law_pull, fd__law_pull, F__law_pull, b__law_pull, g__law_pull⟩ := T.h__law_pull
  have G__law_pull := ok__law_pull (P := P) (w := w) (base := base) T F__law_pull
  refine F.ok sc__law_of (fun vs H Q E h => ?_) (fun cdv A outer s H vs Q E hr h => ?_)
  · obtain ⟨b, l, a, xs, rfl, _⟩ := h
    rfl
  obtain ⟨b, l, a, xs, rfl, hb, hs, h1, h2, q⟩ := h
  have hr__law_pull := hr
  refine ⟨_, (pss_one (ps_ret (pe_ix (ix_seqK (K := K)) (pv 1) (pe_call G__law_pull hr__law_pull (by rfl) g__law_pull F__law_pull.kp b__law_pull .nil pass0 (pa_cons (pv 0) (pa_cons (pe_callB (call_len_seqK (K := K)) (by rfl) T.m_len PySem.boot_len (pa_cons (pv 1) pa_nil)) pa_nil))) (fun _ _ => rfl)))), ?_⟩
  refine ⟨_, rfl, _, rfl, _, rfl, a, xs, rfl, hs H (Bx.refl hb), b, l, _, rfl, hb, by omega, by omega, fun d H' d0 d1 bx => ?_⟩
  have hk : d.toNat < xs.length := by omega
  have e : atI xs d = some xs[d.toNat] := by
    have q : atI xs ((d.toNat : Nat) : Int) = some xs[d.toNat] := atI_nat (List.getElem?_eq_getElem hk)
    rwa [show ((d.toNat : Nat) : Int) = d by omega] at q
  rcases hs H' bx with hs | hs
  · exact .inl ⟨a, xs, d, _, rfl, rfl, hs, e, q _ H' (List.getElem_mem hk) bx⟩
  · exact .inr (.inl ⟨a, xs, d, _, rfl, rfl, hs, e, q _ H' (List.getElem_mem hk) bx⟩)
def Names (ss : List Str) : Prop := (∀ s ∈ ss, isNm s) ∧ ss.Nodup
def Marks (ss : List Str) : Prop := (∀ s ∈ ss, isVl s) ∧ ss.Nodup
def sp_names (ok : List Str → Prop) (top : Int) : Sp := fun vs H Q _ => ∃ (b l : Addr) (n : Int) (S : List Addr), vs = [.ref b, .int n] ∧ Bag H b l ∧ b ∈ S ∧ Tr H S ∧ 0 ≤ n ∧ n ≤ top ∧
  ∀ (p : Addr) (ss : List Str) (H' : Hp), Bx b l H H' → H p = none → dl H' S p = some (.lst (ss.map V.str)) → ss.length = n.toNat → ok ss → Q (.ref p) H'
theorem ok__law_names {f : Addr} {fd : FuncData} (T : Txt K mg) (F : Fun K "_law_names" "_law_names" s__law_names f fd) : FnOk P w K mg base CX0 3 f fd ["_law_bag_here", "_law_many_here"] (sp_names Names 26) := by
  obtain ⟨f__law_pull, fd__law_pull, F__law_pull, b__law_pull, g__law_pull⟩ := T.h__law_pull
  obtain ⟨f__law_of, fd__law_of, F__law_of, b__law_of, g__law_of⟩ := T.h__law_of
  have G__law_pull := ok__law_pull (P := P) (w := w) (base := base) T F__law_pull
  have G__law_ofS := ok__law_ofS (P := P) (w := w) (base := base) T F__law_of
  refine F.ok sc__law_names (fun vs H Q E h => ?_) (fun cdv A outer s H vs Q E hr h => ?_)
  · obtain ⟨b, l, n, S, rfl, _⟩ := h
    rfl
  obtain ⟨b, l, n, S, rfl, hb, hbS, tr, hn0, hn1, q⟩ := h
  have hr__law_pull : Room 1 _ := hr.mono (by decide)
  have hr__law_of := hr
  refine ⟨_, (pss_cons (ps_set (i := 2) sc__law_names.nd rfl (.inr rfl) pe_str)
      (pss_cons (ps_set (i := 3) sc__law_names.nd rfl (.inl rfl) (pe_join pe_str (pe_lc (own := [("_law_k", 5)]) (g := gName 5) (by rfl) sc__law_names.nd (pi_range1 (by rfl) T.m_range (pa_cons (pe_call G__law_pull hr__law_pull (by rfl) g__law_pull F__law_pull.kp b__law_pull .nil pass0 (pa_cons (pv 0) (pa_cons pe_int pa_nil))) pa_nil)) (blkOk_by (own := [("_law_k", 5)]) (N := N__law_names) (sc := defScope s__law_names) (by decide +kernel)) (fun _ _ _ _ _ => pg_name (i := 5) sc__law_names.nd rfl (.inl rfl)) (fun _ _ _ _ _ => pts_nil) (fun _ _ _ _ _ => (pe_call G__law_ofS hr__law_of (by rfl) g__law_of F__law_of.kp b__law_of .nil pass0 (pa_cons (pv 0) (pa_cons (pv 2) pa_nil)))))))
      (pss_cons (ps_if (pt_cmpR op_eq (pe_call G__law_pull hr__law_pull (by rfl) g__law_pull F__law_pull.kp b__law_pull .nil pass0 (pa_cons (pv 0) (pa_cons pe_int pa_nil))) pe_int (nomark _)) (pss_one (ps_set (i := 3) sc__law_names.nd rfl (.inl rfl) (pe_op op_repS (pe_slice sl_str (pv 3) po_none (po_some pe_int)) (pe_callB call_len_str (by rfl) T.m_len PySem.boot_len (pa_cons (pv 3) pa_nil))))) pss_nil)
      (pss_cons (ps_par (i := 6) (j := 7) (by rfl) sc__law_names.nd rfl rfl (by decide) rfl rfl (pa_cons (pe_call G__law_pull hr__law_pull (by rfl) g__law_pull F__law_pull.kp b__law_pull .nil pass0 (pa_cons (pv 0) (pa_cons (pe_op op_add (pe_callB call_len_str (by rfl) T.m_len PySem.boot_len (pa_cons (pv 3) pa_nil)) pe_int) pa_nil))) (pa_cons (pe_call G__law_pull hr__law_pull (by rfl) g__law_pull F__law_pull.kp b__law_pull .nil pass0 (pa_cons (pv 0) (pa_cons pe_int pa_nil))) pa_nil)) (by rfl))
      (pss_cons (ps_set (i := 4) sc__law_names.nd rfl (.inl rfl) (pe_lst pa_nil))
      (pss_cons (ps_for PassesOwn.never rfl (pi_range1 (by rfl) T.m_range (pa_cons (pv 1) pa_nil)) (pg_name (i := 5) sc__law_names.nd rfl (.inl rfl)) (pss_cons (ps_set (i := 8) sc__law_names.nd rfl (.inl rfl) (pe_op op_add_str (pe_op op_add_str (pe_slice sl_str (pv 3) po_none (po_some (pv 6))) (pe_ix ix_str (pv 2) (pe_op op_modN (pe_op op_add (pv 7) (pe_op op_mul pe_int (pv 5))) pe_int) (fun _ _ => rfl))) (pe_slice sl_str (pv 3) (po_some (pv 6)) po_none)))
      (pss_one (ps_expr (pe_bm PySem.F.plainAttrs_list PySem.F.slot_list_append PySem.F.type_list_append mt_append (pv 4) (pa_cons (pe_ifExp (pt_cmpR op_eq (pe_call G__law_pull hr__law_pull (by rfl) g__law_pull F__law_pull.kp b__law_pull .nil pass0 (pa_cons (pv 0) (pa_cons pe_int pa_nil))) pe_int (nomark _)) (pe_slice sl_str (pv 8) po_none (po_some (pe_callB (call_max2 rfl) (by rfl) T.m_max (by decide +kernel) (pa_cons (pe_op op_add (pv 6) pe_int) (pa_cons (pe_op op_sub (pe_callB call_len_str (by rfl) T.m_len PySem.boot_len (pa_cons (pv 8) pa_nil)) (pv 5)) pa_nil))))) (pv 8)) pa_nil))))))
      (pss_one (ps_ret (pv 4))))))))), ?_⟩
  have hL : cl "abcdefghijklmnopqrstuvwxyz" = cl "abcdefghijklmnopqrstuvwxyz" := rfl
  -- the stem
  refine ⟨⟨_, rfl⟩, _, rfl, b, l, 7, rfl, hb, by decide, by decide, fun d H1 d0 d1 bx1 => ⟨d, rfl, by omega, by omega, fun D hD => ?_⟩⟩
  refine lc_bag (walk_range (lo := 0) (n := d.toNat)) [b] List.mem_cons_self bx1.bag hD (fun y _ => ∃ c, y = .str ⟨#[c]⟩ ∧ c ∈ cl "abcdefghijklmnopqrstuvwxyz") (fun _ _ _ _ h => h) (fun _ _ => trivial) (by omega) (fun i x H2 H3 Qe Z hi bx2 sm hDl hq hy => ?_) (fun H2 ys bx2 hl hD2 hp => ?_)
  · obtain ⟨rfl, rfl⟩ := hy
    refine ⟨rfl, yes ?_⟩
    exact ⟨_, rfl, _, rfl, b, l, _, rfl, bx2.bag, by decide, by decide, fun c H4 hc bx4 => hq _ H4 bx4 ⟨c, rfl, hc⟩⟩
  obtain ⟨ss, rfl, hss, hsum, hjl, hjc⟩ := stem_of hp
  refine ⟨_, D, ss, rfl, rfl, .inl (SqL.of hD2), by rw [hsum]; show _ + ss.length * 0 ≤ 16777216; omega, ?_⟩
  have bx := bx1.trans bx2
  -- the stem, or one letter of it often
  dsimp only [gName]
  refine seqI (fun σ' H' => ∃ (z : Str), σ' = [some (.ref b), some (.int n), some (.str "abcdefghijklmnopqrstuvwxyz"), some (.str z), none, none, none, none, none] ∧ Bx b l H H' ∧ (cl z).length ≤ 6 ∧ ∀ c ∈ cl z, c ∈ cl "abcdefghijklmnopqrstuvwxyz") ?_ ?_
  rotate_left
  · intro N hN
    have hz : (Txt.join "" ss).length ≤ 100000 := by rw [cl_len, hjl]; omega
    refine ⟨_, rfl, b, l, 2, rfl, bx.bag, by decide, by decide, fun e H3 e0 e1 bx3 => ⟨rfl, _, rfl, ite2 (fun c => ?_) (fun c => ?_)⟩⟩
    · have h1 : cl (cutS (Txt.join "" ss) none (some 1)) = (cl (Txt.join "" ss)).take 1 := cl_take _ (by decide)
      refine ⟨_, rfl, 1, rfl, _, rfl, szl hz, _, rfl, _, rfl, szl hz, _, _, rfl, rfl, by rw [cl_len, h1, List.length_take]; omega, by omega, by rw [cl_len, hjl]; omega, ?_⟩
      refine hN _ _ ⟨_, rfl, bx.trans bx3, ?_, ?_⟩
      · rw [cl_mul _ (by omega), h1, List.length_flatten, List.map_replicate, List.sum_replicate_nat, List.length_take, cl_len, Int.toNat_natCast, hjl]
        have : (List.map V.str ss).length ≤ 6 := by omega
        have h3 : min 1 (List.map V.str ss).length ≤ 1 := Nat.min_le_left _ _
        calc (List.map V.str ss).length * min 1 (List.map V.str ss).length ≤ (List.map V.str ss).length * 1 := Nat.mul_le_mul_left _ h3
          _ ≤ 6 := by omega
      · intro x hx
        rw [cl_mul _ (by omega), h1] at hx
        obtain ⟨l', hl', hx⟩ := List.mem_flatten.mp hx
        rw [List.eq_of_mem_replicate hl'] at hx
        exact hjc x (List.mem_of_mem_take hx)
    · exact hN _ _ ⟨_, rfl, bx.trans bx3, by omega, hjc⟩
  rintro σ' H' ⟨z, rfl, bxz, hz6, hzc⟩
  have hzs : z.length ≤ sizeLine := szl (by rw [cl_len]; omega)
  -- spot, first, found
  refine ⟨_, rfl, _, rfl, z, rfl, hzs, _, _, rfl, rfl, b, l, _, rfl, bxz.bag, by omega, by rw [cl_len]; omega, fun spot H4 s0 s1 bx4 => ⟨_, rfl, b, l, 26, rfl, bx4.bag, by decide, by decide, fun first H5 f0 f1 bx5 => ⟨_, _, rfl, ?_⟩⟩⟩
  refine ⟨Nat.zero_le _, fun D2 hD2 => ?_⟩
  have bxA := (bxz.trans bx4).trans bx5
  have hD2H : H D2 = none := bxA.free hD2
  have nDb : D2 ≠ b := hb.ne_new hD2H
  have nDl : D2 ≠ l := hb.ne_newl hD2H
  have s1' : spot ≤ ((cl z).length : Int) := by rw [cl_len] at s1; omega
  refine ⟨_, rfl, n, rfl, by omega, by omega, for_it (walk_range (lo := 0) (n := n.toNat)) (fun i σ H' => ∃ (ss : List Str) (x5 x8 : Option V), σ = [some (.ref b), some (.int n), some (.str "abcdefghijklmnopqrstuvwxyz"), some (.str z), some (.ref D2), x5, some (.int spot), some (.int first), x8] ∧ Bx b l H H' ∧ H' D2 = some (.lst (ss.map V.str)) ∧ ss.length = i ∧ ∀ j s, ss[j]? = some s → isNm s ∧ (cl s)[spot.toNat]? = some (97 + (first.toNat + 7 * j) % 26))
    ⟨[], none, none, rfl, bxA.trans (Bx.new bxA.bag hD2), upd_same, rfl, fun j s h => by simp at h⟩ (fun _ _ _ _ _ => trivial) (fun i x σ H6 H7 hi hI hy => ?_) (fun σ H6 hI => ?_)⟩
  · obtain ⟨ss, x5, x8, rfl, bx6, hD6, hl, hss⟩ := hI
    obtain ⟨rfl, rfl⟩ := hy
    have hm : ((first + 7 * (0 + (i : Int))).fmod 26) = (((first.toNat + 7 * i) % 26 : Nat) : Int) := by
      rw [Int.fmod_eq_emod_of_nonneg _ (by omega)]
      omega
    have hc := let_at ((first.toNat + 7 * i) % 26) (by omega)
    have hcm : (97 + (first.toNat + 7 * i) % 26) ∈ cl "abcdefghijklmnopqrstuvwxyz" := List.mem_of_getElem? hc
    have hcz := cutS_length z
    have l1 := hcz none (some spot)
    have l2 := hcz (some spot) none
    have hzl : z.length = (cl z).length := rfl
    refine ⟨_, rfl, _, rfl, spot, rfl, z, rfl, hzs, _, rfl, _, rfl, _, rfl, _, _, rfl, rfl, .inl ⟨by decide, by decide⟩, _, _, rfl, rfl, _, _, rfl, rfl, (by show (26 : Int) ≠ 0; decide), _, _, _, rfl, rfl, by decide, at_code (by rw [hm]; omega) (by rw [hm, Int.toNat_natCast]; exact hc), _, _, rfl, rfl, szl (by show _ + 1 ≤ _; omega), ?_⟩
    have e3 : (cutS z none (some spot) ++ (⟨#[97 + (first.toNat + 7 * i) % 26]⟩ : Str)).length = (cutS z none (some spot)).length + 1 := strLen_append _ _
    refine ⟨_, rfl, _, rfl, spot, rfl, z, rfl, hzs, _, _, rfl, rfl, szl (by rw [e3]; omega), ?_⟩
    have hone := put_sign (z := z) (c := 97 + (first.toNat + 7 * i) % 26) s0 s1'
    have hone_len := put_len (l := cl z) (c := 97 + (first.toNat + 7 * i) % 26) (i := spot.toNat) (by omega)
    have hone_at := put_at (l := cl z) (c := 97 + (first.toNat + 7 * i) % 26) (i := spot.toNat) (by omega)
    have hone_mem := put_mem (l := cl z) (i := spot.toNat) hcm hzc
    rw [← hone] at hone_len hone_at hone_mem
    generalize cutS z none (some spot) ++ (⟨#[97 + (first.toNat + 7 * i) % 26]⟩ : Str) ++ cutS z (some spot) none = one at hone_len hone_at hone_mem
    have hos : one.length ≤ sizeLine := szl (by rw [cl_len]; omega)
    -- append
    refine ⟨_, rfl, .inl ⟨rfl, _, SqL.of hD6⟩, _, rfl, b, l, 4, rfl, bx6.bag, by decide, by decide, fun e H8 e0 e1 bx8 => ⟨rfl, _, rfl, ?_⟩⟩
    have hD8 := bx8.keep D2 _ nDb hD6
    have fin : ∀ s : Str, isNm s → (cl s)[spot.toNat]? = some (97 + (first.toNat + 7 * i) % 26) → ∀ N : L2.St → Hp → Prop, (∀ (ss' : List Str) (x5 x8 : Option V) (H9 : Hp), Bx b l H H9 → H9 D2 = some (.lst (ss'.map V.str)) → ss'.length = i + 1 → (∀ j s, ss'[j]? = some s → isNm s ∧ (cl s)[spot.toNat]? = some (97 + (first.toNat + 7 * j) % 26)) → N [some (.ref b), some (.int n), some (.str "abcdefghijklmnopqrstuvwxyz"), some (.str z), some (.ref D2), x5, some (.int spot), some (.int first), x8] H9) → ∃ p xs v, V.ref D2 = .ref p ∧ [V.str s] = [v] ∧ H8 p = some (.lst xs) ∧ xs.length < sizeLine ∧ N [some (.ref b), some (.int n), some (.str "abcdefghijklmnopqrstuvwxyz"), some (.str z), some (.ref D2), some (.int (0 + (i : Int))), some (.int spot), some (.int first), some (.str one)] (upd H8 p (.lst (xs ++ [v]))) := by
      intro s h1 h2 N hN
      refine ⟨D2, _, _, rfl, rfl, hD8, szt (by rw [List.length_map]; omega), hN (ss ++ [s]) _ _ _ ⟨bx8.bag.of (upd_ne nDb.symm) (upd_ne nDl.symm), fun a o na ea => ?_⟩ (by rw [upd_same, List.map_append]; rfl) (by simp [hl]) fun j t ht => ?_⟩
      · rw [upd_ne (ne_of_none ea hD2H)]
        exact bx8.keep a o na (bx6.keep a o na ea)
      · by_cases hj : j < ss.length
        · rw [List.getElem?_append_left hj] at ht
          exact hss j t ht
        · have ej : j = i := by
            have := (List.getElem?_eq_some_iff.mp ht).1
            rw [List.length_append, List.length_singleton] at this
            omega
          subst ej
          rw [List.getElem?_append_right (by omega), hl, Nat.sub_self] at ht
          cases ht
          exact ⟨h1, h2⟩
    refine ite2 (fun c => ?_) (fun c => ?_)
    · refine ⟨_, rfl, _, rfl, _, _, rfl, rfl, _, rfl, _, rfl, hos, _, rfl, _, _, rfl, rfl, _, _, rfl, _, rfl, one, rfl, hos, ?_⟩
      have hge : spot + 1 ≤ (if (one.length : Int) - (0 + (i : Int)) > spot + 1 then (one.length : Int) - (0 + (i : Int)) else spot + 1) := by split <;> omega
      generalize (if (one.length : Int) - (0 + (i : Int)) > spot + 1 then (one.length : Int) - (0 + (i : Int)) else spot + 1) = m at hge
      have et := cl_take one (n := m) (by omega)
      refine fin _ ⟨?_, ?_, fun x hx => ?_⟩ ?_ _ fun ss' x5 x8 H9 a1 a2 a3 a4 => ⟨ss', x5, x8, rfl, a1, a2, a3, a4⟩
      · rw [et, List.length_take]; omega
      · rw [et, List.length_take]; omega
      · rw [et] at hx
        exact hone_mem x (List.mem_of_mem_take hx)
      · rw [et, List.getElem?_take_of_lt (by omega)]
        exact hone_at
    · refine ⟨_, rfl, ?_⟩
      exact fin _ ⟨by omega, by omega, hone_mem⟩ hone_at _ fun ss' x5 x8 H9 a1 a2 a3 a4 => ⟨ss', x5, x8, rfl, a1, a2, a3, a4⟩
  · obtain ⟨ss, x5, x8, rfl, bx6, hD6, hl, hss⟩ := hI
    refine ⟨_, rfl, q D2 ss H6 bx6 hD2H (by rw [dl_ne (tr.fresh hD2H)]; exact hD6) hl ⟨fun s hs => ?_, ?_⟩⟩
    · obtain ⟨j, hj⟩ := List.mem_iff_getElem?.mp hs
      exact (hss j s hj).1
    · refine nodup_of_key (fun j => some (97 + (first.toNat + 7 * j) % 26)) (fun s => (cl s)[spot.toNat]?) (fun j s h => (hss j s h).2) fun i j lt hj e => ?_
      have := Option.some.inj e
      omega
theorem ok__law_marks {f : Addr} {fd : FuncData} (T : Txt K mg) (F : Fun K "_law_marks" "_law_marks" s__law_marks f fd) : FnOk P w K mg base CX0 3 f fd ["_law_bag_here", "_law_many_here"] (sp_names Marks 36) := by
  obtain ⟨f__law_pull, fd__law_pull, F__law_pull, b__law_pull, g__law_pull⟩ := T.h__law_pull
  obtain ⟨f__law_of, fd__law_of, F__law_of, b__law_of, g__law_of⟩ := T.h__law_of
  have G__law_pull := ok__law_pull (P := P) (w := w) (base := base) T F__law_pull
  have G__law_ofS := ok__law_ofS (P := P) (w := w) (base := base) T F__law_of
  refine F.ok sc__law_marks (fun vs H Q E h => ?_) (fun cdv A outer s H vs Q E hr h => ?_)
  · obtain ⟨b, l, n, S, rfl, _⟩ := h
    rfl
  obtain ⟨b, l, n, S, rfl, hb, hbS, tr, hn0, hn1, q⟩ := h
  have hr__law_pull : Room 1 _ := hr.mono (by decide)
  have hr__law_of := hr
  refine ⟨_, (pss_cons (ps_set (i := 2) sc__law_marks.nd rfl (.inr rfl) pe_str)
      (pss_cons (ps_set (i := 3) sc__law_marks.nd rfl (.inr rfl) (pe_join pe_str (pe_lc (own := [("_law_k", 6)]) (g := gName 6) (by rfl) sc__law_marks.nd (pi_range1 (by rfl) T.m_range (pa_cons (pe_call G__law_pull hr__law_pull (by rfl) g__law_pull F__law_pull.kp b__law_pull .nil pass0 (pa_cons (pv 0) (pa_cons pe_int pa_nil))) pa_nil)) (blkOk_by (own := [("_law_k", 6)]) (N := N__law_marks) (sc := defScope s__law_marks) (by decide +kernel)) (fun _ _ _ _ _ => pg_name (i := 6) sc__law_marks.nd rfl (.inl rfl)) (fun _ _ _ _ _ => pts_nil) (fun _ _ _ _ _ => (pe_call G__law_ofS hr__law_of (by rfl) g__law_of F__law_of.kp b__law_of .nil pass0 (pa_cons (pv 0) (pa_cons (pv 2) pa_nil)))))))
      (pss_cons (ps_asg (pe_tup (pa_cons (pe_call G__law_pull hr__law_pull (by rfl) g__law_pull F__law_pull.kp b__law_pull .nil pass0 (pa_cons (pv 0) (pa_cons (pe_op op_add (pe_callB call_len_str (by rfl) T.m_len PySem.boot_len (pa_cons (pv 3) pa_nil)) pe_int) pa_nil))) (pa_cons (pe_call G__law_pull hr__law_pull (by rfl) g__law_pull F__law_pull.kp b__law_pull .nil pass0 (pa_cons (pv 0) (pa_cons pe_int pa_nil))) pa_nil))) (pg_tup rfl (pgs_cons (pg_name (i := 4) sc__law_marks.nd rfl (.inr rfl)) (pgs_cons (pg_name (i := 5) sc__law_marks.nd rfl (.inr rfl)) pgs_nil))))
      (pss_one (ps_ret (pe_lc (own := [("_law_k", 6)]) (g := gName 6) (by rfl) sc__law_marks.nd (pi_range1 (by rfl) T.m_range (pa_cons (pv 1) pa_nil)) (blkOk_by (own := [("_law_k", 6)]) (N := N__law_marks) (sc := defScope s__law_marks) (by decide +kernel)) (fun _ _ _ _ _ => pg_name (i := 6) sc__law_marks.nd rfl (.inl rfl)) (fun _ _ _ _ _ => pts_nil) (fun _ _ _ _ _ => (pe_op op_add_str (pe_op op_add_str (pe_slice sl_str (pv 3) po_none (po_some (pv 4))) (pe_ix ix_str (pv 2) (pe_op op_modN (pe_op op_add (pv 5) (pe_op op_mul pe_int (pv 6))) pe_int) (fun _ _ => rfl))) (pe_slice sl_str (pv 3) (po_some (pv 4)) po_none))))))))), ?_⟩
  refine ⟨⟨_, rfl⟩, _, rfl, b, l, 8, rfl, hb, by decide, by decide, fun d H1 d0 d1 bx1 => ⟨d, rfl, by omega, by omega, fun D hD => ?_⟩⟩
  refine lc_bag (walk_range (lo := 0) (n := d.toNat)) [b] List.mem_cons_self bx1.bag hD (fun y _ => ∃ c, y = .str ⟨#[c]⟩ ∧ c ∈ cl "abcdefghijklmnopqrstuvwxyz0123456789") (fun _ _ _ _ h => h) (fun _ _ => trivial) (by omega) (fun i x H2 H3 Qe Z hi bx2 sm hDl hq hy => ?_) (fun H2 ys bx2 hl hD2 hp => ?_)
  · obtain ⟨rfl, rfl⟩ := hy
    refine ⟨rfl, yes ?_⟩
    exact ⟨_, rfl, _, rfl, b, l, _, rfl, bx2.bag, by decide, by decide, fun c H4 hc bx4 => hq _ H4 bx4 ⟨c, rfl, hc⟩⟩
  obtain ⟨ss, rfl, hss, hsum, hjl, hzc⟩ := stem_of hp
  refine ⟨_, D, ss, rfl, rfl, .inl (SqL.of hD2), by rw [hsum]; show _ + ss.length * 0 ≤ 16777216; omega, ?_⟩
  have bx := bx1.trans bx2
  have hz7 : (cl (Txt.join "" ss)).length ≤ 7 := by omega
  generalize Txt.join "" ss = z at hz7 hzc
  have hzl : z.length = (cl z).length := rfl
  have hzs : z.length ≤ sizeLine := szl (by omega)
  refine ⟨_, rfl, _, rfl, z, rfl, hzs, _, _, rfl, rfl, b, l, _, rfl, bx.bag, by omega, by omega, fun spot H4 s0 s1 bx4 => ⟨_, rfl, b, l, 36, rfl, bx4.bag, by decide, by decide, fun first H5 f0 f1 bx5 => ⟨by show 2 ≤ sizeLine; decide, fun tp htp => ⟨tp, _, rfl, .inl (.inl upd_same), rfl, _, _, rfl, _, _, rfl, rfl, ?_⟩⟩⟩⟩
  have bxA := ((bx.trans bx4).trans bx5).trans (Bx.new (o := .tup [.int spot, .int first]) bx5.bag htp)
  have s1' : spot ≤ ((cl z).length : Int) := by omega
  refine ⟨_, rfl, n, rfl, by omega, by omega, fun D2 hD2 => ?_⟩
  have hD2H : H D2 = none := bxA.free hD2
  let sg : Nat → Nat := fun m => if m < 26 then 97 + m else 22 + m
  let wd : Nat → Str := fun i => cutS z none (some spot) ++ ⟨#[sg ((first.toNat + 5 * i) % 36)]⟩ ++ cutS z (some spot) none
  refine lc_val (walk_range (lo := 0) (n := n.toNat)) hD2 (fun i => .str (wd i)) (fun _ _ => trivial) (by omega) (fun i x H6 H7 Qe Z hi sm hq hy => ?_) (fun H6 sm hL => ?_)
  · obtain ⟨rfl, rfl⟩ := hy
    have hm : ((first + 5 * (0 + (i : Int))).fmod 36) = (((first.toNat + 5 * i) % 36 : Nat) : Int) := by
      rw [Int.fmod_eq_emod_of_nonneg _ (by omega)]
      omega
    have hc := sgn_at ((first.toNat + 5 * i) % 36) (by omega)
    have hcz := cutS_length z
    have l1 := hcz none (some spot)
    have l2 := hcz (some spot) none
    refine ⟨rfl, yes ?_⟩
    refine ⟨_, rfl, _, rfl, spot, rfl, z, rfl, hzs, _, rfl, _, rfl, _, rfl, _, _, rfl, rfl, .inl ⟨by decide, by decide⟩, _, _, rfl, rfl, _, _, rfl, rfl, (by show (36 : Int) ≠ 0; decide), _, _, _, rfl, rfl, by decide, at_code (by rw [hm]; omega) (by rw [hm, Int.toNat_natCast]; exact hc), _, _, rfl, rfl, szl (by show _ + 1 ≤ _; omega), ?_⟩
    have e3 : (cutS z none (some spot) ++ (⟨#[sg ((first.toNat + 5 * i) % 36)]⟩ : Str)).length = (cutS z none (some spot)).length + 1 := strLen_append _ _
    exact ⟨_, rfl, _, rfl, spot, rfl, z, rfl, hzs, _, _, rfl, rfl, szl (Nat.le_trans (Nat.add_le_add_right (Nat.le_of_eq e3) _) (by omega)), hq _ (Same.refl _)⟩
  · have eL : (List.range n.toNat).map (fun i => V.str (wd i)) = ((List.range n.toNat).map wd).map V.str := by rw [List.map_map]; rfl
    rw [eL] at hL
    refine q D2 _ H6 (bxA.trans (Bx.ofSame bxA.bag sm)) hD2H (by rw [dl_ne (tr.fresh hD2H)]; exact hL) (by simp) ⟨fun s hs => ?_, ?_⟩
    · obtain ⟨i, hi, rfl⟩ := List.mem_map.mp hs
      have hcm : sg ((first.toNat + 5 * i) % 36) ∈ cl "abcdefghijklmnopqrstuvwxyz0123456789" := List.mem_of_getElem? (sgn_at ((first.toNat + 5 * i) % 36) (by omega))
      have hone := put_sign (z := z) (c := sg ((first.toNat + 5 * i) % 36)) s0 s1'
      have h1 := put_len (l := cl z) (c := sg ((first.toNat + 5 * i) % 36)) (i := spot.toNat) (by omega)
      have h2 := put_mem (l := cl z) (i := spot.toNat) hcm hzc
      rw [← hone] at h1 h2
      exact ⟨by show 1 ≤ (cl (wd i)).length; rw [show (cl (wd i)).length = _ from h1]; omega, by show (cl (wd i)).length ≤ 8; rw [show (cl (wd i)).length = _ from h1]; omega, h2⟩
    · refine nodup_of_key (fun j => some (sg ((first.toNat + 5 * j) % 36))) (fun s => (cl s)[spot.toNat]?) (fun j s h => ?_) fun i j lt hj e => ?_
      · rw [List.getElem?_map] at h
        by_cases hj : j < n.toNat
        · rw [List.getElem?_range hj] at h
          cases h
          have hone := put_sign (z := z) (c := sg ((first.toNat + 5 * j) % 36)) s0 s1'
          have h1 := put_at (l := cl z) (c := sg ((first.toNat + 5 * j) % 36)) (i := spot.toNat) (by omega)
          rw [← hone] at h1
          exact h1
        · rw [List.getElem?_eq_none (by simpa using hj)] at h
          cases h
      · rw [List.length_map, List.length_range] at hj
        have e1 : sg ((first.toNat + 5 * i) % 36) = sg ((first.toNat + 5 * j) % 36) := Option.some.inj e
        have e2 : (if (first.toNat + 5 * i) % 36 < 26 then 97 + (first.toNat + 5 * i) % 36 else 22 + (first.toNat + 5 * i) % 36) = (if (first.toNat + 5 * j) % 36 < 26 then 97 + (first.toNat + 5 * j) % 36 else 22 + (first.toNat + 5 * j) % 36) := e1
        split at e2 <;> split at e2 <;> omega
end
end Hr

set_option Elab.async false
set_option linter.all false
set_option maxRecDepth 100000
set_option maxHeartbeats 4000000
namespace Hr
open PySem PySem.Spec PyProof.Rows L2
section
variable {P : Program} {w : World} {K : PySem.W.Frag} {mg : Str → Option Value} {base : Heap}
def FOk (fs : List Fld) : Prop := (∀ f ∈ fs, isNm f.1 ∧ f.1 ≠ "any" ∧ f.1 ≠ "none" ∧ Marks f.2 ∧ 1 ≤ f.2.length ∧ f.2.length ≤ 3) ∧ (fs.map (·.1)).Nodup ∧ 1 ≤ fs.length
def sp_fields (K : PySem.W.Frag) : Sp := fun vs H Q _ => ∃ (b l : Addr) (n : Int) (S : List Addr), vs = [.ref b, .int n] ∧ Bag H b l ∧ b ∈ S ∧ Tr H S ∧ 1 ≤ n ∧ n ≤ 25 ∧
  ∀ (v : V) (fs : List Fld) (H' : Hp), Bx b l H H' → Dp K (dl H' S) v (fldsD fs) → FOk fs → (fs.length : Int) ≤ n → Q v H'
theorem ok__law_fields {f : Addr} {fd : FuncData} (T : Txt K mg) (F : Fun K "_law_fields" "_law_fields" s__law_fields f fd) : FnOk P w K mg base CX0 4 f fd ["_law_bag_here", "_law_most"] (sp_fields K) := by
  obtain ⟨f__law_names, fd__law_names, F__law_names, b__law_names, g__law_names⟩ := T.h__law_names
  obtain ⟨f__law_marks, fd__law_marks, F__law_marks, b__law_marks, g__law_marks⟩ := T.h__law_marks
  obtain ⟨f__law_pull, fd__law_pull, F__law_pull, b__law_pull, g__law_pull⟩ := T.h__law_pull
  have G__law_pull := ok__law_pull (P := P) (w := w) (base := base) T F__law_pull
  have G__law_names := ok__law_names (P := P) (w := w) (base := base) T F__law_names
  have G__law_marks := ok__law_marks (P := P) (w := w) (base := base) T F__law_marks
  refine F.ok sc__law_fields (fun vs H Q E h => ?_) (fun cdv A outer s H vs Q E hr h => ?_)
  · obtain ⟨b, l, n, S, rfl, _⟩ := h
    rfl
  obtain ⟨b, l, n, S, rfl, hb, hbS, tr, hn0, hn1, q⟩ := h
  have hr__law_pull : Room 1 _ := hr.mono (by decide)
  have hr__law_names := hr
  have hr__law_marks := hr
  refine ⟨_, (pss_cons (ps_setLc (i := 2) (own := [("_law_name", 3)]) (g := gName 3) rfl sc__law_fields.nd rfl rfl (sw_true rfl rfl rfl (by decide +kernel)) (pi_listK (K := K) (pe_call G__law_names hr__law_names (by rfl) g__law_names F__law_names.kp b__law_names .nil pass0 (pa_cons (pv 0) (pa_cons (pe_op op_add pe_int (pe_call G__law_pull hr__law_pull (by rfl) g__law_pull F__law_pull.kp b__law_pull .nil pass0 (pa_cons (pv 0) (pa_cons (pv 1) pa_nil)))) pa_nil)))) (blkOk_by (own := [("_law_name", 3)]) (N := N__law_fields) (sc := defScope s__law_fields) (by decide +kernel)) (fun _ _ _ _ _ => pg_name (i := 3) sc__law_fields.nd rfl (.inl rfl)) (fun _ _ _ _ _ => (pts_one (pt_cmpR (op_notIn_seqK (K := K)) (pv 3) (pe_tup (pa_cons pe_str (pa_cons pe_str pa_nil))) (by rfl)))) (fun _ _ _ _ _ => (pv 3)))
      (pss_cons (ps_set (i := 2) sc__law_fields.nd rfl (.inl rfl) (pe_ifExp (pt_cmpR (op_neDK (K := K) hr.units) (pv 2) (pe_lst pa_nil) (nomark _)) (pv 2) (pe_lst (pa_cons pe_str pa_nil))))
      (pss_one (ps_ret (pe_lc (own := [("_law_name", 3)]) (g := gName 3) (by rfl) sc__law_fields.nd (pi_listK (K := K) (pv 2)) (blkOk_by (own := [("_law_name", 3)]) (N := N__law_fields) (sc := defScope s__law_fields) (by decide +kernel)) (fun _ _ _ _ _ => pg_name (i := 3) sc__law_fields.nd rfl (.inl rfl)) (fun _ _ _ _ _ => pts_nil) (fun _ _ _ _ _ => (pe_tup (pa_cons (pv 3) (pa_cons (pe_call G__law_marks hr__law_marks (by rfl) g__law_marks F__law_marks.kp b__law_marks .nil pass0 (pa_cons (pv 0) (pa_cons (pe_op op_add pe_int (pe_call G__law_pull hr__law_pull (by rfl) g__law_pull F__law_pull.kp b__law_pull .nil pass0 (pa_cons (pv 0) (pa_cons pe_int pa_nil)))) pa_nil))) pa_nil))))))))), ?_⟩
  refine ⟨_, rfl, _, rfl, _, rfl, b, l, n, rfl, hb, hn0, by omega, fun d H1 d0 d1 bx1 => ⟨1, d, rfl, rfl, b, l, 1 + d, S, rfl, bx1.bag, hbS, tr.bx bx1, by omega, by omega, fun p ss H2 bx2 hp hpS hlen hok => ⟨p, rfl, ⟨_, SqL.of (dl_some hpS).2⟩, fun D hD => ?_⟩⟩⟩
  have bxA := bx1.trans bx2
  have hp2 := (dl_some hpS).2
  refine lc_filt (xs := ss.map V.str) walk_list hD (fun v => v) (fun v => !inV v [.str "any", .str "none"]) (fun H' s' => s'.seq (SqL.of hp2)) (by rw [List.length_map]; omega) (fun i x H3 R Z hx sm hR hZ => ?_) (fun H3 sm hL => ?_)
  · obtain ⟨s, hs, rfl⟩ := str_at hx
    refine ⟨rfl, _, rfl, by show 2 ≤ sizeLine; decide, fun t ht => ⟨t, _, rfl, .inr (.inl (.inl upd_same)), rfl, rfl, _, rfl, ?_⟩⟩
    have st := same_new (o := .tup [.str "any", .str "none"]) ht
    refine ite2 (fun c => ⟨_, rfl, hR c _ st⟩) fun c => hZ (Bool.eq_false_iff.mpr c) _ st
  have eL : ((ss.map V.str).filter fun v => !inV v [.str "any", .str "none"]).map (fun v => v) = (ss.filter notW).map V.str := by
    rw [List.map_id', List.filter_map]
    rfl
  rw [eL] at hL
  have hDH : H D = none := bxA.free hD
  have bxB := bxA.trans (Bx.ofSame bxA.bag sm)
  have hLS : dl H3 S D = some (.lst ((ss.filter notW).map V.str)) := by rw [dl_ne (tr.fresh hDH)]; exact hL
  have hsub : ∀ s ∈ ss.filter notW, isNm s ∧ s ≠ "any" ∧ s ≠ "none" := fun s hs => by
    obtain ⟨h1, h2⟩ := List.mem_filter.mp hs
    exact ⟨hok.1 s h1, notW_iff.mp h2⟩
  have hnd : (ss.filter notW).Nodup := hok.2.filter _
  have hfl : (ss.filter notW).length ≤ n.toNat := by
    have := List.length_filter_le notW ss
    omega
  generalize ss.filter notW = ns at hL hLS hsub hnd hfl
  dsimp only [gName]
  refine seqI (fun σ' H' => ∃ (a2 : Addr) (ns : List Str), σ' = [some (.ref b), some (.int n), some (.ref a2), none] ∧ Bx b l H H' ∧ dl H' S a2 = some (.lst (ns.map V.str)) ∧ (∀ s ∈ ns, isNm s ∧ s ≠ "any" ∧ s ≠ "none") ∧ ns.Nodup ∧ 1 ≤ ns.length ∧ ns.length ≤ n.toNat) ?_ ?_
  rotate_left
  · intro N hN
    refine ⟨_, rfl, Nat.zero_le _, fun e he => ?_⟩
    have se := same_new (o := .lst []) he
    refine ⟨.list (ns.map PyData.str), .list [], .lst (SqL.of (se _ _ hL)) (dpa_strs ns), .lst (SqL.of upd_same) .nil, shaped_strs (fun s hs => (hsub s hs).1.ok) (by omega), rfl, _, rfl, ?_⟩
    rw [eqv_nil]
    refine ite2 (fun c => ⟨_, rfl, ?_⟩) fun c => ⟨by show 1 ≤ sizeLine; decide, fun r hr' => ?_⟩
    · refine hN _ _ ⟨D, ns, rfl, bxB.trans (Bx.ofSame bxB.bag se), (dl_mono se) _ _ hLS, hsub, hnd, ?_, hfl⟩
      cases ns with
      | nil => simp at c
      | cons x r => simp
    · have sr := same_new (o := .lst [.str "role"]) hr'
      have bxC := bxB.trans (Bx.ofSame bxB.bag (se.trans sr))
      have hrH : H r = none := (bxB.trans (Bx.ofSame bxB.bag se)).free hr'
      refine hN _ _ ⟨r, ["role"], rfl, bxC, by rw [dl_ne (tr.fresh hrH), upd_same]; rfl, fun s hs => ?_, by simp, by simp, by show 1 ≤ _; omega⟩
      rw [List.mem_singleton.mp hs]
      exact ⟨⟨by decide, by decide, by decide⟩, by decide, by decide⟩
  rintro σ' H4 ⟨a2, ns, rfl, bx4, ha2, hnm, hnd, hn1', hnn⟩
  have ha2H := (dl_some ha2).2
  have nab : a2 ≠ b := fun z => (dl_some ha2).1 (by rw [z]; exact hbS)
  refine ⟨_, rfl, a2, rfl, ⟨_, SqL.of ha2H⟩, fun D3 hD3 => ?_⟩
  have hD3H : H D3 = none := bx4.free hD3
  refine lc_bagI (walk_list (xs := ns.map V.str)) S hbS bx4.bag hD3 (fun i y G => ∃ f : Fld, ns[i]? = some f.1 ∧ Dp K G y (fldD f) ∧ Marks f.2 ∧ 1 ≤ f.2.length ∧ f.2.length ≤ 3) (fun i y G G' sm ⟨f, h1, h2, h3⟩ => ⟨f, h1, dp_mono sm h2, h3⟩) (fun H' bx => bx_seq bx nab (SqL.of ha2H)) (by rw [List.length_map]; omega) (fun i x H5 H6 Qe Z hi bx5 sm hDl hq hy => ?_) (fun H5 ys bx5 hyl hD5 hp => ?_)
  · obtain ⟨rfl, hx⟩ := hy
    obtain ⟨nm, hnmi, rfl⟩ := str_at hx
    obtain ⟨xsD, hxD⟩ := hDl
    have trD : Tr H6 (D3 :: S) := ((tr.bx bx4).bx bx5).cons hxD
    refine ⟨rfl, yes ?_⟩
    refine ⟨_, rfl, _, rfl, _, rfl, b, l, 3, rfl, bx5.bag, by decide, by decide, fun d2 H7 d20 d21 bx7 => ⟨1, d2, rfl, rfl, b, l, 1 + d2, D3 :: S, rfl, bx7.bag, List.mem_cons_of_mem _ hbS, trD.bx bx7, by omega, by omega, fun p3 ms H8 bx8 hp3 hp3S hml hmo => ⟨by show 2 ≤ sizeLine; decide, fun t ht => ?_⟩⟩⟩
    have trE := (trD.bx bx7).bx bx8
    refine hq _ _ ((bx7.trans bx8).trans (Bx.new bx8.bag ht)) ⟨(nm, ms), hnmi, .tup (SqT.of (dl_upd_at trE ht)) (.cons (.str _) (.cons (.lst (SqL.of (dl_same_new trE ht _ _ hp3S)) (dpa_strs ms)) .nil)), hmo, ?_, ?_⟩
    · show 1 ≤ ms.length
      omega
    · show ms.length ≤ 3
      omega
  · rw [List.length_map] at hyl
    obtain ⟨fs, hfl, hfs⟩ := choose_list (R := fun i y (f : Fld) => ns[i]? = some f.1 ∧ Dp K (dl H5 (D3 :: S)) y (fldD f) ∧ Marks f.2 ∧ 1 ≤ f.2.length ∧ f.2.length ≤ 3) hp
    have at_f : ∀ (i : Nat) f, fs[i]? = some f → ∃ y, ys[i]? = some y := fun i f hf => by
      have := (List.getElem?_eq_some_iff.mp hf).1
      exact ⟨_, List.getElem?_eq_getElem (by omega)⟩
    have en : fs.map (·.1) = ns := by
      apply List.ext_getElem?
      intro i
      rw [List.getElem?_map]
      cases ef : fs[i]? with
      | none =>
        have : fs.length ≤ i := List.getElem?_eq_none_iff.mp ef
        rw [List.getElem?_eq_none (by omega)]
        rfl
      | some f =>
        obtain ⟨y, hy⟩ := at_f i f ef
        rw [(hfs i y f hy ef).1]
        rfl
    refine q _ fs H5 (bx4.trans bx5) (.lst (SqL.of (by rw [dl_ne (tr.fresh hD3H)]; exact hD5)) (dpa_of (by rw [List.length_map, hfl]) fun i v d hv hd => ?_)) ⟨fun f hf => ?_, by rw [en]; exact hnd, by omega⟩ (by omega)
    · rw [List.getElem?_map] at hd
      cases ef : fs[i]? with
      | none => rw [ef] at hd; cases hd
      | some f =>
        rw [ef] at hd
        cases hd
        exact dp_mono (dl_sub fun a ha => List.mem_cons_of_mem _ ha) (hfs i v f hv ef).2.1
    · obtain ⟨i, ef⟩ := List.mem_iff_getElem?.mp hf
      obtain ⟨y, hy⟩ := at_f i f ef
      have h := hfs i y f hy ef
      have h1 := hnm f.1 (List.mem_of_getElem? h.1)
      exact ⟨h1.1, h1.2.1, h1.2.2, h.2.2⟩
def sp_test (K : PySem.W.Frag) : Sp := fun vs H Q _ => ∃ (b l a : Addr) (S : List Addr) (fs : List Fld), vs = [.ref b, .ref a] ∧ Bag H b l ∧ b ∈ S ∧ Tr H S ∧ Dp K (dl H S) (.ref a) (fldsD fs) ∧ FOk fs ∧ fs.length ≤ 1000 ∧
  ∀ (v : V) (fl : Fld) (m : Str) (H' : Hp), Bx b l H H' → fl ∈ fs → m ∈ fl.2 → Dp K (dl H' S) v (toD (.test fl.1 m)) → Q v H'
theorem ok__law_test {f : Addr} {fd : FuncData} (T : Txt K mg) (F : Fun K "_law_test" "_law_test" s__law_test f fd) : FnOk P w K mg base CX0 3 f fd ["_law_bag_here", "_law_fields_here"] (sp_test K) := by
  obtain ⟨f__law_of, fd__law_of, F__law_of, b__law_of, g__law_of⟩ := T.h__law_of
  have G__law_ofL := ok__law_ofL (P := P) (w := w) (base := base) T F__law_of
  refine F.ok sc__law_test (fun vs H Q E h => ?_) (fun cdv A outer s H vs Q E hr h => ?_)
  · obtain ⟨b, l, a, S, fs, rfl, _⟩ := h
    rfl
  obtain ⟨b, l, a, S, fs, rfl, hb, hbS, tr, hD, hok, hfl, q⟩ := h
  have hr__law_of := hr
  refine ⟨_, (pss_cons (ps_asg (pe_call G__law_ofL hr__law_of (by rfl) g__law_of F__law_of.kp b__law_of .nil pass0 (pa_cons (pv 0) (pa_cons (pv 1) pa_nil))) (pg_tup rfl (pgs_cons (pg_name (i := 2) sc__law_test.nd rfl (.inl rfl)) (pgs_cons (pg_name (i := 3) sc__law_test.nd rfl (.inl rfl)) pgs_nil))))
      (pss_one (ps_ret (pe_tup (pa_cons pe_str (pa_cons (pv 2) (pa_cons (pe_call G__law_ofL hr__law_of (by rfl) g__law_of F__law_of.kp b__law_of .nil pass0 (pa_cons (pv 0) (pa_cons (pv 3) pa_nil))) pa_nil))))))), ?_⟩
  cases hD with
  | @lst _ xs _ hs hall =>
    have hlen : xs.length = fs.length := by rw [dpa_len hall, List.length_map]
    have := hok.2.2
    refine ⟨_, rfl, _, rfl, b, l, a, xs, rfl, hb, of_seq hbS hs, by omega, by omega, fun x H1 hx bx1 => ?_⟩
    obtain ⟨i, hi⟩ := List.mem_iff_getElem?.mp hx
    obtain ⟨d, hd, hdx⟩ := dpa_get hall hi
    rw [List.getElem?_map] at hd
    cases ef : fs[i]? with
    | none => rw [ef] at hd; cases hd
    | some fl =>
      rw [ef] at hd
      cases hd
      have hflm : fl ∈ fs := List.mem_of_getElem? ef
      have hdx1 := dp_mono (bx1.same hbS) hdx
      cases hdx1 with
      | @tup t ys _ ht hyall =>
        cases hyall with
        | cons h1 h2 =>
          cases h1
          cases h2 with
          | cons h3 h4 =>
            cases h4
            cases h3 with
            | @lst m zs _ hm hmall =>
              refine ⟨t, _, rfl, Same.seqT dl_le ht, rfl, _, _, rfl, _, _, rfl, rfl, ?_⟩
              have hzl : zs.length = fl.2.length := by rw [dpa_len hmall, List.length_map]
              have hf1 := hok.1 fl hflm
              refine ⟨_, rfl, _, rfl, _, rfl, b, l, m, zs, rfl, bx1.bag, of_seq hbS hm, by omega, by omega, fun y H2 hy bx2 => ⟨by show 3 ≤ sizeLine; decide, fun t2 ht2 => ?_⟩⟩
              obtain ⟨j, hj⟩ := List.mem_iff_getElem?.mp hy
              obtain ⟨d2, hd2, hdy⟩ := dpa_get hmall hj
              rw [List.getElem?_map] at hd2
              cases em : fl.2[j]? with
              | none => rw [em] at hd2; cases hd2
              | some mk =>
                rw [em] at hd2
                cases hd2
                cases hdy
                have tr2 := (tr.bx bx1).bx bx2
                refine q _ fl mk _ ((bx1.trans bx2).trans (Bx.new bx2.bag ht2)) hflm (List.mem_of_getElem? em) ?_
                unfold toD
                exact .tup (SqT.of (dl_upd_at tr2 ht2)) (.cons (.str _) (.cons (.str _) (.cons (.str _) .nil)))
def sp_tree (K : PySem.W.Frag) (n : Nat) : Sp := fun vs H Q _ => ∃ (b l a : Addr) (m : Int) (S : List Addr) (fs : List Fld), vs = [.ref b, .ref a, .int m] ∧ Bag H b l ∧ b ∈ S ∧ Tr H S ∧ Dp K (dl H S) (.ref a) (fldsD fs) ∧ FOk fs ∧ fs.length ≤ 1000 ∧ 1 ≤ m ∧ m ≤ n ∧
  ∀ (v : V) (c : Cd) (H' : Hp), Bx b l H H' → Gd fs m.toNat c → Dp K (dl H' S) v (toD c) → Q v H'
theorem ok__law_tree_step {f : Addr} {fd : FuncData} {n : Nat} (T : Txt K mg) (F : Fun K "_law_tree" "_law_tree" s__law_tree f fd) (G__law_tree : FnOk P w K mg base CX0 (n + 4) f fd ["_law_bag_here", "_law_fields_here", "_law_deep"] (sp_tree K n)) (b__law_tree : Binds K fd ["_law_bag_here", "_law_fields_here", "_law_deep"] []) (g__law_tree : mg "_law_tree" = some (.ref f)) : FnOk P w K mg base CX0 (n + 5) f fd ["_law_bag_here", "_law_fields_here", "_law_deep"] (sp_tree K (n + 1)) := by
  obtain ⟨f__law_pull, fd__law_pull, F__law_pull, b__law_pull, g__law_pull⟩ := T.h__law_pull
  obtain ⟨f__law_test, fd__law_test, F__law_test, b__law_test, g__law_test⟩ := T.h__law_test
  obtain ⟨f__law_of, fd__law_of, F__law_of, b__law_of, g__law_of⟩ := T.h__law_of
  have F__law_tree := F
  have G__law_pull := ok__law_pull (P := P) (w := w) (base := base) T F__law_pull
  have G__law_ofL := ok__law_ofL (P := P) (w := w) (base := base) T F__law_of
  have G__law_test := ok__law_test (P := P) (w := w) (base := base) T F__law_test
  refine F.ok sc__law_tree (fun vs H Q E h => ?_) (fun cdv A outer s H vs Q E hr h => ?_)
  · obtain ⟨b, l, a, m, S, fs, rfl, _⟩ := h
    rfl
  obtain ⟨b, l, a, m, S, fs, rfl, hb, hbS, tr, hD, hok, hfl, hm1, hmn, q⟩ := h
  have hr__law_pull : Room 1 _ := hr.mono (by omega)
  have hr__law_of : Room 2 _ := hr.mono (by omega)
  have hr__law_test : Room 3 _ := hr.mono (by omega)
  have hr__law_tree : Room (n + 4) _ := hr
  refine ⟨_, (pss_cons (ps_set (i := 3) sc__law_tree.nd rfl (.inl rfl) (pe_call G__law_pull hr__law_pull (by rfl) g__law_pull F__law_pull.kp b__law_pull .nil pass0 (pa_cons (pv 0) (pa_cons pe_int pa_nil))))
      (pss_cons (ps_if (PW.pt (pw_or (pt_cmpR op_lt (pv 2) pe_int (nomark _)) (pw_or1 (pt_cmpR op_lt (pv 3) pe_int (nomark _))))) (pss_one (ps_ret (pe_ifExp (PW.pt (pw_and (pt_cmpR op_eq (pv 3) pe_int (nomark _)) (pw_and1 (pt_cmpR op_eq (pe_call G__law_pull hr__law_pull (by rfl) g__law_pull F__law_pull.kp b__law_pull .nil pass0 (pa_cons (pv 0) (pa_cons pe_int pa_nil))) pe_int (nomark _))))) (pe_tup (pa_cons pe_str pa_nil)) (pe_call G__law_test hr__law_test (by rfl) g__law_test F__law_test.kp b__law_test .nil pass0 (pa_cons (pv 0) (pa_cons (pv 1) pa_nil)))))) pss_nil)
      (pss_cons (ps_if (pt_cmpR op_eq (pv 3) pe_int (nomark _)) (pss_one (ps_ret (pe_tup (pa_cons pe_str (pa_cons (pe_call G__law_tree hr__law_tree (by rfl) g__law_tree F__law_tree.kp b__law_tree .nil pass0 (pa_cons (pv 0) (pa_cons (pv 1) (pa_cons (pe_op op_sub (pv 2) pe_int) pa_nil)))) pa_nil))))) pss_nil)
      (pss_cons (ps_setLc (i := 4) (own := [("_law_k", 5)]) (g := gName 5) rfl sc__law_tree.nd rfl rfl (sw_true rfl rfl rfl (by decide +kernel)) (pi_range1 (by rfl) T.m_range (pa_cons (pe_op op_add pe_int (pe_call G__law_pull hr__law_pull (by rfl) g__law_pull F__law_pull.kp b__law_pull .nil pass0 (pa_cons (pv 0) (pa_cons pe_int pa_nil)))) pa_nil)) (blkOk_by (own := [("_law_k", 5)]) (N := N__law_tree) (sc := defScope s__law_tree) (by decide +kernel)) (fun _ _ _ _ _ => pg_name (i := 5) sc__law_tree.nd rfl (.inl rfl)) (fun _ _ _ _ _ => pts_nil) (fun _ _ _ _ _ => (pe_call G__law_tree hr__law_tree (by rfl) g__law_tree F__law_tree.kp b__law_tree .nil pass0 (pa_cons (pv 0) (pa_cons (pv 1) (pa_cons (pe_op op_sub (pv 2) pe_int) pa_nil))))))
      (pss_one (ps_ret (pe_callTy (call_tuple_ofK (K := K)) (by rfl) T.m_tuple (by decide +kernel) (pa_cons (pe_op op_cat (pe_lst (pa_cons (pe_call G__law_ofL hr__law_of (by rfl) g__law_of F__law_of.kp b__law_of .nil pass0 (pa_cons (pv 0) (pa_cons (pe_lst (pa_cons pe_str (pa_cons pe_str pa_nil))) pa_nil))) pa_nil)) (pv 4)) pa_nil)))))))), ?_⟩
  obtain ⟨k, rfl⟩ : ∃ k : Nat, m = k + 1 := ⟨(m - 1).toNat, by omega⟩
  have ek : ((k : Int) + 1).toNat = k + 1 := by omega
  rw [ek] at q
  refine ⟨_, rfl, b, l, 8, rfl, hb, by decide, by decide, fun way H1 w0 w1 bx1 => ?_⟩
  have leaf : ∀ N : V → Hp → Prop, (∀ v H', Q v H' → N v H') → tIf (tAnd (tTest (tOp rEq (tVar 3) (tC (.int 0)))) (tTest (tOp rEq (tCall sp_pull [] E0 (tCons (tVar 0) (tCons (tC (V.int 2)) tNil))) (tC (.int 0))))) (tTup (tCons (tC (.str "any")) tNil)) (tCall (sp_test K) [] E0 (tCons (tVar 0) (tCons (tVar 1) tNil))) [some (.ref b), some (.ref a), some (.int ((k : Int) + 1)), some (.int way), none, none] H1 N := by
    intro N hN
    have tst : ∀ H2, Bx b l H1 H2 → (tCall (sp_test K) [] E0 (tCons (tVar 0) (tCons (tVar 1) tNil))) [some (.ref b), some (.ref a), some (.int ((k : Int) + 1)), some (.int way), none, none] H2 N := fun H2 bx2 =>
      ⟨_, rfl, _, rfl, b, l, a, S, fs, rfl, bx2.bag, hbS, (tr.bx bx1).bx bx2, dp_mono ((bx1.trans bx2).same hbS) hD, hok, hfl, fun v fl mk H3 bx3 hfl' hmk hv => hN _ _ (q v (.test fl.1 mk) H3 ((bx1.trans bx2).trans bx3) ⟨fl, hfl', rfl, hmk⟩ hv)⟩
    refine ⟨_, rfl, rfl, _, rfl, ite2 (fun c => ?_) (fun c => ?_)⟩
    · refine ⟨_, rfl, b, l, 2, rfl, bx1.bag, by decide, by decide, fun e H2 e0 e1 bx2 => ⟨rfl, _, rfl, ite2 (fun c2 => ?_) (fun c2 => ?_)⟩⟩
      · refine ⟨by show 1 ≤ sizeLine; decide, fun t ht => hN _ _ (q _ .any _ ((bx1.trans bx2).trans (Bx.new bx2.bag ht)) trivial ?_)⟩
        unfold toD
        exact .tup (SqT.of (dl_upd_at ((tr.bx bx1).bx bx2) ht)) (.cons (.str _) .nil)
      · exact tst H2 bx2
    · exact tst H1 (Bx.refl bx1.bag)
  refine ⟨_, rfl, _, _, rfl, rfl, _, rfl, ite2 (fun c => ?_) (fun c => ?_)⟩
  · exact iteT (leaf _ fun _ _ h => h)
  have hk1 : 1 ≤ k := by
    have := of_decide_eq_false (Bool.eq_false_iff.mpr c)
    omega
  refine ⟨_, rfl, _, _, rfl, rfl, _, rfl, ite2 (fun c2 => ?_) (fun c2 => ?_)⟩
  · exact leaf _ fun _ _ h => h
  refine ⟨_, rfl, rfl, _, rfl, ite2 (fun c3 => ?_) (fun c3 => ?_)⟩
  · refine ⟨_, rfl, _, rfl, _, rfl, _, _, rfl, rfl, b, l, a, _, S, fs, rfl, bx1.bag, hbS, tr.bx bx1, dp_mono (bx1.same hbS) hD, hok, hfl, by omega, by omega, fun v cc H2 bx2 hcc hv => ⟨by show 2 ≤ sizeLine; decide, fun t ht => ?_⟩⟩
    refine q _ (.node "not" [cc]) _ ((bx1.trans bx2).trans (Bx.new bx2.bag ht)) ⟨.inl ⟨rfl, rfl⟩, fun x hx => ?_⟩ ?_
    · rw [List.mem_singleton.mp hx]
      have e : ((k : Int) + 1 - 1).toNat = k := by omega
      rw [e] at hcc
      exact hcc
    · unfold toD toDs toDs
      have tr2 := (tr.bx bx1).bx bx2
      exact .tup (SqT.of (dl_upd_at tr2 ht)) (.cons (.str _) (.cons (dp_mono (dl_same_new tr2 ht) hv) .nil))
  · refine ⟨_, rfl, b, l, 2, rfl, bx1.bag, by decide, by decide, fun e H2 e0 e1 bx2 => ⟨2, e, rfl, rfl, 2 + e, rfl, by omega, by omega, fun D hDn => ?_⟩⟩
    have bxA := bx1.trans bx2
    have hDH : H D = none := bxA.free hDn
    refine lc_bagI (walk_range (lo := 0) (n := (2 + e).toNat)) S hbS bxA.bag hDn (fun i y G => ∃ c, Gd fs k c ∧ Dp K G y (toD c)) (fun i y G G' sm ⟨c, h1, h2⟩ => ⟨c, h1, dp_mono sm h2⟩) (fun _ _ => trivial) (by omega) (fun i x H3 H4 Qe Z hi bx3 sm hDl hq hy => ?_) (fun H3 ys bx3 hyl hD3 hp => ?_)
    · obtain ⟨rfl, rfl⟩ := hy
      obtain ⟨xsD, hxD⟩ := hDl
      have trD : Tr H4 (D :: S) := ((tr.bx bxA).bx bx3).cons hxD
      refine ⟨rfl, yes ?_⟩
      refine ⟨_, rfl, _, rfl, _, rfl, _, _, rfl, rfl, b, l, a, _, D :: S, fs, rfl, bx3.bag, List.mem_cons_of_mem _ hbS, trD, dp_mono ((bxA.same hbS).trans sm) hD, hok, hfl, by omega, by omega, fun v cc H5 bx5 hcc hv => hq _ H5 bx5 ⟨cc, ?_, hv⟩⟩
      have e : ((k : Int) + 1 - 1).toNat = k := by omega
      rw [e] at hcc
      exact hcc
    · obtain ⟨cs, hcl, hcs⟩ := choose_list (R := fun i y (c : Cd) => Gd fs k c ∧ Dp K (dl H3 (D :: S)) y (toD c)) hp
      have bxB := bxA.trans bx3
      refine ⟨_, rfl, by show 2 ≤ sizeLine; decide, fun p hpn => ?_⟩
      have bp : Bx b l H3 (upd H3 p (.lst [.str "and", .str "or"])) := Bx.new bx3.bag hpn
      refine ⟨b, l, p, _, rfl, bp.bag, of_new bx3.bag hpn, by show 1 ≤ 2; decide, by show 2 ≤ 100000; decide, fun x H5 hx bx5 => ?_⟩
      have bxC := (bxB.trans bp).trans bx5
      have nDb : D ≠ b := hb.ne_new hDH
      have hD5 : H5 D = some (.lst ys) := bx5.keep D _ nDb (bp.keep D _ nDb hD3)
      obtain ⟨kk, rfl, hkk⟩ : ∃ kk : Str, x = .str kk ∧ (kk = "and" ∨ kk = "or") := by
        rcases List.mem_cons.mp hx with rfl | hx
        · exact ⟨_, rfl, .inl rfl⟩
        · rw [List.mem_singleton.mp hx]
          exact ⟨_, rfl, .inr rfl⟩
      refine ⟨by show 1 ≤ sizeLine; decide, fun p2 hp2 => ?_⟩
      have s2 := same_new (o := .lst [.str kk]) hp2
      refine ⟨_, rfl, p2, D, _, _, rfl, rfl, upd_same, s2 _ _ hD5, szl (by show 1 + ys.length ≤ _; omega), fun p3 hp3 => ?_⟩
      refine ⟨p3, _, rfl, .inl ⟨SqL.of upd_same, fun t ht => ?_⟩⟩
      have b2 := Bx.new (o := .lst [.str kk]) bxC.bag hp2
      have b3 := Bx.new (o := .lst ([V.str kk] ++ ys)) b2.bag hp3
      have b4 := Bx.new (o := .tup ([V.str kk] ++ ys)) b3.bag ht
      have bxD := ((bxC.trans b2).trans b3).trans b4
      refine q _ (.node kk cs) _ bxD ⟨.inr ⟨hkk, by omega, by omega⟩, fun x hx => ?_⟩ ?_
      · obtain ⟨i, hi⟩ := List.mem_iff_getElem?.mp hx
        have hil := (List.getElem?_eq_some_iff.mp hi).1
        exact (hcs i _ x (List.getElem?_eq_getElem (by omega)) hi).1
      · unfold toD
        rw [toDs_map]
        have tr4 := ((((tr.bx bxC).bx b2).bx b3))
        refine .tup (SqT.of (dl_upd_at tr4 ht)) (.cons (.str _) (dpa_of (by rw [List.length_map, hcl]; rfl) fun i v d hv hd => ?_))
        rw [List.getElem?_map] at hd
        cases ec : cs[i]? with
        | none => rw [ec] at hd; cases hd
        | some c =>
          rw [ec] at hd
          cases hd
          have h0 := (hcs i v c hv ec).2
          have h1 := dp_mono (dl_sub fun a ha => List.mem_cons_of_mem _ ha) h0
          exact dp_mono ((((bp.trans bx5).trans b2).trans b3).trans b4 |>.same hbS) h1
theorem ok__law_tree (T : Txt K mg) {f : Addr} {fd : FuncData} (F : Fun K "_law_tree" "_law_tree" s__law_tree f fd) (b : Binds K fd ["_law_bag_here", "_law_fields_here", "_law_deep"] []) (g : mg "_law_tree" = some (.ref f)) : ∀ n, FnOk P w K mg base CX0 (n + 4) f fd ["_law_bag_here", "_law_fields_here", "_law_deep"] (sp_tree K n)
  | 0 => by
    have no : ∀ vs H Q E, ¬ sp_tree K 0 vs H Q E := fun vs H Q E h => by
      obtain ⟨_, _, _, m, _, _, _, _, _, _, _, _, _, h1, h2, _⟩ := h
      omega
    exact ⟨fun vs H Q E h => absurd h (no vs H Q E), fun A outer s H args us vs Q E _ _ _ _ h => absurd h (no vs H Q E)⟩
  | n + 1 => ok__law_tree_step T F (ok__law_tree T F b g n) b g
end
end Hr

set_option Elab.async false
set_option linter.all false
set_option maxRecDepth 100000
set_option maxHeartbeats 4000000
namespace Hr
open PySem PySem.Spec PyProof.Rows L2
section
variable {P : Program} {w : World} {K : PySem.W.Frag} {mg : Str → Option Value} {base : Heap}
theorem ok_consists_of {f : Addr} {fd : FuncData} (T : Txt K mg) (F : Fun K "consists_of" "consists_of" s_consists_of f fd) : FnOk P w K mg base CX0 1 f fd ["text", "characters"] sp_consists := by
  refine F.ok sc_consists_of (fun vs H Q E h => ?_) (fun cdv A outer s H vs Q E hr h => ?_)
  · obtain ⟨t, cs, rfl, _⟩ := h
    rfl
  obtain ⟨t, cs, rfl, ht, q⟩ := h
  refine ⟨_, (pss_one (ps_ret (pe_and (pe_chain op_le op_le pe_int (pe_callB call_len_str (by rfl) T.m_len PySem.boot_len (pa_cons (pv 0) pa_nil)) (pe_gv (by rfl) T.c_MAX_NAME)) (pe_one (pe_callB (cr_allK (K := K) rfl) (by rfl) T.m_all (by decide +kernel) (pa_cons (pe_lc (own := [("character", 2)]) (g := gName 2) (by rfl) sc_consists_of.nd (pi_str (pv 0)) (blkOk_by (own := [("character", 2)]) (N := N_consists_of) (sc := defScope s_consists_of) (by decide +kernel)) (fun _ _ _ _ _ => pg_name (i := 2) sc_consists_of.nd rfl (.inl rfl)) (fun _ _ _ _ _ => pts_nil) (fun _ _ _ _ _ => (pe_cmpR op_in_sign (pv 2) (pv 1) (by rfl)))) pa_nil)))))), ?_⟩
  refine ⟨_, rfl, t, rfl, szl (Nat.le_trans ht (by decide)), 1, _, rfl, rfl, _, rfl, ?_⟩
  refine ite2 (fun c1 => ?_) (fun c1 => ?_)
  · refine ⟨_, _, rfl, rfl, _, rfl, ite2 (fun c2 => ?_) (fun c2 => ?_)⟩
    · refine ⟨_, rfl, t, rfl, fun D hD => ?_⟩
      refine lc_val walk_str hD (fun i => .bl (decide (t.cps.toList.getD i 0 ∈ cs.cps.toList))) (fun _ _ => trivial) (Nat.lt_of_le_of_lt (len_le t ht) (by decide)) (fun i x H1 H' Qe Z hi sm hq hy => ?_) (fun H1 sm hL => ?_)
      · obtain ⟨rfl, c, hc, rfl⟩ := hy
        refine ⟨rfl, yes ?_⟩
        refine ⟨_, rfl, _, rfl, c, cs, rfl, rfl, ?_⟩
        rw [← sign_at hc]
        exact hq _ (Same.refl _)
      · exact all_end rfl c1 c2 hL (q H1 sm)
    · have e : consists t cs = false := by
        unfold consists
        rw [c1, Bool.eq_false_iff.mpr c2]
        rfl
      exact e ▸ q _ (Same.refl _)
  · have e : consists t cs = false := by
      unfold consists
      rw [Bool.eq_false_iff.mpr c1]
      rfl
    exact ⟨_, rfl, iteF (e ▸ q _ (Same.refl _))⟩
theorem ok_is_name {f : Addr} {fd : FuncData} (T : Txt K mg) (F : Fun K "is_name" "is_name" s_is_name f fd) : FnOk P w K mg base CX0 2 f fd ["text"] (sp_word nameC) := by
  obtain ⟨f_consists_of, fd_consists_of, F_consists_of, b_consists_of, g_consists_of⟩ := T.h_consists_of
  have G_consists_of := ok_consists_of (P := P) (w := w) (base := base) T F_consists_of
  refine F.ok sc_is_name (fun vs H Q E h => ?_) (fun cdv A outer s H vs Q E hr h => ?_)
  · obtain ⟨t, rfl, _⟩ := h
    rfl
  obtain ⟨t, rfl, ht, q⟩ := h
  have hr_consists_of := hr
  refine ⟨_, (pss_one (ps_ret (pe_call G_consists_of hr_consists_of (by rfl) g_consists_of F_consists_of.kp b_consists_of .nil pass0 (pa_cons (pv 0) (pa_cons (pe_gv (by rfl) T.c_NAME_CHARACTERS) pa_nil))))), ?_⟩
  exact ⟨_, rfl, t, _, rfl, ht, q⟩
theorem ok_is_value {f : Addr} {fd : FuncData} (T : Txt K mg) (F : Fun K "is_value" "is_value" s_is_value f fd) : FnOk P w K mg base CX0 2 f fd ["text"] (sp_word valueC) := by
  obtain ⟨f_consists_of, fd_consists_of, F_consists_of, b_consists_of, g_consists_of⟩ := T.h_consists_of
  have G_consists_of := ok_consists_of (P := P) (w := w) (base := base) T F_consists_of
  refine F.ok sc_is_value (fun vs H Q E h => ?_) (fun cdv A outer s H vs Q E hr h => ?_)
  · obtain ⟨t, rfl, _⟩ := h
    rfl
  obtain ⟨t, rfl, ht, q⟩ := h
  have hr_consists_of := hr
  refine ⟨_, (pss_one (ps_ret (pe_call G_consists_of hr_consists_of (by rfl) g_consists_of F_consists_of.kp b_consists_of .nil pass0 (pa_cons (pv 0) (pa_cons (pe_gv (by rfl) T.c_VALUE_CHARACTERS) pa_nil))))), ?_⟩
  exact ⟨_, rfl, t, _, rfl, ht, q⟩
/-! the program's functions -/
def sp_partsT (K : PySem.W.Frag) : Sp := fun vs H Q _ => ∃ (v : V) (c : Cd) (n : Nat), vs = [v] ∧ Dp K H v (toD c) ∧ Wn n c ∧
  ∀ (p : Addr) (xs : List V) (H' : Hp), Same H H' → SqT K H' p xs → DpAll K H xs ((parts c).map toD) → Q (.ref p) H'
theorem ok_parts_of {f : Addr} {fd : FuncData} (T : Txt K mg) (F : Fun K "parts_of" "parts_of" s_parts_of f fd) : FnOk P w K mg base CX0 1 f fd ["condition"] (sp_partsT K) := by
  refine F.ok sc_parts_of (fun vs H Q E h => ?_) (fun cdv A outer s H vs Q E hr h => ?_)
  · obtain ⟨v, c, n, rfl, _⟩ := h
    rfl
  obtain ⟨v, c, n, rfl, hv, hw, q⟩ := h
  obtain ⟨m, rfl⟩ := hw.some
  obtain ⟨a, k, xs, rfl, hs, h1, h2, h3, h4⟩ := tree_open hv hw
  refine ⟨_, (pss_cons (ps_if (pt_cmpR (op_in_seqK (K := K)) (pe_ix (ix_tupK (K := K)) (pv 0) pe_int (fun _ _ => rfl)) (pe_tup (pa_cons pe_str (pa_cons pe_str pa_nil))) (by rfl)) (pss_one (ps_ret (pe_tup pa_nil))) pss_nil)
      (pss_one (ps_ret (pe_slice (sl_tupK (K := K)) (pv 0) (po_some pe_int) po_none)))), ?_⟩
  refine ⟨_, rfl, a, _, 0, .str k, rfl, rfl, hs, at0 _ _, by show 2 ≤ sizeLine; decide, fun t ht => ?_⟩
  have s1 := same_new (o := .tup [.str "any", .str "test"]) ht
  refine ⟨t, _, rfl, .inr (SqT.of upd_same), rfl, rfl, _, rfl, ite2 (fun c1 => ?_) (fun c1 => ?_)⟩
  · refine ⟨Nat.zero_le _, fun p hp => q p [] _ (s1.trans (same_new hp)) (SqT.of upd_same) ?_⟩
    rw [h1 c1]
    exact .nil
  · refine ⟨_, rfl, 1, rfl, a, _, rfl, Same.seqT s1 hs, fun z => absurd z (cut_tail_ne _ _), fun _ t2 ht2 => ?_⟩
    rw [cut_tail]
    exact q t2 xs _ (s1.trans (same_new ht2)) (SqT.of upd_same) (h2 (Bool.eq_false_iff.mpr c1))
/-- a new list of things as data; they do not lean on the list itself -/
def sp_listing (K : PySem.W.Frag) (g : Cd → List PyData) (n : Nat) : Sp := fun vs H Q _ => ∃ (v : V) (c : Cd), vs = [v] ∧ Dp K H v (toD c) ∧ Wn n c ∧ size c ≤ 10000 ∧
  ∀ (p : Addr) (xs : List V) (H' : Hp), Same H H' → H p = none → H' p = some (.lst xs) → DpAll K (dl H' [p]) xs (g c) → Q (.ref p) H'
theorem none_listing {g : Cd → List PyData} {f : Addr} {fd : FuncData} {ps : List Str} {k : Nat} : FnOk P w K mg base CX0 k f fd ps (sp_listing K g 0) := by
  have no : ∀ vs H Q E, ¬ sp_listing K g 0 vs H Q E := fun vs H Q E h => by
    obtain ⟨_, _, _, _, hw, _⟩ := h
    exact hw
  exact ⟨fun vs H Q E h => absurd h (no vs H Q E), fun A outer s H args us vs Q E _ _ _ _ h => absurd h (no vs H Q E)⟩
theorem one_list {H : Hp} {D : Addr} {xs : List V} (h : H D = some (.lst xs)) : Lists H [D] := fun a ha => by
  rw [List.mem_singleton.mp ha]
  exact ⟨_, h⟩
/-- what stood ahead of D stands in a heap without D -/
theorem same_dl {H H' : Hp} {D : Addr} (s : Same H H') (hD : H D = none) : Same H (dl H' [D]) := fun a o e => by
  rw [dl_ne fun z => by rw [List.mem_singleton.mp z, hD] at e; cases e]
  exact s a o e
theorem ok_all_parts_step {f : Addr} {fd : FuncData} {n : Nat} (T : Txt K mg) (F : Fun K "all_parts" "all_parts" s_all_parts f fd) (G_all_parts : FnOk P w K mg base CX0 (n + 1) f fd ["condition"] (sp_listing K (fun c => (allp c).map toD) n)) (b_all_parts : Binds K fd ["condition"] []) (g_all_parts : mg "all_parts" = some (.ref f)) : FnOk P w K mg base CX0 (n + 2) f fd ["condition"] (sp_listing K (fun c => (allp c).map toD) (n + 1)) := by
  obtain ⟨f_parts_of, fd_parts_of, F_parts_of, b_parts_of, g_parts_of⟩ := T.h_parts_of
  have F_all_parts := F
  have G_parts_of := ok_parts_of (P := P) (w := w) (base := base) T F_parts_of
  refine F.ok sc_all_parts (fun vs H Q E h => ?_) (fun cdv A outer s H vs Q E hr h => ?_)
  · obtain ⟨v, c, rfl, _⟩ := h
    rfl
  obtain ⟨v, c, rfl, hv, hw, hsz, q⟩ := h
  have hr_parts_of : Room 1 _ := hr.mono (by omega)
  have hr_all_parts : Room (n + 1) _ := hr
  refine ⟨_, (pss_cons (ps_set (i := 1) sc_all_parts.nd rfl (.inl rfl) (pe_lst (pa_cons (pv 0) pa_nil)))
      (pss_cons (ps_for PassesOwn.never rfl (pi_tupK (K := K) (pe_call (FnOk.frame G_parts_of) hr_parts_of (by rfl) g_parts_of F_parts_of.kp b_parts_of .nil pass0 (pa_cons (pv 0) pa_nil))) (pg_name (i := 2) sc_all_parts.nd rfl (.inl rfl)) (pss_one (ps_expr (pe_bm PySem.F.plainAttrs_list PySem.F.slot_list_extend PySem.F.type_list_extend mt_extend (pv 1) (pa_cons (pe_call (FnOk.frame G_all_parts) hr_all_parts (by rfl) g_all_parts F_all_parts.kp b_all_parts .nil pass0 (pa_cons (pv 2) pa_nil)) pa_nil)))))
      (pss_one (ps_ret (pv 1))))), ?_⟩
  refine ⟨_, rfl, by show 1 ≤ sizeLine; decide, fun D hD => ?_⟩
  have s0 := same_new (o := .lst [v]) hD
  have hDs : (upd H D (.lst [v])) D = some (.lst [v]) := upd_same
  have eH : dl (upd H D (.lst [v])) [D] = H := by
    rw [dl_upd List.mem_cons_self]
    funext a
    by_cases z : a = D
    · rw [z, dl_at List.mem_cons_self, hD]
    · rw [dl_ne (by simpa using z)]
  refine ⟨_, rfl, [D], one_list hDs, v, c, n + 1, rfl, by rw [eH]; exact hv, hw, fun t xs H1 s1 hL hall fr => ⟨t, rfl, ⟨_, Same.seqT (bk_le fr) hL⟩, ?_⟩⟩
  rw [eH] at s1 hall
  have hl := dpa_len' hall
  have hlen := allp_len c
  rw [allp_eq, List.length_cons] at hlen
  refine for_it (walk_tup (xs := xs)) (fun i σ H' => ∃ (ys : List V) (x2 : Option V), σ = [some v, some (.ref D), x2] ∧ Same H1 (dl H' [D]) ∧ H' D = some (.lst ys) ∧ DpAll K (dl H' [D]) ys ((c :: ((parts c).take i).flatMap allp).map toD))
    ⟨[v], none, rfl, by rw [dl_bk fr]; exact Same.refl _, by rw [bk_at List.mem_cons_self, upd_same], by rw [dl_bk fr]; exact .cons (dp_mono s1 hv) .nil⟩ (fun i σ H' _ ⟨_, _, _, h, _⟩ => Same.seqT (h.trans dl_le) hL) (fun i x σ H2 H3 hi hI hy => ?_) (fun σ H2 hI => ?_)
  · obtain ⟨ys, x2, rfl, sm, hD2, hys⟩ := hI
    obtain ⟨rfl, hx⟩ := hy
    have hpc := List.getElem?_eq_getElem (show i < (parts c).length by omega)
    have hpm := List.mem_of_getElem? hpc
    have hdx := dp_mono (s1.trans sm) (dpa_get' hall hx hpc)
    have hss := size_part hpm
    refine ⟨_, rfl, .inl ⟨rfl, _, SqL.of hD2⟩, _, rfl, [D], one_list hD2, x, _, rfl, hdx, hw.parts.2 _ hpm, by omega, fun p zs H4 s4 hp hL4 hall4 fr4 => ?_⟩
    have npD : p ∉ [D] := fun z => by rw [fr4 p z] at hL4; cases hL4
    have et : (parts c).take (i + 1) = (parts c).take i ++ [(parts c)[i]] := by rw [List.take_add_one, hpc]; rfl
    have el := dpa_len' hys
    have ez := dpa_len' hall4
    have hb := take_allp (parts c) (i + 1)
    rw [et, List.flatMap_append, List.length_append, List.flatMap_singleton] at hb
    rw [List.length_cons] at el
    refine ⟨D, p, ys, zs, rfl, rfl, by rw [bk_at List.mem_cons_self]; exact hD2, by rw [bk_ne npD]; exact hL4, szl (by omega), ?_⟩
    refine ⟨ys ++ zs, _, rfl, ?_, upd_same, ?_⟩
    · rw [dl_upd List.mem_cons_self, dl_bk fr4]
      exact sm.trans s4
    · rw [dl_upd List.mem_cons_self, dl_bk fr4, et, List.flatMap_append, List.flatMap_singleton, ← List.cons_append, List.map_append]
      exact dpa_app (dpa_mono s4 hys) (dpa_mono dl_le hall4)
  · obtain ⟨ys, x2, rfl, sm, hD2, hys⟩ := hI
    rw [hl, List.take_length, ← allp_eq] at hys
    exact ⟨_, rfl, q D ys H2 ((s1.trans sm).trans dl_le) hD hD2 hys⟩
theorem ok_all_parts (T : Txt K mg) {f : Addr} {fd : FuncData} (F : Fun K "all_parts" "all_parts" s_all_parts f fd) (b : Binds K fd ["condition"] []) (g : mg "all_parts" = some (.ref f)) : ∀ n, FnOk P w K mg base CX0 (n + 1) f fd ["condition"] (sp_listing K (fun c => (allp c).map toD) n)
  | 0 => none_listing
  | n + 1 => ok_all_parts_step T F (ok_all_parts T F b g n) b g
theorem ok_tests_of (T : Txt K mg) {f : Addr} {fd : FuncData} (F : Fun K "tests_of" "tests_of" s_tests_of f fd) (n : Nat) : FnOk P w K mg base CX0 (n + 2) f fd ["condition"] (sp_listing K (fun c => (tests c).map prD) n) := by
  obtain ⟨f_all_parts, fd_all_parts, F_all_parts, b_all_parts, g_all_parts⟩ := T.h_all_parts
  have G_all_parts := ok_all_parts (P := P) (w := w) (base := base) T F_all_parts b_all_parts g_all_parts n
  refine F.ok sc_tests_of (fun vs H Q E h => ?_) (fun cdv A outer s H vs Q E hr h => ?_)
  · obtain ⟨v, c, rfl, _⟩ := h
    rfl
  obtain ⟨v, c, rfl, hv, hw, hsz, q⟩ := h
  have hr_all_parts := hr
  refine ⟨_, (pss_cons (ps_set (i := 1) sc_tests_of.nd rfl (.inl rfl) (pe_lst pa_nil))
      (pss_cons (ps_for PassesOwn.never rfl (pi_listK (K := K) (pe_call (FnOk.frame G_all_parts) hr_all_parts (by rfl) g_all_parts F_all_parts.kp b_all_parts .nil pass0 (pa_cons (pv 0) pa_nil))) (pg_name (i := 2) sc_tests_of.nd rfl (.inl rfl)) (pss_one (ps_if (PW.pt (pw_and (pt_cmpR op_eq (pe_ix (ix_tupK (K := K)) (pv 2) pe_int (fun _ _ => rfl)) pe_str (nomark _)) (pw_and1 (pt_cmpR (op_notInDK (K := K) (un65 hr)) (pe_slice (sl_tupK (K := K)) (pv 2) (po_some pe_int) po_none) (pv 1) (by rfl))))) (pss_one (ps_expr (pe_bm PySem.F.plainAttrs_list PySem.F.slot_list_append PySem.F.type_list_append mt_append (pv 1) (pa_cons (pe_slice (sl_tupK (K := K)) (pv 2) (po_some pe_int) po_none) pa_nil)))) pss_nil)))
      (pss_one (ps_ret (pv 1))))), ?_⟩
  refine ⟨Nat.zero_le _, fun D hD => ?_⟩
  have hDs : (upd H D (.lst [])) D = some (.lst []) := upd_same
  have eH : dl (upd H D (.lst [])) [D] = H := by
    rw [dl_upd List.mem_cons_self]
    funext a
    by_cases z : a = D
    · rw [z, dl_at List.mem_cons_self, hD]
    · rw [dl_ne (by simpa using z)]
  refine ⟨_, rfl, [D], one_list hDs, v, c, rfl, by rw [eH]; exact hv, hw, hsz, fun p xs H1 s1 hp hL hall fr => ⟨p, rfl, ⟨_, SqL.of (bk_le fr _ _ hL)⟩, ?_⟩⟩
  rw [eH] at s1 hp
  have hall1 := dpa_mono dl_le hall
  have hl := dpa_len' hall
  refine for_it (walk_list (xs := xs)) (fun i σ H' => ∃ (ys : List V) (x2 : Option V), σ = [some v, some (.ref D), x2] ∧ Same H1 (dl H' [D]) ∧ H' D = some (.lst ys) ∧ DpAll K (dl H' [D]) ys ((dd (((allp c).take i).flatMap own)).map prD))
    ⟨[], none, rfl, by rw [dl_bk fr]; exact Same.refl _, by rw [bk_at List.mem_cons_self, upd_same], .nil⟩ (fun i σ H' _ ⟨_, _, _, h, _⟩ => (h.trans dl_le).seq (SqL.of hL)) (fun i x σ H2 H3 hi hI hy => ?_) (fun σ H2 hI => ?_)
  · obtain ⟨ys, x2, rfl, sm, hD2, hys⟩ := hI
    obtain ⟨rfl, hx⟩ := hy
    have hpc := List.getElem?_eq_getElem (show i < (allp c).length by omega)
    have hpm := List.mem_of_getElem? hpc
    have hdx := dp_mono sm (dpa_get' hall1 hx hpc)
    obtain ⟨m, hwm⟩ := wn_all hw _ hpm
    obtain ⟨a, k, zs, rfl, hs, h1, h2, h3, h4⟩ := tree_open hdx hwm
    have hs' := Same.seqT dl_le hs
    refine ⟨_, rfl, a, _, 0, .str k, rfl, rfl, hs', at0 _ _, rfl, _, rfl, ite2 (fun c1 => ?_) (fun c1 => ?_)⟩
    · have ek : k = "test" := V.str.inj (of_decide_eq_true c1)
      obtain ⟨ff, gg, ec, rfl⟩ := h3 ek
      have hstep := own_step hpc
      rw [ec, show own (.test ff gg) = [(ff, gg)] from rfl] at hstep
      have hin : (ff, gg) ∈ tl c := List.mem_flatMap.mpr ⟨_, hpm, by rw [ec]; exact List.mem_cons_self⟩
      have okp := tests_ok hw _ hin
      refine ⟨_, rfl, 1, rfl, a, _, rfl, hs', fun z => absurd z (cut_tail_ne _ _), fun _ t ht => ?_⟩
      rw [cut_tail]
      have hDt : ∃ u, H3 D = some u := ⟨_, hD2⟩
      have st := same_new (o := .tup [.str ff, .str gg]) (dl1_free (D := D) ht)
      have et := dl1_new (o := .tup [.str ff, .str gg]) hDt ht
      have hDt2 : (upd H3 t (.tup [.str ff, .str gg])) D = some (.lst ys) := by rw [upd_ne (ne_of_none hD2 ht)]; exact hD2
      refine ⟨_, rfl, prD (ff, gg), _, .tup (SqT.of upd_same) (.cons (.str _) (.cons (.str _) .nil)), .lst (SqL.of hDt2) (dpa_mono ((same_new ht) : Same H3 _) (dpa_mono dl_le hys)), deep_shaped (n := 2) (pr_deep okp) (by decide), deep_shaped (n := 3) (prs_deep (by have := @own_le c i; omega) fun p hp => tests_ok hw p (own_sub hp)) (by decide), _, rfl, ?_⟩
      rw [any_pr]
      refine ite2 (fun c2 => ?_) (fun c2 => ?_)
      · have nin : (ff, gg) ∉ dd (((allp c).take i).flatMap own) := by simpa using c2
        refine ⟨_, rfl, .inl ⟨rfl, _, SqL.of hDt2⟩, _, rfl, 1, rfl, a, _, rfl, Same.seqT (same_new ht) hs', fun z => absurd z (cut_tail_ne _ _), fun _ t2 ht2 => ?_⟩
        rw [cut_tail]
        have hDt3 : (upd (upd H3 t (.tup [.str ff, .str gg])) t2 (.tup [.str ff, .str gg])) D = some (.lst ys) := by rw [upd_ne (ne_of_none hDt2 ht2)]; exact hDt2
        have st2 := same_new (o := .tup [.str ff, .str gg]) (dl1_free (D := D) ht2)
        have et2 := dl1_new (o := .tup [.str ff, .str gg]) ⟨_, hDt2⟩ ht2
        refine ⟨D, ys, _, rfl, rfl, hDt3, szt (by have := @own_le c i; have := dpa_len' hys; omega), ?_⟩
        refine ⟨ys ++ [.ref t2], _, rfl, ?_, upd_same, ?_⟩
        · rw [dl_upd List.mem_cons_self, et2]
          refine (sm.trans st).trans ?_
          rw [← et]
          exact st2
        · rw [dl_upd List.mem_cons_self, et2, hstep, dd_more nin, List.map_append]
          refine dpa_app (dpa_mono (st.trans (by rw [← et]; exact st2)) hys) (.cons (.tup (SqT.of upd_same) (.cons (.str _) (.cons (.str _) .nil))) .nil)
      · have yin : (ff, gg) ∈ dd (((allp c).take i).flatMap own) := by simpa using c2
        refine ⟨ys, _, rfl, ?_, hDt2, ?_⟩
        · rw [et]
          exact sm.trans st
        · rw [et, hstep, dd_same yin]
          exact dpa_mono st hys
    · have ne : k ≠ "test" := fun e => c1 (by rw [e]; exact decide_eq_true rfl)
      have hstep := own_step hpc
      rw [h4 ne, List.append_nil] at hstep
      exact ⟨ys, _, rfl, sm, hD2, by rw [hstep]; exact hys⟩
  · obtain ⟨ys, x2, rfl, sm, hD2, hys⟩ := hI
    rw [hl, List.take_length] at hys
    exact ⟨_, rfl, q D ys H2 ((s1.trans sm).trans dl_le) hD hD2 hys⟩
end
end Hr

set_option Elab.async false
set_option linter.all false
set_option maxRecDepth 100000
set_option maxHeartbeats 4000000
namespace Hr
open PySem PySem.Spec PyProof.Rows L2
section
variable {P : Program} {w : World} {K : PySem.W.Frag} {mg : Str → Option Value} {base : Heap}
def sp_field : Sp := fun vs H Q _ => ∃ t, vs = [.str t] ∧ t.length ≤ 50000 ∧ ∀ H', Same H H' → Q (.bl (fieldOk t)) H'
theorem ok_is_field_name {f : Addr} {fd : FuncData} (T : Txt K mg) (F : Fun K "is_field_name" "is_field_name" s_is_field_name f fd) : FnOk P w K mg base CX0 3 f fd ["text"] sp_field := by
  obtain ⟨f_is_name, fd_is_name, F_is_name, b_is_name, g_is_name⟩ := T.h_is_name
  have G_is_name := ok_is_name (P := P) (w := w) (base := base) T F_is_name
  refine F.ok sc_is_field_name (fun vs H Q E h => ?_) (fun cdv A outer s H vs Q E hr h => ?_)
  · obtain ⟨t, rfl, _⟩ := h
    rfl
  obtain ⟨t, rfl, ht, q⟩ := h
  have hr_is_name := hr
  refine ⟨_, (pss_one (ps_ret (pe_and (pe_call G_is_name hr_is_name (by rfl) g_is_name F_is_name.kp b_is_name .nil pass0 (pa_cons (pv 0) pa_nil)) (pe_one (pe_cmpR op_ne (pv 0) pe_str (nomark _)))))), ?_⟩
  refine ⟨_, rfl, t, rfl, ht, fun H1 s1 => ⟨_, rfl, ?_⟩⟩
  cases e : consists t nameC with
  | true =>
    refine iteT ⟨_, rfl, rfl, ?_⟩
    have e2 : fieldOk t = !decide (V.str t = V.str "any") := by
      unfold fieldOk
      rw [e, Bool.true_and, Bool.eq_iff_iff]
      simp
    rw [← e2]
    exact q H1 s1
  | false =>
    have e2 : fieldOk t = false := by
      unfold fieldOk
      rw [e]
      rfl
    exact iteF (e2 ▸ q H1 s1)
def sp_count : Sp := fun vs H Q _ => ∃ (m t : Int), vs = [.int m, .int t] ∧ 1 ≤ m ∧ m ≤ t ∧ ∀ H', Same H H' → Q .non H'
theorem ok_check_count {f : Addr} {fd : FuncData} (T : Txt K mg) (F : Fun K "check_count" "check_count" s_check_count f fd) : FnOk P w K mg base CX0 1 f fd ["many", "limit"] sp_count := by
  refine F.ok sc_check_count (fun vs H Q E h => ?_) (fun cdv A outer s H vs Q E hr h => ?_)
  · obtain ⟨m, t, rfl, _⟩ := h
    rfl
  obtain ⟨m, t, rfl, h1, h2, q⟩ := h
  refine ⟨_, (pss_one (ps_if (PW.pt (pw_or (pt_cmpR op_lt (pv 0) pe_int (nomark _)) (pw_or1 (pt_cmpR op_gt (pv 0) (pv 1) (nomark _))))) (pss_one ps_never) pss_nil)), ?_⟩
  exact ⟨_, rfl, _, _, rfl, rfl, _, rfl, ifF (by omega) ⟨_, rfl, _, rfl, _, _, rfl, rfl, _, rfl, ifF (by omega) (q H (Same.refl _))⟩⟩
def sp_values (K : PySem.W.Frag) : Sp := fun vs H Q _ => ∃ (v : V) (ms : List Str), vs = [v] ∧ Dp K H v (.list (ms.map PyData.str)) ∧ Marks ms ∧ 1 ≤ ms.length ∧ ms.length ≤ 6 ∧
  ∀ (p : Addr) (H' : Hp), Same H H' → H p = none → FTup H' p (ms.map V.str) → Q (.ref p) H'
theorem ok_checked_values {f : Addr} {fd : FuncData} (T : Txt K mg) (F : Fun K "checked_values" "checked_values" s_checked_values f fd) : FnOk P w K mg base CX0 3 f fd ["values"] (sp_values K) := by
  obtain ⟨f_check_count, fd_check_count, F_check_count, b_check_count, g_check_count⟩ := T.h_check_count
  obtain ⟨f_is_value, fd_is_value, F_is_value, b_is_value, g_is_value⟩ := T.h_is_value
  have G_check_count := ok_check_count (P := P) (w := w) (base := base) T F_check_count
  have G_is_value := ok_is_value (P := P) (w := w) (base := base) T F_is_value
  refine F.ok sc_checked_values (fun vs H Q E h => ?_) (fun cdv A outer s H vs Q E hr h => ?_)
  · obtain ⟨v, ms, rfl, _⟩ := h
    rfl
  obtain ⟨v, ms, rfl, hv, hm, h1, h2, q⟩ := h
  have hr_check_count : Room 1 _ := hr.mono (by decide)
  have hr_is_value : Room 2 _ := hr.mono (by decide)
  refine ⟨_, (pss_cons (ps_expr (pe_call G_check_count hr_check_count (by rfl) g_check_count F_check_count.kp b_check_count .nil pass0 (pa_cons (pe_callB (call_len_seqK (K := K)) (by rfl) T.m_len PySem.boot_len (pa_cons (pv 0) pa_nil)) (pa_cons (pe_gv (by rfl) T.c_MAX_VALUES) pa_nil))))
      (pss_cons (ps_set (i := 1) sc_checked_values.nd rfl (.inl rfl) (pe_lst pa_nil))
      (pss_cons (ps_for PassesOwn.never rfl (pi_listK (K := K) (pv 0)) (pg_name (i := 2) sc_checked_values.nd rfl (.inl rfl)) (pss_cons (ps_if (pt_not (pt_val (pe_call G_is_value hr_is_value (by rfl) g_is_value F_is_value.kp b_is_value .nil pass0 (pa_cons (pv 2) pa_nil)))) (pss_one ps_never) pss_nil)
      (pss_cons (ps_if (pt_cmpR (op_in_seqK (K := K)) (pv 2) (pv 1) (by rfl)) (pss_one ps_never) pss_nil)
      (pss_one (ps_expr (pe_bm PySem.F.plainAttrs_list PySem.F.slot_list_append PySem.F.type_list_append mt_append (pv 1) (pa_cons (pv 2) pa_nil)))))))
      (pss_one (ps_ret (pe_callTy (call_tupFK (K := K)) (by rfl) T.m_tuple (by decide +kernel) (pa_cons (pv 1) pa_nil))))))), ?_⟩
  cases hv with
  | lst hs ht =>
    rename_i a xs
    obtain rfl := strs_inv ht
    refine ⟨_, rfl, a, _, rfl, .inl hs, _, 6, rfl, by rw [List.length_map]; omega, by rw [List.length_map]; omega, fun H1 s1 => ⟨Nat.zero_le _, fun D hD => ?_⟩⟩
    have s2 := s1.trans (same_new (o := .lst []) hD)
    refine ⟨_, rfl, a, rfl, ⟨_, s2.seq hs⟩, ?_⟩
    refine for_it (walk_list (xs := ms.map V.str)) (fun i σ H' => ∃ x2 : Option V, σ = [some (.ref a), some (.ref D), x2] ∧ Same H H' ∧ H' D = some (.lst ((ms.take i).map V.str)))
      ⟨none, rfl, s2, upd_same⟩ (fun i σ H' _ ⟨_, _, h, _⟩ => h.seq hs) (fun i x σ H2 H3 hi hI hy => ?_) (fun σ H2 hI => ?_)
    · obtain ⟨x2, rfl, sm, hD2⟩ := hI
      obtain ⟨rfl, hx⟩ := hy
      obtain ⟨m, hmi, rfl⟩ := str_at hx
      have hvm := hm.1 m (List.mem_of_getElem? hmi)
      refine ⟨_, rfl, m, rfl, Nat.le_trans hvm.2.1 (by decide), fun H4 s4 => ?_⟩
      have hD4 := s4 _ _ hD2
      refine ⟨_, rfl, bF (by rw [consists_vl hvm]; rfl) ⟨_, rfl, _, rfl, D, _, rfl, .inl (SqL.of hD4), rfl, flat_strs _, _, rfl, bF ((inV_str _ _).trans (decide_eq_false (nodup_take hm.2 hmi))) ⟨_, rfl, .inl ⟨rfl, _, SqL.of hD4⟩, _, rfl, D, _, _, rfl, rfl, hD4, szt (by rw [List.length_map, List.length_take]; omega), ?_⟩⟩⟩
      refine ⟨_, rfl, fun b o e => ?_, by rw [upd_same, take_step hmi, List.map_append]; rfl⟩
      rw [upd_ne (ne_of_none (s1 _ _ e) hD)]
      exact s4 _ _ (sm _ _ e)
    · obtain ⟨x2, rfl, sm, hD2⟩ := hI
      rw [List.length_map, List.take_length] at hD2
      exact ⟨_, rfl, D, _, rfl, SqL.of hD2, fun p o hp ho => q p _ (sm.trans (same_new hp)) (sm.free hp) (FTup.new ho)⟩
def keysOf (fs : List Fld) : List Key := fs.map fun f => Sum.inr f.1
def sp_cfields (K : PySem.W.Frag) : Sp := fun vs H Q _ => ∃ (v : V) (fs : List Fld), vs = [v] ∧ Dp K H v (fldsD fs) ∧ FOk fs ∧ fs.length ≤ 5 ∧
  ∀ (D : Addr) (kvs : List (Key × V)) (H' : Hp), Same H H' → H D = none → H' D = some (.dK kvs) → kvs.map (·.1) = keysOf fs → DpAll K (dl H' [D]) (kvs.map (·.2)) (fs.map valD) → FrzAll (dl H' [D]) (kvs.map (·.2)) fs → Q (.ref D) H'
theorem ok_checked_fields {f : Addr} {fd : FuncData} (T : Txt K mg) (F : Fun K "checked_fields" "checked_fields" s_checked_fields f fd) : FnOk P w K mg base CX0 4 f fd ["fields"] (sp_cfields K) := by
  obtain ⟨f_check_count, fd_check_count, F_check_count, b_check_count, g_check_count⟩ := T.h_check_count
  obtain ⟨f_checked_values, fd_checked_values, F_checked_values, b_checked_values, g_checked_values⟩ := T.h_checked_values
  obtain ⟨f_is_field_name, fd_is_field_name, F_is_field_name, b_is_field_name, g_is_field_name⟩ := T.h_is_field_name
  have G_check_count := ok_check_count (P := P) (w := w) (base := base) T F_check_count
  have G_is_field_name := ok_is_field_name (P := P) (w := w) (base := base) T F_is_field_name
  have G_checked_values := ok_checked_values (P := P) (w := w) (base := base) T F_checked_values
  refine F.ok sc_checked_fields (fun vs H Q E h => ?_) (fun cdv A outer s H vs Q E hr h => ?_)
  · obtain ⟨v, fs, rfl, _⟩ := h
    rfl
  obtain ⟨v, fs, rfl, hv, hf, h2, q⟩ := h
  have hr_check_count : Room 1 _ := hr.mono (by decide)
  have hr_is_field_name : Room 3 _ := hr.mono (by decide)
  have hr_checked_values : Room 3 _ := hr.mono (by decide)
  refine ⟨_, (pss_cons (ps_expr (pe_call G_check_count hr_check_count (by rfl) g_check_count F_check_count.kp b_check_count .nil pass0 (pa_cons (pe_callB (call_len_seqK (K := K)) (by rfl) T.m_len PySem.boot_len (pa_cons (pv 0) pa_nil)) (pa_cons (pe_gv (by rfl) T.c_MAX_FIELDS) pa_nil))))
      (pss_cons (ps_set (i := 1) sc_checked_fields.nd rfl (.inl rfl) pe_dnewK)
      (pss_cons (ps_for PassesOwn.never rfl (pi_listK (K := K) (pv 0)) (pg_tup rfl (pgs_cons (pg_name (i := 2) sc_checked_fields.nd rfl (.inl rfl)) (pgs_cons (pg_name (i := 3) sc_checked_fields.nd rfl (.inl rfl)) pgs_nil))) (pss_cons (ps_if (pt_not (pt_val (pe_call G_is_field_name hr_is_field_name (by rfl) g_is_field_name F_is_field_name.kp b_is_field_name .nil pass0 (pa_cons (pv 2) pa_nil)))) (pss_one ps_never) pss_nil)
      (pss_cons (ps_if (pt_cmp (pc_din (hu_of hr) (pv 2) (pv 1))) (pss_one ps_never) pss_nil)
      (pss_one (ps_dput (hu_of hr) (pv 1) (pv 2) (pe_call G_checked_values hr_checked_values (by rfl) g_checked_values F_checked_values.kp b_checked_values .nil pass0 (pa_cons (pv 3) pa_nil)) rfl)))))
      (pss_one (ps_ret (pv 1)))))), ?_⟩
  have h1 := hf.2.2
  cases hv with
  | lst hs ht =>
    rename_i a xs
    have hl := dpa_len' ht
    refine ⟨_, rfl, a, _, rfl, .inl hs, _, 5, rfl, by omega, by omega, fun H1 s1 => fun D hD => ?_⟩
    have s2 := s1.trans (same_new (o := .dK []) hD)
    refine ⟨_, rfl, a, rfl, ⟨_, s2.seq hs⟩, ?_⟩
    refine for_it (walk_list (xs := xs)) (fun i σ H' => ∃ (kvs : List (Key × V)) (x2 x3 : Option V), σ = [some (.ref a), some (.ref D), x2, x3] ∧ Same H H' ∧ H' D = some (.dK kvs) ∧ kvs.map (·.1) = keysOf (fs.take i) ∧ DpAll K (dl H' [D]) (kvs.map (·.2)) ((fs.take i).map valD) ∧ FrzAll (dl H' [D]) (kvs.map (·.2)) (fs.take i))
      ⟨[], none, none, rfl, s2, upd_same, rfl, .nil, FrzAll.nil⟩ (fun i σ H' _ ⟨_, _, _, _, h, _⟩ => h.seq hs) (fun i x σ H2 H3 hi hI hy => ?_) (fun σ H2 hI => ?_)
    · obtain ⟨kvs, x2, x3, rfl, sm, hD2, hk, hd, hfz⟩ := hI
      obtain ⟨rfl, hx⟩ := hy
      have hfi := List.getElem?_eq_getElem (show i < fs.length by omega)
      generalize fs[i] = fl at hfi
      have hfm := hf.1 fl (List.mem_of_getElem? hfi)
      have hdx := dp_mono sm (dpa_get' ht hx hfi)
      cases hdx with
      | tup hts htt =>
        rename_i b ys
        cases htt with
        | cons y1 r1 =>
          cases y1
          cases r1 with
          | cons y2 r2 =>
            cases r2
            rename_i v2
            refine ⟨b, _, rfl, hts, rfl, ?_⟩
            have hkn : valV kvs (Sum.inr fl.1 : Key) = none := valV_none (by
              rw [hk]
              intro z
              obtain ⟨g, hg, eg⟩ := List.mem_map.mp z
              have hn := nodup_take hf.2.1 (i := i) (x := fl.1) (by rw [List.getElem?_map, hfi]; rfl)
              rw [← List.map_take] at hn
              exact hn (List.mem_map.mpr ⟨g, hg, Sum.inr.inj eg⟩))
            have hkl : kvs.length ≤ i := by
              have := congrArg List.length hk
              unfold keysOf at this
              rw [List.length_map, List.length_map, List.length_take] at this
              omega
            refine ⟨_, _, rfl, _, _, rfl, rfl, ?_⟩
            refine ⟨_, rfl, fl.1, rfl, Nat.le_trans hfm.1.2.1 (by decide), fun H4 s4 => ⟨_, rfl, bF (by rw [fieldOk_nm hfm.1 hfm.2.1]; rfl) ⟨_, rfl, _, rfl, D, _, rfl, DGet.k (k := Sum.inr fl.1) (s4 _ _ hD2), _, rfl, bF (by rw [hkn]; rfl) ?_⟩⟩⟩
            refine ⟨_, rfl, v2, fl.2, rfl, dp_mono s4 y2, hfm.2.2.2.1, hfm.2.2.2.2.1, by have := hfm.2.2.2.2.2; omega, fun p H5 s5 hp hp5 => ⟨_, rfl, _, rfl, D, _, rfl, DPut.k (k := Sum.inr fl.1) (s5 _ _ (s4 _ _ hD2)) (szt (by omega)), ?_⟩⟩
            have npD : p ≠ D := fun z => by rw [z, s4 _ _ hD2] at hp; cases hp
            have hp6 : FTup (dl H5 [D]) p (fl.2.map V.str) := by
              obtain ⟨o, e1, e2⟩ := hp5
              exact ⟨o, e1, by rw [dl_ne (by simpa using npD)]; exact e2⟩
            refine ⟨_, _, _, rfl, fun b' o e => ?_, upd_same, ?_, ?_, ?_⟩
            · rw [upd_ne (ne_of_none (s1 _ _ e) hD)]
              exact s5 _ _ (s4 _ _ (sm _ _ e))
            · rw [putK_new _ hkn, List.map_append, hk, take_step hfi]
              unfold keysOf
              rw [List.map_append]
              rfl
            · rw [putK_new _ hkn, dl_upd List.mem_cons_self, List.map_append, take_step hfi, List.map_append]
              refine dpa_app (dpa_mono (dl_mono (s4.trans s5)) hd) (.cons (.tup hp6.sq (dpa_strs _)) .nil)
            · rw [putK_new _ hkn, dl_upd List.mem_cons_self, List.map_append, take_step hfi]
              exact (hfz.same (dl_mono (s4.trans s5))).snoc hp6
    · obtain ⟨kvs, x2, x3, rfl, sm, hD2, hk, hd, hfz⟩ := hI
      rw [hl, List.take_length] at hk hd hfz
      exact ⟨_, rfl, q D kvs _ sm (s1.free hD) hD2 hk hd hfz⟩
end
end Hr

set_option Elab.async false
set_option linter.all false
set_option maxRecDepth 100000
set_option maxHeartbeats 4000000
namespace Hr
open PySem PySem.Spec PyProof.Rows L2
section
variable {P : Program} {w : World} {K : PySem.W.Frag} {mg : Str → Option Value} {base : Heap}
def sp_cnt (K : PySem.W.Frag) : Sp := fun vs H Q _ => ∃ (v : V) (fs : List Fld), vs = [v] ∧ Dp K H v (choD fs) ∧ (∀ f ∈ fs, f.2.length ≤ 3) ∧ ∀ H', Same H H' → Q (.int (tot fs)) H'
theorem ok_count_requests {f : Addr} {fd : FuncData} (T : Txt K mg) (F : Fun K "count_requests" "count_requests" s_count_requests f fd) : FnOk P w K mg base CX0 1 f fd ["choices"] (sp_cnt K) := by
  refine F.ok sc_count_requests (fun vs H Q E h => ?_) (fun cdv A outer s H vs Q E hr h => ?_)
  · obtain ⟨v, fs, rfl, _⟩ := h
    rfl
  obtain ⟨v, fs, rfl, hv, hf, q⟩ := h
  refine ⟨_, (pss_cons (ps_set (i := 1) sc_count_requests.nd rfl (.inl rfl) pe_int)
      (pss_cons (ps_for PassesOwn.never rfl (pi_tupK (K := K) (pv 0)) (pg_name (i := 2) sc_count_requests.nd rfl (.inl rfl)) (pss_one (ps_aug (i := 1) sc_count_requests.nd rfl (.inl rfl) (pe_callB (call_len_seqK (K := K)) (by rfl) T.m_len PySem.boot_len (pa_cons (pv 2) pa_nil)) iop_mul)))
      (pss_one (ps_ret (pv 1))))), ?_⟩
  cases hv with
  | tup hs ht =>
    rename_i a xs
    have hl := dpa_len' ht
    refine ⟨_, rfl, a, rfl, ⟨_, hs⟩, ?_⟩
    refine for_it (walk_tup (xs := xs)) (fun i σ H' => ∃ x2 : Option V, σ = [some (.ref a), some (.int (tot (fs.take i))), x2] ∧ Same H H')
      ⟨none, rfl, Same.refl _⟩ (fun i σ H' _ ⟨_, _, h⟩ => Same.seqT h hs) (fun i x σ H2 H3 hi hI hy => ?_) (fun σ H2 hI => ?_)
    · obtain ⟨x2, rfl, sm⟩ := hI
      obtain ⟨rfl, hx⟩ := hy
      have hfi := List.getElem?_eq_getElem (show i < fs.length by omega)
      generalize fs[i] = fl at hfi
      have hfm := hf fl (List.mem_of_getElem? hfi)
      have hdx := dp_mono sm (dpa_get' ht hx hfi)
      cases hdx with
      | tup h1 h2 =>
        obtain rfl := strs_inv h2
        rename_i b
        refine ⟨_, rfl, _, rfl, b, _, rfl, .inr h1, _, _, rfl, rfl, .inr ⟨by rw [List.length_map]; omega, by rw [List.length_map]; omega⟩, ?_⟩
        refine ⟨some (.ref b), ?_, sm⟩
        have e : ((tot (fs.take i) : Int) * ((fl.2.map V.str).length : Int)) = ((tot (fs.take (i + 1)) : Nat) : Int) := by
          rw [take_step hfi, tot_snoc, List.length_map, Int.natCast_mul]
        rw [← e]
        rfl
    · obtain ⟨x2, rfl, sm⟩ := hI
      rw [hl, List.take_length]
      exact ⟨_, rfl, q _ sm⟩
def sp_init (K : PySem.W.Frag) (C : Addr) : Sp := fun vs H Q _ => ∃ (p dx : Addr) (v : V) (fs : List Fld), vs = [.ref p, v] ∧ H p = some (.ins C dx []) ∧ Dp K H v (fldsD fs) ∧ FOk fs ∧ fs.length ≤ 5 ∧ tot fs ≤ 400 ∧
  ∀ H', (∀ b o, b ≠ p → H b = some o → H' b = some o) → SchAt K C H' p fs → Q .non H'
theorem ok_Schema___init__ {f : Addr} {fd : FuncData} (T : Txt K mg) (F : Fun K "__init__" "Schema.__init__" s_Schema___init__ f fd) : FnOk P w K mg base CX0 5 f fd ["self", "fields"] (sp_init K (adr (mg "Schema"))) := by
  obtain ⟨f_checked_fields, fd_checked_fields, F_checked_fields, b_checked_fields, g_checked_fields⟩ := T.h_checked_fields
  obtain ⟨f_count_requests, fd_count_requests, F_count_requests, b_count_requests, g_count_requests⟩ := T.h_count_requests
  have G_checked_fields := ok_checked_fields (P := P) (w := w) (base := base) T F_checked_fields
  have G_count_requests := ok_count_requests (P := P) (w := w) (base := base) T F_count_requests
  refine F.ok sc_Schema___init__ (fun vs H Q E h => ?_) (fun cdv A outer s H vs Q E hr h => ?_)
  · obtain ⟨p, dx, v, fs, rfl, _⟩ := h
    rfl
  obtain ⟨p, dx, v, fs, rfl, hp, hv, hf, hfl, ht, q⟩ := h
  have hr_checked_fields : Room 4 _ := hr.mono (by decide)
  have hr_count_requests : Room 1 _ := hr.mono (by decide)
  refine ⟨_, (pss_cons (ps_set (i := 2) sc_Schema___init__.nd rfl (.inl rfl) (pe_call G_checked_fields hr_checked_fields (by rfl) g_checked_fields F_checked_fields.kp b_checked_fields .nil pass0 (pa_cons (pv 1) pa_nil)))
      (pss_cons (ps_fld (pv 0) (pe_callTy (call_tupD rfl) (by rfl) T.m_tuple (by decide +kernel) (pa_cons (pv 2) pa_nil)) rfl)
      (pss_cons (ps_fld (pv 0) (pe_tupVals rfl (by rfl) T.m_tuple (pv 2)) rfl)
      (pss_cons (ps_fld (pv 0) (pe_call G_count_requests hr_count_requests (by rfl) g_count_requests F_count_requests.kp b_count_requests .nil pass0 (pa_cons (pe_fld (pv 0) rfl) pa_nil)) rfl)
      (pss_one (ps_if (pt_cmpR op_gt (pe_fld (pv 0) rfl) (pe_gv (by rfl) T.c_MAX_REQUESTS) (nomark _)) (pss_one ps_never) pss_nil)))))), ?_⟩
  refine ⟨_, rfl, v, fs, rfl, hv, hf, hfl, fun D kvs H1 s1 hD hD1 hk hd hfz => ?_⟩
  have np : p ≠ D := ne_of_none hp hD
  have hp1 := s1 _ _ hp
  -- self.labels = tuple(kept)
  refine ⟨_, rfl, D, kvs, rfl, hD1, fun t1 ob1 ht1 hob1 => ⟨_, rfl, p, _, dx, _, rfl, (same_new ht1) _ _ hp1, T.k_Schema, T.n_Schema_labels, by show 0 < 1000; decide, ?_⟩⟩
  have n1 : p ≠ t1 := ne_of_none hp1 ht1
  have nD1 : D ≠ t1 := ne_of_none hD1 ht1
  -- self.choices = tuple(kept.values())
  refine ⟨_, rfl, D, kvs, rfl, by rw [upd_ne np.symm, upd_ne nD1]; exact hD1, fun t2 ht2 => ?_⟩
  have n2 : p ≠ t2 := fun z => by rw [← z, upd_same] at ht2; cases ht2
  have n21 : t2 ≠ t1 := fun z => by rw [z, upd_ne n1.symm, upd_same] at ht2; cases ht2
  have ht2' : H1 t2 = none := by rw [upd_ne n2.symm, upd_ne n21] at ht2; exact ht2
  refine ⟨_, rfl, p, _, dx, _, rfl, by rw [upd_ne n2, upd_same], T.k_Schema, T.n_Schema_choices, by show 1 < 1000; decide, ?_⟩
  -- self.total = count_requests(self.choices)
  have kp : ∀ (o1 o2 o3 o4 : HO) b o, b ≠ p → H1 b = some o → (upd (upd (upd (upd H1 t1 o1) p o2) t2 o3) p o4) b = some o := fun o1 o2 o3 o4 b o hb e => by
    rw [upd_ne hb, upd_ne (ne_of_none e ht2'), upd_ne hb, upd_ne (ne_of_none e ht1)]
    exact e
  refine ⟨_, rfl, p, _, dx, _, _, rfl, upd_same, T.k_Schema, T.n_Schema_choices, by rw [lookup_putF, if_pos rfl], .ref t2, fs, rfl, .tup (SqT.of (by rw [upd_ne n2.symm, upd_same])) (dpa_off (noSq_ins hp1) (kp _ _ _ _) (dpa_mono dl_le hd)), fun f hf' => (hf.1 f hf').2.2.2.2.2, fun H6 s6 => ?_⟩
  refine ⟨_, rfl, p, _, dx, _, rfl, s6 _ _ upd_same, T.k_Schema, T.n_Schema_total, Nat.lt_of_le_of_lt (putF_len _ _ _) (by show 2 < 1000; decide), ?_⟩
  have kp7 : ∀ (o : HO) b u, b ≠ p → H1 b = some u → (upd H6 p o) b = some u := fun o b u hb e => by
    rw [upd_ne hb]
    exact s6 _ _ (kp _ _ _ _ b u hb e)
  refine ⟨_, rfl, p, _, dx, _, _, rfl, upd_same, T.k_Schema, T.n_Schema_total, sch_total _ _ _, _, _, rfl, rfl, _, rfl, ifF (by omega) (q _ (fun b o hb e => kp7 _ b o hb (s1 _ _ e)) ⟨⟨dx, .ref t1, .ref t2, upd_same, ?_, ?_⟩, fun dx' a' c' h' => ?_⟩)⟩
  · have e1 : (upd H6 p (.ins (adr (mg "Schema")) dx (sch (.ref t1) (.ref t2) (tot fs)))) t1 = some (.frz ob1 (.tup (kvs.map fun kv => kV kv.1))) := by
      rw [upd_ne n1.symm]
      exact s6 _ _ (by rw [upd_ne n1.symm, upd_ne n21.symm, upd_ne n1.symm, upd_same])
    rw [keys_str hk] at e1
    exact ⟨t1, ob1, rfl, hob1, e1⟩
  · refine .tup (SqT.of ?_) (dpa_off (noSq_ins hp1) (kp7 _) (dpa_mono dl_le hd))
    rw [upd_ne n2.symm]
    exact s6 _ _ (by rw [upd_ne n2.symm, upd_same])
  · rw [upd_same] at h'
    injection h' with h'
    injection h' with _ _ h'
    rw [← sch_inj h']
    refine ⟨t2, _, rfl, ?_, (hfz.same dl_le).off (noSq_ins hp1) (kp7 _)⟩
    rw [upd_ne n2.symm]
    exact s6 _ _ (by rw [upd_ne n2.symm, upd_same])
end
end Hr

set_option Elab.async false
set_option linter.all false
set_option maxRecDepth 100000
set_option maxHeartbeats 4000000
namespace Hr
open PySem PySem.Spec PyProof.Rows L2
section
variable {P : Program} {w : World} {K : PySem.W.Frag} {mg : Str → Option Value} {base : Heap}
def sp_sfields (K : PySem.W.Frag) (C : Addr) : Sp := fun vs H Q _ => ∃ (p : Addr) (fs : List Fld), vs = [.ref p] ∧ SchAt K C H p fs ∧
  ∀ (a : Addr) (H' : Hp), Same H H' → H a = none → H' a = some (.lst ((fs.map (·.1)).map V.str)) → Q (.ref a) H'
theorem lab_open {H : Hp} {v : V} {fs : List Fld} (h : LabAt H v fs) : ∃ a, v = .ref a ∧ SqT K H a ((fs.map (·.1)).map V.str) ∧ ∃ o, o.dict = none ∧ H a = some (.frz o (.tup ((fs.map (·.1)).map V.str))) := by
  obtain ⟨a, o, rfl, e2, e3⟩ := h
  exact ⟨a, rfl, .inl (.inr ⟨o, e3⟩), o, e2, e3⟩
theorem cho_open {H : Hp} {v : V} {fs : List Fld} (h : Dp K H v (choD fs)) : ∃ a xs, v = .ref a ∧ SqT K H a xs ∧ xs.length = fs.length ∧ ∀ (i : Nat) x f, xs[i]? = some x → fs[i]? = some f → ∃ b, x = .ref b ∧ SqT K H b (f.2.map V.str) := by
  unfold choD at h
  cases h with
  | tup h1 h2 =>
    refine ⟨_, _, rfl, h1, dpa_len' h2, fun i x f hx hf => ?_⟩
    have h3 := dpa_get' h2 hx hf
    unfold valD at h3
    cases h3 with
    | tup h4 h5 =>
      obtain rfl := strs_inv h5
      exact ⟨_, rfl, h4⟩
theorem ok_Schema_fields {f : Addr} {fd : FuncData} (T : Txt K mg) (F : Fun K "fields" "Schema.fields" s_Schema_fields f fd) : FnOk P w K mg base CX0 1 f fd ["self"] (sp_sfields K (adr (mg "Schema"))) := by
  refine F.ok sc_Schema_fields (fun vs H Q E h => ?_) (fun cdv A outer s H vs Q E hr h => ?_)
  · obtain ⟨p, fs, rfl, _⟩ := h
    rfl
  obtain ⟨p, fs, rfl, hS, q⟩ := h
  obtain ⟨dx, a, c, hp, hla, hch⟩ := hS.ob
  obtain ⟨a', rfl, hs, ob, hob, hsf⟩ := lab_open (K := K) hla
  refine ⟨_, (pss_one (ps_ret (pe_callTy (call_list_ofK (K := K)) (by rfl) T.m_list (by decide +kernel) (pa_cons (pe_fld (pv 0) rfl) pa_nil)))), ?_⟩
  exact ⟨_, rfl, p, _, dx, _, _, rfl, hp, T.k_Schema, T.n_Schema_labels, sch_labels _ _ _, a', _, rfl, .inr hs, fun l hl => q l _ (same_new hl) hl upd_same⟩
def sp_size' (K : PySem.W.Frag) (C : Addr) : Sp := fun vs H Q _ => ∃ (p : Addr) (fs : List Fld), vs = [.ref p] ∧ SchAt K C H p fs ∧ ∀ H', Same H H' → Q (.int (tot fs)) H'
theorem ok_Schema_size {f : Addr} {fd : FuncData} (T : Txt K mg) (F : Fun K "size" "Schema.size" s_Schema_size f fd) : FnOk P w K mg base CX0 1 f fd ["self"] (sp_size' K (adr (mg "Schema"))) := by
  refine F.ok sc_Schema_size (fun vs H Q E h => ?_) (fun cdv A outer s H vs Q E hr h => ?_)
  · obtain ⟨p, fs, rfl, _⟩ := h
    rfl
  obtain ⟨p, fs, rfl, hS, q⟩ := h
  obtain ⟨dx, a, c, hp, hla, hch⟩ := hS.ob
  refine ⟨_, (pss_one (ps_ret (pe_fld (pv 0) rfl))), ?_⟩
  exact ⟨_, rfl, p, _, dx, _, _, rfl, hp, T.k_Schema, T.n_Schema_total, sch_total _ _ _, q _ (Same.refl _)⟩
def sp_valuesOf (K : PySem.W.Frag) (C : Addr) : Sp := fun vs H Q _ => ∃ (p : Addr) (fs : List Fld) (f : Fld), vs = [.ref p, .str f.1] ∧ SchAt K C H p fs ∧ f ∈ fs ∧ (fs.map (·.1)).Nodup ∧ fs.length ≤ 5 ∧
  ∀ (a : Addr) (H' : Hp), Same H H' → H a = none → H' a = some (.lst (f.2.map V.str)) → Q (.ref a) H'
theorem ok_Schema_values_of {f : Addr} {fd : FuncData} (T : Txt K mg) (F : Fun K "values_of" "Schema.values_of" s_Schema_values_of f fd) : FnOk P w K mg base CX0 1 f fd ["self", "field"] (sp_valuesOf K (adr (mg "Schema"))) := by
  refine F.ok sc_Schema_values_of (fun vs H Q E h => ?_) (fun cdv A outer s H vs Q E hr h => ?_)
  · obtain ⟨p, fs, fl, rfl, _⟩ := h
    rfl
  obtain ⟨p, fs, fl, rfl, hS, hfl, hnd, hl5, q⟩ := h
  obtain ⟨dx, a, c, hp, hla, hch⟩ := hS.ob
  obtain ⟨a', rfl, hs, ob, hob, hsf⟩ := lab_open (K := K) hla
  obtain ⟨c', xs, rfl, hc, hxl, hxs⟩ := cho_open hch
  obtain ⟨j, hj⟩ := List.mem_iff_getElem?.mp hfl
  have hjl := (List.getElem?_eq_some_iff.mp hj).1
  obtain ⟨b, hb, hbs⟩ := hxs j _ fl (List.getElem?_eq_getElem (show j < xs.length by omega)) hj
  have hin : fl.1 ∈ fs.map (·.1) := List.mem_map.mpr ⟨fl, hfl, rfl⟩
  refine ⟨_, (pss_cons (ps_if (pt_cmpR (op_notIn_seqK (K := K)) (pv 1) (pe_fld (pv 0) rfl) (by rfl)) (pss_one ps_never) pss_nil)
      (pss_one (ps_ret (pe_callTy (call_list_ofK (K := K)) (by rfl) T.m_list (by decide +kernel) (pa_cons (pe_ix (ix_tupK (K := K)) (pe_fld (pv 0) rfl) (pe_tupIx (pe_fld (pv 0) rfl) (pa_cons (pv 1) pa_nil)) (fun _ _ => rfl)) pa_nil))))), ?_⟩
  refine ⟨_, rfl, _, rfl, p, _, dx, _, _, rfl, hp, T.k_Schema, T.n_Schema_labels, sch_labels _ _ _, a', _, rfl, .inr hs, rfl, flat_strs _, _, rfl, bF (by show (!inV _ _) = false; rw [inV_str, decide_eq_true hin]; rfl) ?_⟩
  have hat : atI xs (j : Int) = some (.ref b) := atI_nat (by rw [List.getElem?_eq_getElem (show j < xs.length by omega), hb])
  refine ⟨_, rfl, p, _, dx, _, _, rfl, hp, T.k_Schema, T.n_Schema_choices, sch_choices _ _ _, _, rfl, p, _, dx, _, _, rfl, hp, T.k_Schema, T.n_Schema_labels, sch_labels _ _ _, a', fs.map (·.1), ob, rfl, hsf, hob, _, rfl, fl.1, j, rfl, hsf, by rw [List.getElem?_map, hj]; rfl, fun m hm z => ?_, c', xs, j, .ref b, rfl, rfl, hc, hat, b, _, rfl, .inr hbs, fun l hl => q l _ (same_new hl) hl upd_same⟩
  have hm' := (List.getElem?_eq_some_iff.mp z).1
  exact absurd ((List.getElem?_inj hm' hnd).mp (z.trans (show some fl.1 = (fs.map (·.1))[j]? by rw [List.getElem?_map, hj]; rfl))) (Nat.ne_of_lt hm)
theorem at_dig {ms : List Str} {r : Nat} (h : 1 ≤ ms.length) : atI (ms.map V.str) ((r : Int).fmod ((ms.map V.str).length : Int)) = some (.str (ms.getD (r % ms.length) "")) := by
  have hm : r % ms.length < ms.length := Nat.mod_lt _ h
  have e : (r : Int).fmod ((ms.map V.str).length : Int) = ((r % ms.length : Nat) : Int) := by
    rw [List.length_map, Int.fmod_eq_emod_of_nonneg _ (by omega), Int.natCast_emod]
  rw [e]
  refine atI_nat ?_
  rw [List.getElem?_map, List.getD_eq_getElem?_getD, List.getElem?_eq_getElem hm]
  rfl
def sp_reqOf (K : PySem.W.Frag) (C : Addr) : Sp := fun vs H Q _ => ∃ (p : Addr) (fs : List Fld) (n : Nat), vs = [.ref p, .int n] ∧ SchAt K C H p fs ∧ (∀ f ∈ fs, 1 ≤ f.2.length ∧ f.2.length ≤ 3) ∧ fs.length ≤ 5 ∧ n < tot fs ∧
  ∀ (a : Addr) (H' : Hp), Same H H' → H a = none → H' a = some (.tup ((req fs n).map V.str)) → Q (.ref a) H'
theorem ok_Schema_request_of {f : Addr} {fd : FuncData} (T : Txt K mg) (F : Fun K "request_of" "Schema.request_of" s_Schema_request_of f fd) : FnOk P w K mg base CX0 1 f fd ["self", "number"] (sp_reqOf K (adr (mg "Schema"))) := by
  refine F.ok sc_Schema_request_of (fun vs H Q E h => ?_) (fun cdv A outer s H vs Q E hr h => ?_)
  · obtain ⟨p, fs, n, rfl, _⟩ := h
    rfl
  obtain ⟨p, fs, n, rfl, hS, hf, hl5, hn, q⟩ := h
  obtain ⟨dx, a, c, hp, hla, hch⟩ := hS.ob
  obtain ⟨c', xs, rfl, hc, hxl, hxs⟩ := cho_open hch
  refine ⟨_, (pss_cons (ps_if (PW.pt (pw_or (pt_cmpR op_lt (pv 1) pe_int (nomark _)) (pw_or1 (pt_cmpR op_ge (pv 1) (pe_fld (pv 0) rfl) (nomark _))))) (pss_one ps_never) pss_nil)
      (pss_cons (ps_set (i := 2) sc_Schema_request_of.nd rfl (.inl rfl) (pe_lst pa_nil))
      (pss_cons (ps_set (i := 3) sc_Schema_request_of.nd rfl (.inl rfl) (pv 1))
      (pss_cons (ps_for PassesOwn.never rfl (RT.pi_revA (by rfl) T.m_reversed (pe_fld (pv 0) rfl)) (pg_name (i := 4) sc_Schema_request_of.nd rfl (.inl rfl)) (pss_cons (ps_expr (pe_bm PySem.F.plainAttrs_list PySem.F.slot_list_append PySem.F.type_list_append mt_append (pv 2) (pa_cons (pe_ix (ix_tupK (K := K)) (pv 4) (pe_op op_modN (pv 3) (pe_callB (call_len_seqK (K := K)) (by rfl) T.m_len PySem.boot_len (pa_cons (pv 4) pa_nil))) (fun _ _ => rfl)) pa_nil)))
      (pss_one (ps_aug (i := 3) sc_Schema_request_of.nd rfl (.inl rfl) (pe_callB (call_len_seqK (K := K)) (by rfl) T.m_len PySem.boot_len (pa_cons (pv 4) pa_nil)) iop_fdiv))))
      (pss_one (ps_ret (RT.pe_tupRev rfl (by rfl) T.m_tuple (by rfl) T.m_reversed (pv 2)))))))), ?_⟩
  refine ⟨_, rfl, _, _, rfl, rfl, _, rfl, ifF (by omega) ⟨_, rfl, _, rfl, p, _, dx, _, _, rfl, hp, T.k_Schema, T.n_Schema_total, sch_total _ _ _, _, _, rfl, rfl, _, rfl, ifF (by omega) ?_⟩⟩
  refine ⟨Nat.zero_le _, fun D hD => ⟨_, rfl, ?_⟩⟩
  have s0 := same_new (o := .lst []) hD
  refine ⟨_, rfl, p, _, dx, _, _, rfl, s0 _ _ hp, T.k_Schema, T.n_Schema_choices, sch_choices _ _ _, c', xs, rfl, .inr ⟨Same.seqT s0 hc, ?_⟩⟩
  refine RT.for_ItvT (xs := xs) (fun i σ H' => ∃ x4 : Option V, σ = [some (.ref p), some (.int n), some (.ref D), some (.int (left (fs.reverse.take i) n)), x4] ∧ Same H H' ∧ H' D = some (.lst ((digs (fs.reverse.take i) n).map V.str)))
    ⟨none, rfl, s0, upd_same⟩ (fun i σ H' ⟨_, _, h, _⟩ => Same.seqT h hc) (fun i x σ H3 hi hx hI => ?_) (fun σ H2 hI => ?_)
  · obtain ⟨x4, rfl, sm, hD2⟩ := hI
    have hfi := List.getElem?_eq_getElem (show fs.length - 1 - i < fs.length by omega)
    generalize fs[fs.length - 1 - i] = fl at hfi
    have hfm := hf fl (List.mem_of_getElem? hfi)
    have hri : fs.reverse[i]? = some fl := by rw [List.getElem?_reverse (by omega)]; exact hfi
    rw [hxl] at hx
    obtain ⟨b, rfl, hb⟩ := hxs _ x fl hx hfi
    have hb3 := Same.seqT sm hb
    have hlen : (fl.2.map V.str).length = fl.2.length := List.length_map _
    refine ⟨_, rfl, .inl ⟨rfl, _, SqL.of hD2⟩, _, rfl, _, rfl, _, rfl, b, _, rfl, .inr hb3, _, _, rfl, rfl, by rw [hlen]; omega, b, _, _, .str (fl.2.getD (left (fs.reverse.take i) n % fl.2.length) ""), rfl, rfl, hb3, at_dig hfm.1, D, _, _, rfl, rfl, hD2, szt (by rw [List.length_map, digs_len, List.length_take]; omega), ?_⟩
    have sm4 : ∀ o, Same H (upd H3 D o) := fun o b' u e => by
      rw [upd_ne (ne_of_none e hD)]
      exact sm _ _ e
    refine ⟨_, rfl, _, rfl, b, _, rfl, .inr (Same.seqT (sm4 _) hb), _, _, rfl, rfl, ⟨by rw [hlen]; omega, by rw [hlen]; omega⟩, some (.ref b), ?_, sm4 _, ?_⟩
    · have e : ((left (fs.reverse.take i) n : Nat) : Int) / ((fl.2.map V.str).length : Int) = ((left (fs.reverse.take (i + 1)) n : Nat) : Int) := by
        rw [take_step hri, left_snoc, hlen, Int.natCast_ediv]
      rw [← e]
      rfl
    · rw [upd_same, take_step hri, digs_snoc, List.map_append]
      rfl
  · obtain ⟨x4, rfl, sm, hD2⟩ := hI
    rw [hxl, ← List.length_reverse (as := fs), List.take_length] at hD2
    refine ⟨_, rfl, D, _, rfl, SqL.of hD2, fun t ht => q t _ (sm.trans (same_new ht)) (sm.free ht) ?_⟩
    rw [upd_same]
    unfold req
    rw [List.map_reverse]
end
end Hr

set_option Elab.async false
set_option linter.all false
set_option maxRecDepth 100000
set_option maxHeartbeats 4000000
namespace Hr
open PySem PySem.Spec PyProof.Rows L2
section
variable {P : Program} {w : World} {K : PySem.W.Frag} {mg : Str → Option Value} {base : Heap}
def sp_check (K : PySem.W.Frag) (C : Addr) (n : Nat) : Sp := fun vs H Q _ => ∃ (p : Addr) (v : V) (fs : List Fld) (c : Cd), vs = [.ref p, v] ∧ SchAt K C H p fs ∧ FOk fs ∧ fs.length ≤ 5 ∧ Dp K H v (toD c) ∧ Gd fs n c ∧ size c ≤ 10000 ∧ ∀ H', Same H H' → Q .non H'
theorem FOk.strs' {fs : List Fld} (h : FOk fs) : ∀ f ∈ fs, PyData.strOk f.1 = true ∧ ∀ m ∈ f.2, PyData.strOk m = true := fun f hf => ⟨(h.1 f hf).1.ok, fun m hm => ((h.1 f hf).2.2.2.1.1 m hm).ok⟩
theorem ok_check_condition {f : Addr} {fd : FuncData} (n : Nat) (T : Txt K mg) (F : Fun K "check_condition" "check_condition" s_check_condition f fd) : FnOk P w K mg base CX0 (n + 3) f fd ["schema", "condition"] (sp_check K (adr (mg "Schema")) n) := by
  obtain ⟨f_tests_of, fd_tests_of, F_tests_of, b_tests_of, g_tests_of⟩ := T.h_tests_of
  obtain ⟨f_Schema_values_of, fd_Schema_values_of, F_Schema_values_of, b_Schema_values_of, m_Schema_values_of⟩ := T.h_Schema_values_of
  have G_tests_of := ok_tests_of (P := P) (w := w) (base := base) T F_tests_of n
  have G_Schema_values_of := ok_Schema_values_of (P := P) (w := w) (base := base) T F_Schema_values_of
  refine F.ok sc_check_condition (fun vs H Q E h => ?_) (fun cdv A outer s H vs Q E hr h => ?_)
  · obtain ⟨p, v, fs, c, rfl, _⟩ := h
    rfl
  obtain ⟨p, v, fs, c, rfl, hS, hf, hl5, hv, hg, hsz, q⟩ := h
  have hr_tests_of : Room (n + 2) _ := hr
  have hr_Schema_values_of : Room 1 _ := hr.mono (by omega)
  refine ⟨_, (pss_one (ps_for PassesOwn.never rfl (pi_listK (K := K) (pe_call G_tests_of hr_tests_of (by rfl) g_tests_of F_tests_of.kp b_tests_of .nil pass0 (pa_cons (pv 1) pa_nil))) (pg_tup rfl (pgs_cons (pg_name (i := 2) sc_check_condition.nd rfl (.inl rfl)) (pgs_cons (pg_name (i := 3) sc_check_condition.nd rfl (.inl rfl)) pgs_nil))) (pss_one (ps_if (pt_cmpR (op_notIn_seqK (K := K)) (pv 3) (pe_meth (pv 0) T.k_Schema m_Schema_values_of G_Schema_values_of hr_Schema_values_of b_Schema_values_of .nil pass0 (pa_cons (pv 2) pa_nil)) (by rfl)) (pss_one ps_never) pss_nil)))), ?_⟩
  refine ⟨_, rfl, v, c, rfl, hv, hg.wn hf.strs', hsz, fun l xs H1 s1 hl hl1 hxs => ⟨l, rfl, ⟨_, SqL.of hl1⟩, ?_⟩⟩
  have hxl := dpa_len' hxs
  refine for_it (walk_list (xs := xs)) (fun i σ H' => ∃ x2 x3 : Option V, σ = [some (.ref p), some v, x2, x3] ∧ Same H1 H')
    ⟨none, none, rfl, Same.refl _⟩ (fun i σ H' _ ⟨_, _, _, h⟩ => h.seq (SqL.of hl1)) (fun i x σ H2 H3 hi hI hy => ?_) (fun σ H2 hI => ?_)
  · obtain ⟨x2, x3, rfl, sm⟩ := hI
    obtain ⟨rfl, hx⟩ := hy
    have hpi := List.getElem?_eq_getElem (show i < (tests c).length by omega)
    generalize (tests c)[i] = pr at hpi
    obtain ⟨fl, hfl, e1, e2⟩ := gd_tests hg pr (tests_sub (List.mem_of_getElem? hpi))
    have hd := dp_mono (dl_le.trans sm) (dpa_get' hxs hx hpi)
    obtain ⟨pf, pg⟩ := pr
    obtain rfl : fl.1 = pf := e1
    cases hd with
    | tup h1 h2 =>
      rename_i b ys
      have ey : ys = [fl.1, pg].map V.str := strs_inv (ss := [fl.1, pg]) h2
      subst ey
      refine ⟨b, _, rfl, h1, rfl, _, _, rfl, _, _, rfl, rfl, ?_⟩
      have hS3 := hS.same (s1.trans sm)
      obtain ⟨dx, a', c', hpS, hla, hch⟩ := hS3.ob
      refine ⟨_, rfl, _, rfl, p, dx, _, rfl, hpS, sch_no _ _ _ (by decide +kernel) (by decide +kernel) (by decide +kernel), _, rfl, p, fs, fl, rfl, hS3, hfl, hf.2.1, hl5, fun l2 H4 s4 hl2 hl24 => ⟨l2, _, rfl, .inl (SqL.of hl24), rfl, flat_strs _, _, rfl, bF (by show (!inV _ _) = false; rw [inV_str, decide_eq_true e2]; rfl) ⟨_, _, rfl, sm.trans s4⟩⟩⟩
  · obtain ⟨x2, x3, rfl, sm⟩ := hI
    exact q _ (s1.trans sm)
def sp_holds (K : PySem.W.Frag) (n : Nat) : Sp := fun vs H Q _ => ∃ (a r : Addr) (v : V) (fs : List Fld) (rq : List Str) (c : Cd), vs = [.ref a, v, .ref r] ∧ SqL K H a ((fs.map (·.1)).map V.str) ∧ SqT K H r (rq.map V.str) ∧ rq.length = fs.length ∧ FOk fs ∧ Dp K H v (toD c) ∧ Gd fs n c ∧ ∀ H', Same H H' → Q (.bl (ev fs rq c)) H'
theorem none_holds {f : Addr} {fd : FuncData} {ps : List Str} {k : Nat} : FnOk P w K mg base CX0 k f fd ps (sp_holds K 0) := by
  have no : ∀ vs H Q E, ¬ sp_holds K 0 vs H Q E := fun vs H Q E h => by
    obtain ⟨_, _, _, _, _, c, _, _, _, _, _, _, hw, _⟩ := h
    cases c <;> exact hw
  exact ⟨fun vs H Q E h => absurd h (no vs H Q E), fun A outer s H args us vs Q E _ _ _ _ h => absurd h (no vs H Q E)⟩
theorem ok_holds_step {f : Addr} {fd : FuncData} {n : Nat} (T : Txt K mg) (F : Fun K "holds" "holds" s_holds f fd) (G_holds : FnOk P w K mg base CX0 (n + 1) f fd ["fields", "condition", "request"] (sp_holds K n)) (b_holds : Binds K fd ["fields", "condition", "request"] []) (g_holds : mg "holds" = some (.ref f)) : FnOk P w K mg base CX0 (n + 2) f fd ["fields", "condition", "request"] (sp_holds K (n + 1)) := by

  have F_holds := F
  refine F.ok sc_holds (fun vs H Q E h => ?_) (fun cdv A outer s H vs Q E hr h => ?_)
  · obtain ⟨a, r, v, fs, rq, c, rfl, _⟩ := h
    rfl
  obtain ⟨a, r, v, fs, rq, c, rfl, ha, hr', hrl, hf, hv, hg, q⟩ := h
  have hr_holds : Room (n + 1) _ := hr
  refine ⟨_, (pss_cons (ps_set (i := 3) sc_holds.nd rfl (.inl rfl) (pe_ix (ix_tupK (K := K)) (pv 1) pe_int (fun _ _ => rfl)))
      (pss_cons (ps_if (pt_cmpR op_eq (pv 3) pe_str (nomark _)) (pss_one (ps_ret pe_bl)) pss_nil)
      (pss_cons (ps_if (pt_cmpR op_eq (pv 3) pe_str (nomark _)) (pss_one (ps_ret (pe_cmpR op_eq (pe_ix (ix_tupK (K := K)) (pv 2) (pe_bm PySem.F.plainAttrs_list PySem.F.slot_list_index PySem.F.type_list_index mt_index (pv 0) (pa_cons (pe_ix (ix_tupK (K := K)) (pv 1) pe_int (fun _ _ => rfl)) pa_nil)) (fun _ _ => rfl)) (pe_ix (ix_tupK (K := K)) (pv 1) pe_int (fun _ _ => rfl)) (nomark _)))) pss_nil)
      (pss_cons (ps_if (pt_cmpR op_eq (pv 3) pe_str (nomark _)) (pss_one (ps_ret (pe_not (pe_call G_holds hr_holds (by rfl) g_holds F_holds.kp b_holds .nil pass0 (pa_cons (pv 0) (pa_cons (pe_ix (ix_tupK (K := K)) (pv 1) pe_int (fun _ _ => rfl)) (pa_cons (pv 2) pa_nil))))))) pss_nil)
      (pss_cons (ps_setLc (i := 4) (own := [("part", 5)]) (g := gName 5) rfl sc_holds.nd rfl rfl (sw_true rfl rfl rfl (by decide +kernel)) (pi_tupK (K := K) (pe_slice (sl_tupK (K := K)) (pv 1) (po_some pe_int) po_none)) (blkOk_by (own := [("part", 5)]) (N := N_holds) (sc := defScope s_holds) (by decide +kernel)) (fun _ _ _ _ _ => pg_name (i := 5) sc_holds.nd rfl (.inl rfl)) (fun _ _ _ _ _ => pts_nil) (fun _ _ _ _ _ => (pe_call G_holds hr_holds (by rfl) g_holds F_holds.kp b_holds .nil pass0 (pa_cons (pv 0) (pa_cons (pv 5) (pa_cons (pv 2) pa_nil))))))
      (pss_cons (ps_if (pt_cmpR op_eq (pv 3) pe_str (nomark _)) (pss_one (ps_ret (pe_callB (cr_allK (K := K) rfl) (by rfl) T.m_all (by decide +kernel) (pa_cons (pv 4) pa_nil)))) pss_nil)
      (pss_one (ps_ret (pe_callB (cr_anyK (K := K) rfl) (by rfl) T.m_any (by decide +kernel) (pa_cons (pv 4) pa_nil)))))))))), ?_⟩
  cases c with
  | any =>
    unfold toD at hv
    cases hv with
    | tup hs ht =>
      cases ht with
      | cons y1 ht =>
        cases y1
        cases ht
        rename_i t
        refine ⟨_, rfl, t, _, 0, .str "any", rfl, rfl, hs, at0 _ _, _, rfl, rfl, _, rfl, ifT rfl ?_⟩
        have e : ev fs rq .any = true := by unfold ev; rfl
        exact e ▸ q _ (Same.refl _)
  | test ff gg =>
    unfold toD at hv
    cases hv with
    | tup hs ht =>
      rename_i t ys
      have ey : ys = ([("test" : Str), ff, gg] : List Str).map V.str := strs_inv (ss := [("test" : Str), ff, gg]) ht
      subst ey
      obtain ⟨fl, hfl, rfl, hgv⟩ := hg
      refine ⟨_, rfl, t, _, 0, .str "test", rfl, rfl, hs, at0 _ _, _, rfl, rfl, _, rfl, ifF (by decide +kernel) ⟨_, rfl, rfl, _, rfl, ifT rfl ?_⟩⟩
      have hin : fl.1 ∈ fs.map (·.1) := List.mem_map.mpr ⟨fl, hfl, rfl⟩
      have hj : (fs.map (·.1)).idxOf fl.1 < (fs.map (·.1)).length := List.idxOf_lt_length_iff.mpr hin
      have hj' : (fs.map (·.1)).idxOf fl.1 < rq.length := by rw [hrl]; simpa using hj
      refine ⟨_, rfl, _, rfl, .inl ⟨rfl, _, ha⟩, _, rfl, t, _, 1, .str fl.1, rfl, rfl, hs, rfl, a, _, _, (fs.map (·.1)).idxOf fl.1, .str fl.1, rfl, rfl, ha, rfl, flat_strs _, ?_, ?_, ?_, r, _, _, .str (rq.getD ((fs.map (·.1)).idxOf fl.1) ""), rfl, rfl, hr', ?_, ?_⟩
      · rw [List.getElem?_map, List.getElem?_eq_getElem hj, List.getElem_idxOf hj]
        rfl
      · exact beq_self_eq_true _
      · intro m z' hm hz
        obtain ⟨s', hs', rfl⟩ := str_at hz
        show (s' == fl.1) = false
        rw [beq_eq_false_iff_ne]
        rintro rfl
        exact absurd hs' (idx_first hm)
      · refine atI_nat ?_
        rw [List.getElem?_map, List.getD_eq_getElem?_getD, List.getElem?_eq_getElem hj']
        rfl
      · refine ⟨_, rfl, t, _, 2, .str gg, rfl, rfl, hs, rfl, rfl, ?_⟩
        have e := ev_test fs rq fl.1 gg
        rw [e] at q
        exact q _ (Same.refl _)
  | node k cs =>
    unfold toD at hv
    rw [toDs_map] at hv
    cases hv with
    | tup hs ht =>
      cases ht with
      | cons y1 ht =>
        cases y1
        rename_i t xs
        have hxl := dpa_len' ht
        have k1 : k ≠ "any" := by rcases hg.1 with ⟨rfl, _⟩ | ⟨rfl | rfl, _⟩ <;> decide +kernel
        have k2 : k ≠ "test" := by rcases hg.1 with ⟨rfl, _⟩ | ⟨rfl | rfl, _⟩ <;> decide +kernel
        refine ⟨_, rfl, t, _, 0, .str k, rfl, rfl, hs, at0 _ _, _, rfl, rfl, _, rfl, ifF (fun z => k1 (V.str.inj z)) ⟨_, rfl, rfl, _, rfl, ifF (fun z => k2 (V.str.inj z)) ⟨_, rfl, rfl, _, rfl, ite2 (fun c3 => ?_) (fun c3 => ?_)⟩⟩⟩
        · have e3 : k = "not" := V.str.inj (of_decide_eq_true c3)
          rcases hg.1 with ⟨_, h1⟩ | ⟨rfl | rfl, _⟩
          · obtain ⟨c0, rfl⟩ := one_of h1
            obtain ⟨x0, rfl⟩ := one_of (hxl.trans h1)
            cases ht with
            | cons y2 ht2 =>
              refine ⟨_, rfl, _, rfl, t, _, 1, x0, rfl, rfl, hs, rfl, _, rfl, a, r, x0, fs, rq, c0, rfl, ha, hr', hrl, hf, y2, hg.2 c0 List.mem_cons_self, fun H1 s1 => ⟨_, rfl, ?_⟩⟩
              have e : ev fs rq (.node k [c0]) = !(ev fs rq c0) := by
                rw [ev_node, if_pos e3]
                rfl
              exact e ▸ q _ s1
          · exact absurd e3 (by decide +kernel)
          · exact absurd e3 (by decide +kernel)
        · have k3 : k ≠ "not" := fun z => c3 (decide_eq_true (congrArg V.str z))
          refine ⟨_, rfl, 1, rfl, t, _, rfl, hs, fun z => absurd z (cut_tail_ne _ _), fun _ t2 ht2 => ?_⟩
          rw [cut_tail]
          have s2 := same_new (o := .tup xs) ht2
          have hL : SqT K (upd H t2 (.tup xs)) t2 xs := SqT.of upd_same
          refine ⟨t2, rfl, ⟨_, hL⟩, fun D hD => ?_⟩
          have hcl : cs.length ≤ 3 := by rcases hg.1 with ⟨_, h⟩ | ⟨_, _, h⟩ <;> omega
          refine lc_each cs hxl walk_tup hD (fun c => .bl (ev fs rq c)) (fun H' s' => Same.seqT s' hL) (by omega) (fun i x pc H2 Qe Z hx hpc sm hq => ?_) (fun H2 sm hD2 => ?_)
          · refine ⟨rfl, yes ?_⟩
            have sA := s2.trans sm
            exact ⟨_, rfl, _, rfl, _, rfl, a, r, x, fs, rq, pc, rfl, sA.seq ha, Same.seqT sA hr', hrl, hf, dp_mono sA (dpa_get' ht hx hpc), hg.2 pc (List.mem_of_getElem? hpc), fun H4 s4 => hq H4 s4⟩
          · dsimp only [gName]
            have eD : H2 D = some (.lst ((cs.map (ev fs rq)).map V.bl)) := by rw [hD2, List.map_map]; rfl
            refine ⟨_, rfl, rfl, _, rfl, ite2 (fun c4 => ?_) (fun c4 => ?_)⟩
            · have e : ev fs rq (.node k cs) = (cs.map (ev fs rq)).all id := by
                rw [ev_node, if_neg k3, if_pos (V.str.inj (of_decide_eq_true c4))]
              rw [e] at q
              exact ⟨_, rfl, D, _, rfl, SqL.of eD, q _ (s2.trans sm)⟩
            · have e : ev fs rq (.node k cs) = (cs.map (ev fs rq)).any id := by
                rw [ev_node, if_neg k3, if_neg fun z => c4 (decide_eq_true (congrArg V.str z))]
              rw [e] at q
              exact ⟨_, rfl, D, _, rfl, SqL.of eD, q _ (s2.trans sm)⟩
end
end Hr

set_option Elab.async false
set_option linter.all false
set_option maxRecDepth 100000
set_option maxHeartbeats 4000000
namespace Hr
open PySem PySem.Spec PyProof.Rows L2
section
variable {P : Program} {w : World} {K : PySem.W.Frag} {mg : Str → Option Value} {base : Heap}
theorem ok_holds (T : Txt K mg) {f : Addr} {fd : FuncData} (F : Fun K "holds" "holds" s_holds f fd) (b : Binds K fd ["fields", "condition", "request"] []) (g : mg "holds" = some (.ref f)) : ∀ n, FnOk P w K mg base CX0 (n + 1) f fd ["fields", "condition", "request"] (sp_holds K n)
  | 0 => none_holds
  | n + 1 => ok_holds_step T F (ok_holds T F b g n) b g
def trs (fs : List Fld) (c : Cd) : List Bool := (List.range (tot fs)).map fun i => ev fs (req fs i) c
theorem req_len (fs : List Fld) (n : Nat) : (req fs n).length = fs.length := by
  unfold req
  rw [List.length_reverse, digs_len, List.length_reverse]
def sp_truths (K : PySem.W.Frag) (C : Addr) (n : Nat) : Sp := fun vs H Q _ => ∃ (p : Addr) (v : V) (fs : List Fld) (c : Cd), vs = [.ref p, v] ∧ SchAt K C H p fs ∧ FOk fs ∧ fs.length ≤ 5 ∧ tot fs ≤ 400 ∧ Dp K H v (toD c) ∧ Gd fs n c ∧
  ∀ (l : Addr) (H' : Hp), Same H H' → H l = none → H' l = some (.lst ((trs fs c).map V.bl)) → Q (.ref l) H'
theorem ok_truths {f : Addr} {fd : FuncData} (n : Nat) (T : Txt K mg) (F : Fun K "truths" "truths" s_truths f fd) : FnOk P w K mg base CX0 (n + 2) f fd ["schema", "condition"] (sp_truths K (adr (mg "Schema")) n) := by
  obtain ⟨f_Schema_fields, fd_Schema_fields, F_Schema_fields, b_Schema_fields, m_Schema_fields⟩ := T.h_Schema_fields
  obtain ⟨f_holds, fd_holds, F_holds, b_holds, g_holds⟩ := T.h_holds
  obtain ⟨f_Schema_request_of, fd_Schema_request_of, F_Schema_request_of, b_Schema_request_of, m_Schema_request_of⟩ := T.h_Schema_request_of
  obtain ⟨f_Schema_size, fd_Schema_size, F_Schema_size, b_Schema_size, m_Schema_size⟩ := T.h_Schema_size
  have G_holds := ok_holds (P := P) (w := w) (base := base) T F_holds b_holds g_holds n
  have G_Schema_fields := ok_Schema_fields (P := P) (w := w) (base := base) T F_Schema_fields
  have G_Schema_size := ok_Schema_size (P := P) (w := w) (base := base) T F_Schema_size
  have G_Schema_request_of := ok_Schema_request_of (P := P) (w := w) (base := base) T F_Schema_request_of
  refine F.ok sc_truths (fun vs H Q E h => ?_) (fun cdv A outer s H vs Q E hr h => ?_)
  · obtain ⟨p, v, fs, c, rfl, _⟩ := h
    rfl
  obtain ⟨p, v, fs, c, rfl, hS, hf, hl5, htot, hv, hg, q⟩ := h
  have hr_holds : Room (n + 1) _ := hr
  have hr_Schema_fields : Room 1 _ := hr.mono (by omega)
  have hr_Schema_size : Room 1 _ := hr.mono (by omega)
  have hr_Schema_request_of : Room 1 _ := hr.mono (by omega)
  refine ⟨_, (pss_cons (ps_set (i := 2) sc_truths.nd rfl (.inr rfl) (pe_meth0 (pv 0) T.k_Schema m_Schema_fields G_Schema_fields hr_Schema_fields b_Schema_fields .nil pass0))
      (pss_one (ps_ret (pe_lc (own := [("number", 3)]) (g := gName 3) (by rfl) sc_truths.nd (pi_range1 (by rfl) T.m_range (pa_cons (pe_meth0 (pv 0) T.k_Schema m_Schema_size G_Schema_size hr_Schema_size b_Schema_size .nil pass0) pa_nil)) (blkOk_by (own := [("number", 3)]) (N := N_truths) (sc := defScope s_truths) (by decide +kernel)) (fun _ _ _ _ _ => pg_name (i := 3) sc_truths.nd rfl (.inl rfl)) (fun _ _ _ _ _ => pts_nil) (fun _ _ _ _ _ => (pe_call G_holds hr_holds (by rfl) g_holds F_holds.kp b_holds .nil pass0 (pa_cons (pv 2) (pa_cons (pv 1) (pa_cons (pe_meth (pv 0) T.k_Schema m_Schema_request_of G_Schema_request_of hr_Schema_request_of b_Schema_request_of .nil pass0 (pa_cons (pv 3) pa_nil)) pa_nil))))))))), ?_⟩
  have no : ∀ {m : Str} (a c : V) (k : Int), ¬ m = "total" → ¬ m = "choices" → ¬ m = "labels" → (sch a c k).lookup m = none := fun a c k => sch_no a c k
  obtain ⟨dx, la, ch, hp, _, _⟩ := hS.ob
  refine ⟨_, rfl, p, dx, _, rfl, hp, no _ _ _ (by decide +kernel) (by decide +kernel) (by decide +kernel), p, fs, rfl, hS, fun a H1 s1 ha ha1 => ?_⟩
  refine ⟨_, rfl, p, dx, _, rfl, s1 _ _ hp, no _ _ _ (by decide +kernel) (by decide +kernel) (by decide +kernel), p, fs, rfl, hS.same s1, fun H2 s2 => ?_⟩
  refine ⟨_, rfl, by omega, by omega, fun D hD => ?_⟩
  have s12 := s1.trans s2
  refine lc_val walk_range hD (fun i => .bl (ev fs (req fs i) c)) (fun _ _ => trivial) (by omega) (fun i x H3 H4 Qe Z hi sm hq hy => ?_) (fun H3 sm hL => ?_)
  · obtain ⟨rfl, rfl⟩ := hy
    have s3 := s12.trans sm
    refine ⟨rfl, yes ?_⟩
    refine ⟨_, rfl, _, rfl, _, rfl, p, dx, _, rfl, s3 _ _ hp, no _ _ _ (by decide +kernel) (by decide +kernel) (by decide +kernel), _, rfl, p, fs, i, by show [V.ref p, V.int (0 + (i : Int))] = _; rw [Int.zero_add], hS.same s3, fun f hf' => ⟨(hf.1 f hf').2.2.2.2.1, (hf.1 f hf').2.2.2.2.2⟩, hl5, by omega, fun r H5 s5 hr5 hr6 => ?_⟩
    have s6 := s3.trans s5
    exact ⟨a, r, v, fs, req fs i, c, rfl, (s2.trans (sm.trans s5)).seq (SqL.of ha1), SqT.of hr6, req_len fs i, hf, dp_mono s6 hv, hg, fun H6 s7 => hq _ (s5.trans s7)⟩
  · have eL : H3 D = some (.lst ((trs fs c).map V.bl)) := by
      rw [hL]
      unfold trs
      rw [List.map_map]
      rfl
    exact q D _ (s12.trans sm) (s12.free hD) eL
def mat (fs : List Fld) (c : Cd) : List Nat := (List.range (tot fs)).filter fun i => ev fs (req fs i) c
def sp_matching (K : PySem.W.Frag) (C : Addr) (n : Nat) : Sp := fun vs H Q _ => ∃ (p : Addr) (v : V) (fs : List Fld) (c : Cd), vs = [.ref p, v] ∧ SchAt K C H p fs ∧ FOk fs ∧ fs.length ≤ 5 ∧ tot fs ≤ 400 ∧ Dp K H v (toD c) ∧ Gd fs n c ∧ size c ≤ 10000 ∧
  ∀ (l : Addr) (H' : Hp), Same H H' → H l = none → H' l = some (.lst ((mat fs c).map fun i => V.int (i : Nat))) → Q (.ref l) H'
theorem ok_matching {f : Addr} {fd : FuncData} (n : Nat) (T : Txt K mg) (F : Fun K "matching" "matching" s_matching f fd) : FnOk P w K mg base CX0 (n + 4) f fd ["schema", "condition"] (sp_matching K (adr (mg "Schema")) n) := by
  obtain ⟨f_check_condition, fd_check_condition, F_check_condition, b_check_condition, g_check_condition⟩ := T.h_check_condition
  obtain ⟨f_truths, fd_truths, F_truths, b_truths, g_truths⟩ := T.h_truths
  have G_check_condition := ok_check_condition (P := P) (w := w) (base := base) n T F_check_condition
  have G_truths := ok_truths (P := P) (w := w) (base := base) n T F_truths
  refine F.ok sc_matching (fun vs H Q E h => ?_) (fun cdv A outer s H vs Q E hr h => ?_)
  · obtain ⟨p, v, fs, c, rfl, _⟩ := h
    rfl
  obtain ⟨p, v, fs, c, rfl, hS, hf, hl5, htot, hv, hg, hsz, q⟩ := h
  have hr_check_condition : Room (n + 3) _ := hr
  have hr_truths : Room (n + 2) _ := hr.mono (by omega)
  refine ⟨_, (pss_cons (ps_expr (pe_call G_check_condition hr_check_condition (by rfl) g_check_condition F_check_condition.kp b_check_condition .nil pass0 (pa_cons (pv 0) (pa_cons (pv 1) pa_nil))))
      (pss_one (ps_ret (pe_lc (own := [("number", 2), ("matched", 3)]) (g := gTup K 2 (gCons (gName 2) (gCons (gName 3) gNil))) (by rfl) sc_matching.nd (pi_enum (by rfl) T.m_enumerate (pa_cons (pe_call G_truths hr_truths (by rfl) g_truths F_truths.kp b_truths .nil pass0 (pa_cons (pv 0) (pa_cons (pv 1) pa_nil))) pa_nil)) (blkOk_by (own := [("number", 2), ("matched", 3)]) (N := N_matching) (sc := defScope s_matching) (by decide +kernel)) (fun _ _ _ _ _ => pg_tup rfl (pgs_cons (pg_name (i := 2) sc_matching.nd rfl (.inl rfl)) (pgs_cons (pg_name (i := 3) sc_matching.nd rfl (.inl rfl)) pgs_nil))) (fun _ _ _ _ _ => (pts_one (pt_val (pv 3)))) (fun _ _ _ _ _ => (pv 2)))))), ?_⟩
  refine ⟨_, rfl, _, rfl, p, v, fs, c, rfl, hS, hf, hl5, hv, hg, hsz, fun H1 s1 => ⟨_, rfl, _, rfl, p, v, fs, c, rfl, hS.same s1, hf, hl5, htot, dp_mono s1 hv, hg, fun l H2 s2 hl hl2 => ⟨l, _, rfl, SqL.of hl2, fun D hD => ?_⟩⟩⟩
  have hlen : ((trs fs c).map V.bl).length = tot fs := by
    unfold trs
    simp
  have s12 := s1.trans s2
  refine lc_pick (walk_enum (K := K) (a := l) (xs := (trs fs c).map V.bl)) hD (fun i => .int (i : Nat)) (fun i => ev fs (req fs i) c) (fun H' s' => s'.seq (SqL.of hl2)) (by omega) (fun i x H3 H4 R Z hi sm hY hR hZ => ?_) (fun H3 sm hL => ?_)
  · obtain ⟨t, u, y, rfl, ht, rfl, e1, e2⟩ := hY
    obtain rfl : V.int (i : Nat) = u := Option.some.inj e1
    have ey : y = .bl (ev fs (req fs i) c) := by
      have e3 : ((trs fs c).map V.bl)[i]? = some y := e2
      unfold trs at e3
      rw [List.map_map, List.getElem?_map, List.getElem?_range (by omega)] at e3
      exact (Option.some.inj e3).symm
    subst ey
    have st := same_new (o := .tup [.int (i : Nat), .bl (ev fs (req fs i) c)]) ht
    refine ⟨t, _, rfl, SqT.of upd_same, rfl, _, _, rfl, _, _, rfl, rfl, rfl, _, rfl, _, rfl, ?_⟩
    refine ite2 (fun cT => ⟨_, rfl, hR cT _ st⟩) (fun cF => hZ (Bool.eq_false_iff.mpr cF) _ st)
  · rw [hlen] at hL
    exact q D _ (s12.trans sm) (s12.free hD) hL
def sp_lsize (K : PySem.W.Frag) : Sp := fun vs H Q _ => ∃ (v : V) (fs : List Fld), vs = [v] ∧ Dp K H v (fldsD fs) ∧ (∀ f ∈ fs, f.2.length ≤ 3) ∧ ∀ H', Same H H' → Q (.int (tot fs)) H'
theorem fld_open {H : Hp} {x : V} {f : Fld} (h : Dp K H x (fldD f)) : ∃ (t m : Addr), x = .ref t ∧ SqT K H t [.str f.1, .ref m] ∧ SqL K H m (f.2.map V.str) := by
  unfold fldD at h
  cases h with
  | tup h1 h2 =>
    cases h2 with
    | cons y1 r1 =>
      cases y1
      cases r1 with
      | cons y2 r2 =>
        cases r2
        cases y2 with
        | lst h3 h4 =>
          obtain rfl := strs_inv h4
          exact ⟨_, _, rfl, h1, h3⟩
theorem ok__law_size {f : Addr} {fd : FuncData} (T : Txt K mg) (F : Fun K "_law_size" "_law_size" s__law_size f fd) : FnOk P w K mg base CX0 1 f fd ["_law_fields_here"] (sp_lsize K) := by
  refine F.ok sc__law_size (fun vs H Q E h => ?_) (fun cdv A outer s H vs Q E hr h => ?_)
  · obtain ⟨v, fs, rfl, _⟩ := h
    rfl
  obtain ⟨v, fs, rfl, hv, hf, q⟩ := h
  refine ⟨_, (pss_cons (ps_set (i := 1) sc__law_size.nd rfl (.inl rfl) pe_int)
      (pss_cons (ps_for PassesOwn.never rfl (pi_listK (K := K) (pv 0)) (pg_tup rfl (pgs_cons (pg_name (i := 2) sc__law_size.nd rfl (.inl rfl)) (pgs_cons (pg_name (i := 3) sc__law_size.nd rfl (.inl rfl)) pgs_nil))) (pss_one (ps_set (i := 1) sc__law_size.nd rfl (.inl rfl) (pe_op op_mul (pv 1) (pe_callB (call_len_seqK (K := K)) (by rfl) T.m_len PySem.boot_len (pa_cons (pv 3) pa_nil))))))
      (pss_one (ps_ret (pv 1))))), ?_⟩
  cases hv with
  | lst hs ht =>
    rename_i a xs
    have hl := dpa_len' ht
    refine ⟨_, rfl, a, rfl, ⟨_, hs⟩, ?_⟩
    refine for_it (walk_list (xs := xs)) (fun i σ H' => ∃ x2 x3 : Option V, σ = [some (.ref a), some (.int (tot (fs.take i))), x2, x3] ∧ Same H H')
      ⟨none, none, rfl, Same.refl _⟩ (fun i σ H' _ ⟨_, _, _, h⟩ => h.seq hs) (fun i x σ H2 H3 hi hI hy => ?_) (fun σ H2 hI => ?_)
    · obtain ⟨x2, x3, rfl, sm⟩ := hI
      obtain ⟨rfl, hx⟩ := hy
      have hfi := List.getElem?_eq_getElem (show i < fs.length by omega)
      generalize fs[i] = fl at hfi
      have hfm := hf fl (List.mem_of_getElem? hfi)
      obtain ⟨t, m, rfl, h1, h2⟩ := fld_open (dp_mono sm (dpa_get' ht hx hfi))
      refine ⟨t, _, rfl, h1, rfl, _, _, rfl, _, _, rfl, rfl, ?_⟩
      refine ⟨_, rfl, _, rfl, m, _, rfl, .inl h2, _, _, rfl, rfl, .inr ⟨by rw [List.length_map]; omega, by rw [List.length_map]; omega⟩, ?_⟩
      refine ⟨some (.str fl.1), some (.ref m), ?_, sm⟩
      have e : ((tot (fs.take i) : Int) * ((fl.2.map V.str).length : Int)) = ((tot (fs.take (i + 1)) : Nat) : Int) := by
        rw [take_step hfi, tot_snoc, List.length_map, Int.natCast_mul]
      rw [← e]
      rfl
    · obtain ⟨x2, x3, rfl, sm⟩ := hI
      rw [hl, List.take_length]
      exact ⟨_, rfl, q _ sm⟩
def sp_lschema (K : PySem.W.Frag) (C : Addr) : Sp := fun vs H Q _ => ∃ (v : V) (fs : List Fld), vs = [v] ∧ Dp K H v (fldsD fs) ∧ FOk fs ∧ fs.length ≤ 5 ∧ tot fs ≤ 400 ∧ ∀ (p : Addr) (H' : Hp), Same H H' → SchAt K C H' p fs → Q (.ref p) H'
theorem ok__law_schema {f : Addr} {fd : FuncData} (T : Txt K mg) (F : Fun K "_law_schema" "_law_schema" s__law_schema f fd) : FnOk P w K mg base CX0 7 f fd ["_law_fields_here"] (sp_lschema K (adr (mg "Schema"))) := by
  obtain ⟨f_Schema___init__, fd_Schema___init__, F_Schema___init__, b_Schema___init__, m_Schema___init__⟩ := T.h_Schema___init__
  have G_Schema___init__ := ok_Schema___init__ (P := P) (w := w) (base := base) T F_Schema___init__
  refine F.ok sc__law_schema (fun vs H Q E h => ?_) (fun cdv A outer s H vs Q E hr h => ?_)
  · obtain ⟨v, fs, rfl, _⟩ := h
    rfl
  obtain ⟨v, fs, rfl, hv, hf, hl5, htot, q⟩ := h
  have hr_Schema___init__ : Room 6 _ := hr
  refine ⟨_, (pss_one (ps_ret (pe_make m_Schema___init__ G_Schema___init__ hr_Schema___init__ (by rfl) T.g_Schema b_Schema___init__ .nil pass0 (pa_cons (pe_lc (own := [("_law_name", 1), ("_law_marks_here", 2)]) (g := gTup K 2 (gCons (gName 1) (gCons (gName 2) gNil))) (by rfl) sc__law_schema.nd (pi_listK (K := K) (pv 0)) (blkOk_by (own := [("_law_name", 1), ("_law_marks_here", 2)]) (N := N__law_schema) (sc := defScope s__law_schema) (by decide +kernel)) (fun _ _ _ _ _ => pg_tup rfl (pgs_cons (pg_name (i := 1) sc__law_schema.nd rfl (.inl rfl)) (pgs_cons (pg_name (i := 2) sc__law_schema.nd rfl (.inl rfl)) pgs_nil))) (fun _ _ _ _ _ => pts_nil) (fun _ _ _ _ _ => (pe_tup (pa_cons (pv 1) (pa_cons (pe_callTy (call_list_ofK (K := K)) (by rfl) T.m_list (by decide +kernel) (pa_cons (pv 2) pa_nil)) pa_nil))))) pa_nil)))), ?_⟩
  cases hv with
  | lst hs ht =>
    rename_i a xs
    have hl := dpa_len' ht
    refine ⟨_, rfl, a, rfl, ⟨_, hs⟩, fun D hD => ?_⟩
    refine lc_dat (walk_list (xs := xs)) [] hD (fun i y G => ∃ fl : Fld, fs[i]? = some fl ∧ Dp K G y (fldD fl)) (fun i y G G' sm ⟨fl, h1, h2⟩ => ⟨fl, h1, dp_mono sm h2⟩) (fun H' s' => s'.seq hs) (by omega) (fun i x H2 H3 Qe Z hi sm sd hDl hq hy => ?_) (fun H2 ys sm hyl hD2 hp => ?_)
    · obtain ⟨rfl, hx⟩ := hy
      have hfi := List.getElem?_eq_getElem (show i < fs.length by omega)
      generalize fs[i] = fl at hfi
      obtain ⟨t, m, rfl, h1, h2⟩ := fld_open (dp_mono sm (dpa_get' ht hx hfi))
      refine ⟨t, _, rfl, h1, rfl, _, _, rfl, _, _, rfl, rfl, rfl, yes ?_⟩
      obtain ⟨ds, hds⟩ := hDl
      refine ⟨_, rfl, _, rfl, m, _, rfl, .inl h2, fun l hl' => ⟨by show 2 ≤ sizeLine; decide, fun t2 ht2 => ?_⟩⟩
      have sl := same_new (o := .lst (fl.2.map V.str)) hl'
      have st := same_new (o := .tup [.str fl.1, .ref l]) ht2
      have nlD : l ∉ [D] := fun z => by rw [List.mem_singleton.mp z, hds] at hl'; cases hl'
      have ntD : t2 ∉ [D] := fun z => by rw [List.mem_singleton.mp z, sl _ _ hds] at ht2; cases ht2
      refine hq _ _ (sl.trans st) ⟨fl, hfi, .tup (SqT.of (by rw [dl_ne ntD, upd_same])) (.cons (.str _) (.cons (.lst (SqL.of ?_) (dpa_strs _)) .nil))⟩
      rw [dl_ne nlD]
      exact st _ _ upd_same
    · intro x dx hx hdx hne
      have hxs : DpAll K (dl H2 [D]) ys (fs.map fldD) := dpa_of (by rw [List.length_map]; omega) fun i y d hy hd => by
        obtain ⟨fl, h1, h2⟩ := hp i y hy
        rw [List.getElem?_map, h1] at hd
        cases hd
        exact h2
      have s3 := same_new (o := .own x) hdx
      have hx3 : (upd H2 dx (.own x)) x = none := by rw [upd_ne hne.symm]; exact hx
      have s4 := same_new (o := .ins (adr (mg "Schema")) dx []) hx3
      have s34 := s3.trans s4
      refine ⟨x, dx, .ref D, fs, rfl, upd_same, .lst (SqL.of (s34 _ _ hD2)) (dpa_mono (dl_le.trans s34) hxs), hf, hl5, htot, fun H5 k5 hS => ⟨rfl, q x H5 (fun b o e => ?_) hS⟩⟩
      exact k5 b o (ne_of_none (sm _ _ e) hx) (s34 _ _ (sm _ _ e))
end
end Hr

set_option Elab.async false
set_option linter.all false
set_option maxRecDepth 100000
set_option maxHeartbeats 4000000
namespace Hr
open PySem PySem.Spec PyProof.Rows L2
section
variable {P : Program} {w : World} {K : PySem.W.Frag} {mg : Str → Option Value} {base : Heap}
theorem ok__law_same_step {f : Addr} {fd : FuncData} {n : Nat} (T : Txt K mg) (F : Fun K "_law_same" "_law_same" s__law_same f fd) (G__law_same : FnOk P w K mg base CX0 n f fd ["_law_found", "_law_due"] (sp_same K n)) (b__law_same : Binds K fd ["_law_found", "_law_due"] []) (g__law_same : mg "_law_same" = some (.ref f)) : FnOk P w K mg base CX0 (n + 1) f fd ["_law_found", "_law_due"] (sp_same K (n + 1)) := by
  have F__law_same := F
  refine F.ok sc__law_same (fun vs H Q E h => ?_) (fun cdv A outer s H vs Q E hr h => ?_)
  · obtain ⟨x, y, d, rfl, _⟩ := h
    rfl
  obtain ⟨x, y, d, rfl, hx, hy, hd, q⟩ := h
  have hr__law_same := hr
  refine ⟨_, (pss_cons (ps_if (pt_cmpR op_isN (pv 1) pe_non (nomark _)) (pss_one (ps_ret (pe_cmpR op_isN (pv 0) pe_non (nomark _)))) pss_nil)
      (pss_cons (ps_if (PW.pt (pw_or (pt_val (pe_callB (call_isiK' (K := K)) (by rfl) T.m_isinstance (by decide +kernel) (pa_cons (pv 1) (pa_cons (pe_bltn (v := .ty "bool") (by rfl) T.m_bool (by decide +kernel) rfl) pa_nil)))) (pw_or1 (pt_val (pe_callB (call_isiK' (K := K)) (by rfl) T.m_isinstance (by decide +kernel) (pa_cons (pv 0) (pa_cons (pe_bltn (v := .ty "bool") (by rfl) T.m_bool (by decide +kernel) rfl) pa_nil))))))) (pss_one (ps_ret (pe_and (pe_callB (call_isiK' (K := K)) (by rfl) T.m_isinstance (by decide +kernel) (pa_cons (pv 1) (pa_cons (pe_bltn (v := .ty "bool") (by rfl) T.m_bool (by decide +kernel) rfl) pa_nil))) (pe_and (pe_callB (call_isiK' (K := K)) (by rfl) T.m_isinstance (by decide +kernel) (pa_cons (pv 0) (pa_cons (pe_bltn (v := .ty "bool") (by rfl) T.m_bool (by decide +kernel) rfl) pa_nil))) (pe_one (pe_cmpR op_eq (pv 0) (pv 1) (nomark _))))))) pss_nil)
      (pss_cons (ps_if (PW.pt (pw_or (pt_val (pe_callB (call_isiK' (K := K)) (by rfl) T.m_isinstance (by decide +kernel) (pa_cons (pv 1) (pa_cons (pe_bltn (v := .ty "int") (by rfl) T.m_int (by decide +kernel) rfl) pa_nil)))) (pw_or1 (pt_val (pe_callB (call_isiK' (K := K)) (by rfl) T.m_isinstance (by decide +kernel) (pa_cons (pv 1) (pa_cons (pe_bltn (v := .ty "str") (by rfl) T.m_str (by decide +kernel) rfl) pa_nil))))))) (pss_one (ps_ret (pe_and (pe_cmpR op_eq (pe_callB (call_isiK' (K := K)) (by rfl) T.m_isinstance (by decide +kernel) (pa_cons (pv 0) (pa_cons (pe_bltn (v := .ty "int") (by rfl) T.m_int (by decide +kernel) rfl) pa_nil))) (pe_callB (call_isiK' (K := K)) (by rfl) T.m_isinstance (by decide +kernel) (pa_cons (pv 1) (pa_cons (pe_bltn (v := .ty "int") (by rfl) T.m_int (by decide +kernel) rfl) pa_nil))) (nomark _)) (pe_and (pe_cmpR op_eq (pe_callB (call_isiK' (K := K)) (by rfl) T.m_isinstance (by decide +kernel) (pa_cons (pv 0) (pa_cons (pe_bltn (v := .ty "str") (by rfl) T.m_str (by decide +kernel) rfl) pa_nil))) (pe_callB (call_isiK' (K := K)) (by rfl) T.m_isinstance (by decide +kernel) (pa_cons (pv 1) (pa_cons (pe_bltn (v := .ty "str") (by rfl) T.m_str (by decide +kernel) rfl) pa_nil))) (nomark _)) (pe_one (pe_cmpR op_eq (pv 0) (pv 1) (nomark _))))))) pss_nil)
      (pss_cons (ps_if (PW.pt (pw_or (pt_cmpR op_ne (pe_callB (call_isiK' (K := K)) (by rfl) T.m_isinstance (by decide +kernel) (pa_cons (pv 1) (pa_cons (pe_bltn (v := .ty "list") (by rfl) T.m_list (by decide +kernel) rfl) pa_nil))) (pe_callB (call_isiK' (K := K)) (by rfl) T.m_isinstance (by decide +kernel) (pa_cons (pv 0) (pa_cons (pe_bltn (v := .ty "list") (by rfl) T.m_list (by decide +kernel) rfl) pa_nil))) (nomark _)) (pw_or1 (pt_cmpR op_ne (pe_callB (call_isiK' (K := K)) (by rfl) T.m_isinstance (by decide +kernel) (pa_cons (pv 1) (pa_cons (pe_bltn (v := .ty "tuple") (by rfl) T.m_tuple (by decide +kernel) rfl) pa_nil))) (pe_callB (call_isiK' (K := K)) (by rfl) T.m_isinstance (by decide +kernel) (pa_cons (pv 0) (pa_cons (pe_bltn (v := .ty "tuple") (by rfl) T.m_tuple (by decide +kernel) rfl) pa_nil))) (nomark _))))) (pss_one (ps_ret pe_bl)) pss_nil)
      (pss_one (ps_ret (pe_and (pe_cmpR op_eq (pe_callB (call_len_seqK (K := K)) (by rfl) T.m_len PySem.boot_len (pa_cons (pv 0) pa_nil)) (pe_callB (call_len_seqK (K := K)) (by rfl) T.m_len PySem.boot_len (pa_cons (pv 1) pa_nil)) (nomark _)) (pe_one (pe_callB (cr_allK (K := K) rfl) (by rfl) T.m_all (by decide +kernel) (pa_cons (pe_lc (own := [("_law_one", 2), ("_law_two", 3)]) (g := gTup K 2 (gCons (gName 2) (gCons (gName 3) gNil))) (by rfl) sc__law_same.nd (RZ.pi_zipA (by rfl) T.m_zip (pa_cons (pv 0) (pa_cons (pv 1) pa_nil))) (blkOk_by (own := [("_law_one", 2), ("_law_two", 3)]) (N := N__law_same) (sc := defScope s__law_same) (by decide +kernel)) (fun _ _ _ _ _ => pg_tup rfl (pgs_cons (pg_name (i := 2) sc__law_same.nd rfl (.inl rfl)) (pgs_cons (pg_name (i := 3) sc__law_same.nd rfl (.inl rfl)) pgs_nil))) (fun _ _ _ _ _ => pts_nil) (fun _ _ _ _ _ => (pe_call G__law_same hr__law_same (by rfl) g__law_same F__law_same.kp b__law_same .nil pass0 (pa_cons (pv 2) (pa_cons (pv 3) pa_nil))))) pa_nil)))))))))), ?_⟩
  have hxx := hx
  have hyy := hy
  have qq := q H (Same.refl _)
  rcases deep_cases d with ⟨ds, rfl⟩ | ⟨ds, rfl⟩ | ⟨ds, rfl⟩ | rfl | ⟨b, rfl⟩ | ⟨i, rfl⟩ | ⟨z, rfl⟩
  · cases hx with
    | @lst a xs _ h1 t1 =>
      cases hy with
      | @lst a2 ys _ h2 t2 =>
        have l1 := dpa_len t1
        have l2 := dpa_len t2
        refine ⟨_, rfl, rfl, _, rfl, ifF (fun z => nomatch z) ?_⟩
        refine ⟨_, rfl, _, _, _, _, _, rfl, .ty _, ty_of hyy, kit_ty kit_list_bool, ⟨_, rfl, iteF ⟨_, rfl, _, _, _, _, _, rfl, .ty _, ty_of hxx, kit_ty kit_list_bool, ⟨_, rfl, iteF ?_⟩⟩⟩⟩
        refine ⟨_, rfl, _, _, _, _, _, rfl, .ty _, ty_of hyy, kit_ty kit_list_int, ⟨_, rfl, iteF ⟨_, rfl, _, _, _, _, _, rfl, .ty _, ty_of hyy, kit_ty kit_list_str, ⟨_, rfl, iteF ?_⟩⟩⟩⟩
        refine ⟨_, rfl, _, _, _, _, _, rfl, .ty _, ty_of hyy, kit_ty kit_list_list, ⟨_, rfl, _, _, _, _, _, rfl, .ty _, ty_of hxx, kit_ty kit_list_list, ⟨rfl, _, rfl, iteF ⟨_, rfl, _, _, _, _, _, rfl, .ty _, ty_of hyy, kit_ty kit_list_tuple, ⟨_, rfl, _, _, _, _, _, rfl, .ty _, ty_of hxx, kit_ty kit_list_tuple, ⟨rfl, _, rfl, iteF ?_⟩⟩⟩⟩⟩⟩
        refine ⟨_, rfl, a, xs, rfl, .inl h1, _, rfl, a2, ys, rfl, .inl h2, rfl, _, rfl, ifT (by rw [l1, l2]) ?_⟩
        refine ⟨_, rfl, _, rfl, a, a2, xs, ys, rfl, .inl ⟨h1, h2, fun D hD => ?_⟩⟩
        refine lc_val (n := ds.length) (walk_zip (xs := xs) (ys := ys) (by rw [l1, l2]; simp)) hD (fun _ => .bl true) (fun H' s' => ⟨s'.seq h1, s'.seq h2⟩) (Nat.lt_trans (deep_list hd).1 (by decide)) (fun i x H1 H' Qe Z hi sm hq hy => ?_) (fun H1 sm hL => ?_)
        · obtain ⟨p, u, v, rfl, np, rfl, e1, e2⟩ := hy
          obtain ⟨d1, g1, k1⟩ := dpa_get t1 e1
          obtain ⟨d2, g2, k2⟩ := dpa_get t2 e2
          have ed : d1 = d2 := Option.some.inj (g1.symm.trans g2)
          subst ed
          have s1 := same_new (o := .tup [u, v]) np
          refine ⟨p, [u, v], rfl, .inl (.inl upd_same), rfl, u, [v], rfl, v, [], rfl, rfl, rfl, yes ?_⟩
          exact ⟨_, rfl, _, rfl, u, v, d1, rfl, dp_mono (sm.trans s1) k1, dp_mono (sm.trans s1) k2, deep_get (deep_list hd).2 g1, fun H4 s4 => hq H4 (s1.trans s4)⟩
        · exact ⟨D, List.replicate ds.length true, rfl, .inl (.inl (by rw [hL, all_true.1])), by rw [all_true.2]; exact q H1 sm⟩
  · cases hx with
    | @tup a xs _ h1 t1 =>
      cases hy with
      | @tup a2 ys _ h2 t2 =>
        have l1 := dpa_len t1
        have l2 := dpa_len t2
        refine ⟨_, rfl, rfl, _, rfl, ifF (fun z => nomatch z) ?_⟩
        refine ⟨_, rfl, _, _, _, _, _, rfl, .ty _, ty_of hyy, kit_ty kit_tuple_bool, ⟨_, rfl, iteF ⟨_, rfl, _, _, _, _, _, rfl, .ty _, ty_of hxx, kit_ty kit_tuple_bool, ⟨_, rfl, iteF ?_⟩⟩⟩⟩
        refine ⟨_, rfl, _, _, _, _, _, rfl, .ty _, ty_of hyy, kit_ty kit_tuple_int, ⟨_, rfl, iteF ⟨_, rfl, _, _, _, _, _, rfl, .ty _, ty_of hyy, kit_ty kit_tuple_str, ⟨_, rfl, iteF ?_⟩⟩⟩⟩
        refine ⟨_, rfl, _, _, _, _, _, rfl, .ty _, ty_of hyy, kit_ty kit_tuple_list, ⟨_, rfl, _, _, _, _, _, rfl, .ty _, ty_of hxx, kit_ty kit_tuple_list, ⟨rfl, _, rfl, iteF ⟨_, rfl, _, _, _, _, _, rfl, .ty _, ty_of hyy, kit_ty kit_tuple_tuple, ⟨_, rfl, _, _, _, _, _, rfl, .ty _, ty_of hxx, kit_ty kit_tuple_tuple, ⟨rfl, _, rfl, iteF ?_⟩⟩⟩⟩⟩⟩
        refine ⟨_, rfl, a, xs, rfl, .inr h1, _, rfl, a2, ys, rfl, .inr h2, rfl, _, rfl, ifT (by rw [l1, l2]) ?_⟩
        refine ⟨_, rfl, _, rfl, a, a2, xs, ys, rfl, .inr ⟨h1, h2, fun D hD => ?_⟩⟩
        refine lc_val (n := ds.length) (walk_zipT (xs := xs) (ys := ys) l1 l2) hD (fun _ => .bl true) (fun H' s' => ⟨Same.seqT s' h1, Same.seqT s' h2⟩) (Nat.lt_trans (deep_tuple hd).1 (by decide)) (fun i x H1 H' Qe Z hi sm hq hy => ?_) (fun H1 sm hL => ?_)
        · obtain ⟨p, u, v, rfl, np, rfl, e1, e2⟩ := hy
          obtain ⟨d1, g1, k1⟩ := dpa_get t1 e1
          obtain ⟨d2, g2, k2⟩ := dpa_get t2 e2
          have ed : d1 = d2 := Option.some.inj (g1.symm.trans g2)
          subst ed
          have s1 := same_new (o := .tup [u, v]) np
          refine ⟨p, [u, v], rfl, .inl (.inl upd_same), rfl, u, [v], rfl, v, [], rfl, rfl, rfl, yes ?_⟩
          exact ⟨_, rfl, _, rfl, u, v, d1, rfl, dp_mono (sm.trans s1) k1, dp_mono (sm.trans s1) k2, deep_get (deep_tuple hd).2 g1, fun H4 s4 => hq H4 (s1.trans s4)⟩
        · exact ⟨D, List.replicate ds.length true, rfl, .inl (.inl (by rw [hL, all_true.1])), by rw [all_true.2]; exact q H1 sm⟩
  · cases hx
  · cases hx
    cases hy
    exact ⟨_, rfl, rfl, _, rfl, ifT rfl ⟨_, rfl, rfl, qq⟩⟩
  · cases hx
    cases hy
    refine ⟨_, rfl, rfl, _, rfl, ifF (fun z => nomatch z) ?_⟩
    refine ⟨_, rfl, _, _, _, _, _, rfl, .ty _, ty_of hyy, kit_ty kit_bool_bool, ⟨_, rfl, iteT ?_⟩⟩
    refine iteT ⟨_, rfl, _, _, _, _, _, rfl, .ty _, ty_of hyy, kit_ty kit_bool_bool, ⟨_, rfl, iteT ⟨_, rfl, _, _, _, _, _, rfl, .ty _, ty_of hxx, kit_ty kit_bool_bool, ⟨_, rfl, iteT ⟨_, rfl, _, rfl, rfl, ?_⟩⟩⟩⟩⟩
    rw [decide_eq_true rfl]
    exact qq
  · cases hx
    cases hy
    refine ⟨_, rfl, rfl, _, rfl, ifF (fun z => nomatch z) ?_⟩
    refine ⟨_, rfl, _, _, _, _, _, rfl, .ty _, ty_of hyy, kit_ty kit_int_bool, ⟨_, rfl, iteF ⟨_, rfl, _, _, _, _, _, rfl, .ty _, ty_of hxx, kit_ty kit_int_bool, ⟨_, rfl, iteF ?_⟩⟩⟩⟩
    refine ⟨_, rfl, _, _, _, _, _, rfl, .ty _, ty_of hyy, kit_ty kit_int_int, ⟨_, rfl, iteT ?_⟩⟩
    refine iteT ⟨_, rfl, _, _, _, _, _, rfl, .ty _, ty_of hxx, kit_ty kit_int_int, ⟨_, rfl, _, _, _, _, _, rfl, .ty _, ty_of hyy, kit_ty kit_int_int, ⟨rfl, _, rfl, ifT rfl ⟨_, rfl, _, _, _, _, _, rfl, .ty _, ty_of hxx, kit_ty kit_int_str, ⟨_, rfl, _, _, _, _, _, rfl, .ty _, ty_of hyy, kit_ty kit_int_str, ⟨rfl, _, rfl, ifT rfl ⟨_, rfl, _, rfl, rfl, ?_⟩⟩⟩⟩⟩⟩⟩
    rw [decide_eq_true rfl]
    exact qq
  · cases hx
    cases hy
    refine ⟨_, rfl, rfl, _, rfl, ifF (fun z => nomatch z) ?_⟩
    refine ⟨_, rfl, _, _, _, _, _, rfl, .ty _, ty_of hyy, kit_ty kit_str_bool, ⟨_, rfl, iteF ⟨_, rfl, _, _, _, _, _, rfl, .ty _, ty_of hxx, kit_ty kit_str_bool, ⟨_, rfl, iteF ?_⟩⟩⟩⟩
    refine ⟨_, rfl, _, _, _, _, _, rfl, .ty _, ty_of hyy, kit_ty kit_str_int, ⟨_, rfl, iteF ⟨_, rfl, _, _, _, _, _, rfl, .ty _, ty_of hyy, kit_ty kit_str_str, ⟨_, rfl, ?_⟩⟩⟩⟩
    refine iteT ⟨_, rfl, _, _, _, _, _, rfl, .ty _, ty_of hxx, kit_ty kit_str_int, ⟨_, rfl, _, _, _, _, _, rfl, .ty _, ty_of hyy, kit_ty kit_str_int, ⟨rfl, _, rfl, ifT rfl ⟨_, rfl, _, _, _, _, _, rfl, .ty _, ty_of hxx, kit_ty kit_str_str, ⟨_, rfl, _, _, _, _, _, rfl, .ty _, ty_of hyy, kit_ty kit_str_str, ⟨rfl, _, rfl, ifT rfl ⟨_, rfl, _, rfl, rfl, ?_⟩⟩⟩⟩⟩⟩⟩
    rw [decide_eq_true rfl]
    exact qq
theorem ok__law_same (T : Txt K mg) {f : Addr} {fd : FuncData} (F : Fun K "_law_same" "_law_same" s__law_same f fd) (b : Binds K fd ["_law_found", "_law_due"] []) (g : mg "_law_same" = some (.ref f)) : ∀ n, FnOk P w K mg base CX0 n f fd ["_law_found", "_law_due"] (sp_same K n)
  | 0 => by
    have no : ∀ vs H Q E, ¬ sp_same K 0 vs H Q E := fun vs H Q E h => by
      obtain ⟨x, y, d, _, _, _, hd, _⟩ := h
      rw [deep_zero] at hd
      cases hd
    exact ⟨fun vs H Q E h => absurd h (no vs H Q E), fun A outer s H args us vs Q E _ _ _ _ h => absurd h (no vs H Q E)⟩
  | n + 1 => ok__law_same_step T F (ok__law_same T F b g n) b g
/-! the law's own functions on conditions -/
def sp_partsL (K : PySem.W.Frag) : Sp := fun vs H Q _ => ∃ (v : V) (c : Cd) (n : Nat), vs = [v] ∧ Dp K H v (toD c) ∧ Wn n c ∧
  ∀ (p : Addr) (xs : List V) (H' : Hp), Same H H' → H p = none → H' p = some (.lst xs) → DpAll K H xs ((parts c).map toD) → Q (.ref p) H'
theorem ok__law_parts {f : Addr} {fd : FuncData} (T : Txt K mg) (F : Fun K "_law_parts" "_law_parts" s__law_parts f fd) : FnOk P w K mg base CX0 1 f fd ["_law_tree_here"] (sp_partsL K) := by
  refine F.ok sc__law_parts (fun vs H Q E h => ?_) (fun cdv A outer s H vs Q E hr h => ?_)
  · obtain ⟨v, c, n, rfl, _⟩ := h
    rfl
  obtain ⟨v, c, n, rfl, hv, hw, q⟩ := h
  obtain ⟨m, rfl⟩ := hw.some
  obtain ⟨a, k, xs, rfl, hs, h1, h2, h3, h4⟩ := tree_open hv hw
  refine ⟨_, (pss_one (ps_ret (pe_ifExp (pt_cmpR (op_in_seqK (K := K)) (pe_ix (ix_tupK (K := K)) (pv 0) pe_int (fun _ _ => rfl)) (pe_tup (pa_cons pe_str (pa_cons pe_str pa_nil))) (by rfl)) (pe_lst pa_nil) (pe_callTy (call_list_ofK (K := K)) (by rfl) T.m_list (by decide +kernel) (pa_cons (pe_slice (sl_tupK (K := K)) (pv 0) (po_some pe_int) po_none) pa_nil))))), ?_⟩
  refine ⟨_, rfl, a, _, 0, .str k, rfl, rfl, hs, at0 _ _, by show 2 ≤ sizeLine; decide, fun t ht => ?_⟩
  have s1 := same_new (o := .tup [.str "any", .str "test"]) ht
  refine ⟨t, _, rfl, .inr (SqT.of upd_same), rfl, rfl, _, rfl, ite2 (fun c1 => ?_) (fun c1 => ?_)⟩
  · refine ⟨Nat.zero_le _, fun p hp => q p [] _ (s1.trans (same_new hp)) (s1.free hp) upd_same ?_⟩
    rw [h1 c1]
    exact .nil
  · refine ⟨_, rfl, 1, rfl, a, _, rfl, Same.seqT s1 hs, fun z => absurd z (cut_tail_ne _ _), fun _ t2 ht2 => ?_⟩
    rw [cut_tail]
    have s2 := same_new (o := .tup xs) ht2
    refine ⟨t2, _, rfl, .inr (SqT.of upd_same), fun p hp => ?_⟩
    exact q p xs _ ((s1.trans s2).trans (same_new hp)) ((s1.trans s2).free hp) upd_same (h2 (Bool.eq_false_iff.mpr c1))
def sp_many (K : PySem.W.Frag) (g : Cd → Int) (n : Nat) : Sp := fun vs H Q _ => ∃ (v : V) (c : Cd), vs = [v] ∧ Dp K H v (toD c) ∧ Wn n c ∧ ∀ H', Same H H' → Q (.int (g c)) H'
theorem none_many {g : Cd → Int} {f : Addr} {fd : FuncData} {ps : List Str} {k : Nat} : FnOk P w K mg base CX0 k f fd ps (sp_many K g 0) := by
  have no : ∀ vs H Q E, ¬ sp_many K g 0 vs H Q E := fun vs H Q E h => by
    obtain ⟨_, _, _, _, hw, _⟩ := h
    exact hw
  exact ⟨fun vs H Q E h => absurd h (no vs H Q E), fun A outer s H args us vs Q E _ _ _ _ h => absurd h (no vs H Q E)⟩
theorem ok__law_many_step {f : Addr} {fd : FuncData} {n : Nat} (T : Txt K mg) (F : Fun K "_law_many" "_law_many" s__law_many f fd) (G__law_many : FnOk P w K mg base CX0 (n + 1) f fd ["_law_tree_here"] (sp_many K (fun c => (size c : Int)) n)) (b__law_many : Binds K fd ["_law_tree_here"] []) (g__law_many : mg "_law_many" = some (.ref f)) : FnOk P w K mg base CX0 (n + 2) f fd ["_law_tree_here"] (sp_many K (fun c => (size c : Int)) (n + 1)) := by
  obtain ⟨f__law_parts, fd__law_parts, F__law_parts, b__law_parts, g__law_parts⟩ := T.h__law_parts
  have F__law_many := F
  have G__law_parts := ok__law_parts (P := P) (w := w) (base := base) T F__law_parts
  refine F.ok sc__law_many (fun vs H Q E h => ?_) (fun cdv A outer s H vs Q E hr h => ?_)
  · obtain ⟨v, c, rfl, _⟩ := h
    rfl
  obtain ⟨v, c, rfl, hv, hw, q⟩ := h
  have hr__law_parts : Room 1 _ := hr.mono (by omega)
  have hr__law_many : Room (n + 1) _ := hr
  refine ⟨_, (pss_one (ps_ret (pe_op op_add pe_int (pe_callB (cr_sumK (K := K) rfl) (by rfl) T.m_sum (by decide +kernel) (pa_cons (pe_lc (own := [("_law_part", 1)]) (g := gName 1) (by rfl) sc__law_many.nd (pi_listK (K := K) (pe_call G__law_parts hr__law_parts (by rfl) g__law_parts F__law_parts.kp b__law_parts .nil pass0 (pa_cons (pv 0) pa_nil))) (blkOk_by (own := [("_law_part", 1)]) (N := N__law_many) (sc := defScope s__law_many) (by decide +kernel)) (fun _ _ _ _ _ => pg_name (i := 1) sc__law_many.nd rfl (.inl rfl)) (fun _ _ _ _ _ => pts_nil) (fun _ _ _ _ _ => (pe_call G__law_many hr__law_many (by rfl) g__law_many F__law_many.kp b__law_many .nil pass0 (pa_cons (pv 1) pa_nil)))) pa_nil))))), ?_⟩
  refine ⟨_, rfl, v, c, n + 1, rfl, hv, hw, fun p xs H1 s1 hp hL hall => ⟨p, rfl, ⟨_, SqL.of hL⟩, fun D hD => ?_⟩⟩
  have hl := dpa_len' hall
  have hwp := hw.parts
  refine lc_each (parts c) hl walk_list hD (fun c => .int (size c)) (fun H' s' => s'.seq (SqL.of hL)) (by omega) (fun i x pc H2 Qe Z hx hpc sm hq => ?_) (fun H2 sm hD2 => ?_)
  · refine ⟨rfl, yes ?_⟩
    exact ⟨_, rfl, x, pc, rfl, dp_mono (s1.trans sm) (dpa_get' hall hx hpc), hwp.2 pc (List.mem_of_getElem? hpc), fun H4 s4 => hq H4 s4⟩
  · refine ⟨D, (parts c).map fun c => (size c : Int), rfl, SqL.of (by rw [hD2, List.map_map]; rfl), _, _, rfl, rfl, ?_⟩
    show Q (.int (1 + ((parts c).map fun c => (size c : Int)).sum)) _
    rw [← size_eq]
    exact q _ (s1.trans sm)
theorem ok__law_many (T : Txt K mg) {f : Addr} {fd : FuncData} (F : Fun K "_law_many" "_law_many" s__law_many f fd) (b : Binds K fd ["_law_tree_here"] []) (g : mg "_law_many" = some (.ref f)) : ∀ n, FnOk P w K mg base CX0 (n + 1) f fd ["_law_tree_here"] (sp_many K (fun c => (size c : Int)) n)
  | 0 => none_many
  | n + 1 => ok__law_many_step T F (ok__law_many T F b g n) b g
def sp_small (K : PySem.W.Frag) : Sp := fun vs H Q _ => ∃ (b l a : Addr) (S : List Addr) (fs : List Fld), vs = [.ref b, .ref a] ∧ Bag H b l ∧ b ∈ S ∧ Lists H S ∧ Dp K (dl H S) (.ref a) (fldsD fs) ∧ FOk fs ∧ fs.length ≤ 1000 ∧
  ∀ (v : V) (c : Cd) (H' : Hp), Bx b l H H' → Gd fs 4 c → size c ≤ 30 → Dp K (dl H' S) v (toD c) → Q v H'
theorem FOk.strs {fs : List Fld} (h : FOk fs) : ∀ f ∈ fs, PyData.strOk f.1 = true ∧ ∀ m ∈ f.2, PyData.strOk m = true := fun f hf => ⟨(h.1 f hf).1.ok, fun m hm => ((h.1 f hf).2.2.2.1.1 m hm).ok⟩
theorem Lists.tr {H : Hp} {S : List Addr} (h : Lists H S) : Tr H S := fun a ha => by
  obtain ⟨xs, e⟩ := h a ha
  exact ⟨_, e⟩
theorem Lists.bx {b l : Addr} {H H' : Hp} {S : List Addr} (h : Lists H S) (x : Bx b l H H') : Lists H' S := fun a ha => by
  obtain ⟨xs, e⟩ := h a ha
  by_cases z : a = b
  · rw [z]
    exact x.bag.tracked
  · exact ⟨xs, x.keep a _ z e⟩
theorem ok__law_small_tree {f : Addr} {fd : FuncData} (T : Txt K mg) (F : Fun K "_law_small_tree" "_law_small_tree" s__law_small_tree f fd) : FnOk P w K mg base CX0 9 f fd ["_law_bag_here", "_law_fields_here"] (sp_small K) := by
  obtain ⟨f__law_tree, fd__law_tree, F__law_tree, b__law_tree, g__law_tree⟩ := T.h__law_tree
  obtain ⟨f__law_pull, fd__law_pull, F__law_pull, b__law_pull, g__law_pull⟩ := T.h__law_pull
  obtain ⟨f__law_many, fd__law_many, F__law_many, b__law_many, g__law_many⟩ := T.h__law_many
  obtain ⟨f__law_parts, fd__law_parts, F__law_parts, b__law_parts, g__law_parts⟩ := T.h__law_parts
  have G__law_pull := ok__law_pull (P := P) (w := w) (base := base) T F__law_pull
  have G__law_tree := ok__law_tree (P := P) (w := w) (base := base) T F__law_tree b__law_tree g__law_tree 4
  have G__law_many := ok__law_many (P := P) (w := w) (base := base) T F__law_many b__law_many g__law_many 4
  have G__law_parts := ok__law_parts (P := P) (w := w) (base := base) T F__law_parts
  refine F.ok sc__law_small_tree (fun vs H Q E h => ?_) (fun cdv A outer s H vs Q E hr h => ?_)
  · obtain ⟨b, l, a, S, fs, rfl, _⟩ := h
    rfl
  obtain ⟨b, l, a, S, fs, rfl, hb, hbS, ls, hD, hok, hfl, q⟩ := h
  have hr__law_pull : Room 1 _ := hr.mono (by decide)
  have hr__law_tree : Room 8 _ := hr.mono (by decide)
  have hr__law_many : Room 5 _ := hr.mono (by decide)
  have hr__law_parts : Room 1 _ := hr.mono (by decide)
  refine ⟨_, (pss_cons (ps_set (i := 2) sc__law_small_tree.nd rfl (.inl rfl) (pe_call G__law_tree hr__law_tree (by rfl) g__law_tree F__law_tree.kp b__law_tree .nil pass0 (pa_cons (pv 0) (pa_cons (pv 1) (pa_cons (pe_op op_add pe_int (pe_call G__law_pull hr__law_pull (by rfl) g__law_pull F__law_pull.kp b__law_pull .nil pass0 (pa_cons (pv 0) (pa_cons pe_int pa_nil)))) pa_nil)))))
      (pss_one (ps_ret (pe_ifExp (pt_cmpR op_lt (pe_call G__law_many hr__law_many (by rfl) g__law_many F__law_many.kp b__law_many .nil pass0 (pa_cons (pv 2) pa_nil)) pe_int (nomark _)) (pv 2) (pe_ix (ix_listK (K := K)) (pe_call (FnOk.frame G__law_parts) hr__law_parts (by rfl) g__law_parts F__law_parts.kp b__law_parts .nil pass0 (pa_cons (pv 2) pa_nil)) pe_int (fun _ _ => rfl)))))), ?_⟩
  refine ⟨_, rfl, _, rfl, _, rfl, b, l, 4, rfl, hb, by decide, by decide, fun d H1 d0 d1 bx1 => ⟨1, d, rfl, rfl, b, l, a, 1 + d, S, fs, rfl, bx1.bag, hbS, ls.tr.bx bx1, dp_mono (bx1.same hbS) hD, hok, hfl, by omega, by omega, fun v c H2 bx2 hg hv => ?_⟩⟩
  have hg4 : Gd fs 4 c := hg.ups (by omega)
  have hw4 := hg4.wn hok.strs
  refine ⟨_, rfl, v, c, rfl, dp_mono dl_le hv, hw4, fun H3 s3 => ⟨_, _, rfl, rfl, _, rfl, ite2 (fun c1 => ?_) (fun c1 => ?_)⟩⟩
  · have c2 : (size c : Int) < 31 := of_decide_eq_true c1
    exact ⟨_, rfl, q v c H3 ((bx1.trans bx2).trans (Bx.ofSame bx2.bag s3)) hg4 (by omega) (dp_mono (dl_mono s3) hv)⟩
  · have c2 : ¬ (size c : Int) < 31 := of_decide_eq_false (Bool.eq_false_iff.mpr c1)
    have bxC := (bx1.trans bx2).trans (Bx.ofSame bx2.bag s3)
    have ls3 := ls.bx bxC
    have hv3 := dp_mono (dl_mono (S := S) s3) hv
    refine ⟨_, rfl, S, ls3, v, c, 4, rfl, hv3, hw4, fun p xs H4 s4 hp hL hall fr => ?_⟩
    cases c with
    | any => exact absurd (show (size .any : Int) < 31 by rw [size]; decide) c2
    | test f v => exact absurd (show (size (.test f v) : Int) < 31 by rw [size]; decide) c2
    | node k cs =>
      have h1 : 1 ≤ cs.length := by rcases hg4.1 with ⟨_, h⟩ | ⟨_, h, _⟩ <;> omega
      cases cs with
      | nil => simp at h1
      | cons c0 r =>
        cases hall with
        | @cons x0 xr _ _ hx0 hxr =>
          have npS : p ∉ S := fun z => by rw [fr p z] at hL; cases hL
          have hg3 := hg4.2 c0 List.mem_cons_self
          have hz3 : 2 * size c0 + 1 ≤ 27 := gd_size hg3
          refine ⟨p, _, 0, x0, rfl, rfl, SqL.of (by rw [bk_ne npS]; exact hL), at0 _ _, ?_⟩
          refine q x0 c0 _ (bxC.trans (Bx.back bxC.bag hbS s4)) hg3.up (by omega) ?_
          rw [dl_bk fr]
          exact dp_mono s4 hx0
end
end Hr

set_option Elab.async false
set_option linter.all false
set_option maxRecDepth 100000
set_option maxHeartbeats 4000000
namespace Hr
open PySem PySem.Spec PyProof.Rows L2
section
variable {P : Program} {w : World} {K : PySem.W.Frag} {mg : Str → Option Value} {base : Heap}
def sp_lreq (K : PySem.W.Frag) : Sp := fun vs H Q _ => ∃ (v : V) (fs : List Fld) (n : Nat), vs = [v, .int n] ∧ Dp K H v (fldsD fs) ∧ (∀ f ∈ fs, 1 ≤ f.2.length ∧ f.2.length ≤ 3) ∧ fs.length ≤ 5 ∧ n ≤ 1000 ∧
  ∀ (a : Addr) (H' : Hp), Same H H' → H a = none → H' a = some (.tup ((req fs n).map V.str)) → Q (.ref a) H'
theorem ok__law_request {f : Addr} {fd : FuncData} (T : Txt K mg) (F : Fun K "_law_request" "_law_request" s__law_request f fd) : FnOk P w K mg base CX0 1 f fd ["_law_fields_here", "_law_number"] (sp_lreq K) := by
  refine F.ok sc__law_request (fun vs H Q E h => ?_) (fun cdv A outer s H vs Q E hr h => ?_)
  · obtain ⟨v, fs, n, rfl, _⟩ := h
    rfl
  obtain ⟨v, fs, n, rfl, hv, hf, hl5, hn, q⟩ := h
  refine ⟨_, (pss_cons (ps_set (i := 2) sc__law_request.nd rfl (.inl rfl) (pe_lst pa_nil))
      (pss_cons (ps_for PassesOwn.never rfl (pi_listK (K := K) (pe_revLK (K := K) (pv 0))) (pg_tup rfl (pgs_cons (pg_name (i := 3) sc__law_request.nd rfl (.inl rfl)) (pgs_cons (pg_name (i := 4) sc__law_request.nd rfl (.inl rfl)) pgs_nil))) (pss_cons (ps_expr (pe_bm PySem.F.plainAttrs_list PySem.F.slot_list_append PySem.F.type_list_append mt_append (pv 2) (pa_cons (pe_ix (ix_listK (K := K)) (pv 4) (pe_op op_modN (pv 1) (pe_callB (call_len_seqK (K := K)) (by rfl) T.m_len PySem.boot_len (pa_cons (pv 4) pa_nil))) (fun _ _ => rfl)) pa_nil)))
      (pss_one (ps_set (i := 1) sc__law_request.nd rfl (.inl rfl) (pe_op op_fdivN (pv 1) (pe_callB (call_len_seqK (K := K)) (by rfl) T.m_len PySem.boot_len (pa_cons (pv 4) pa_nil)))))))
      (pss_one (ps_ret (pe_callTy (call_tuple_ofK (K := K)) (by rfl) T.m_tuple (by decide +kernel) (pa_cons (pe_revLK (K := K) (pv 2)) pa_nil)))))), ?_⟩
  cases hv with
  | lst hs ht =>
    rename_i a xs
    have hxl := dpa_len' ht
    refine ⟨Nat.zero_le _, fun D hD => ?_⟩
    have s0 := same_new (o := .lst []) hD
    refine ⟨_, rfl, a, xs, rfl, s0.seq hs, fun r hr' => ⟨r, rfl, ⟨_, SqL.of upd_same⟩, ?_⟩⟩
    have s1 := same_new (o := .lst xs.reverse) hr'
    have hr1 := upd_same (H := upd H D (.lst [])) (a := r) (o := .lst xs.reverse)
    have nrD : r ≠ D := fun z => by rw [z, upd_same] at hr'; cases hr'
    have hD1 : (upd (upd H D (.lst [])) r (.lst xs.reverse)) D = some (.lst []) := by rw [upd_ne nrD.symm, upd_same]
    have s01 := s0.trans s1
    generalize upd (upd H D (.lst [])) r (.lst xs.reverse) = H1 at *
    have hrl : xs.reverse.length = fs.length := by rw [List.length_reverse]; omega
    refine for_it (walk_list (xs := xs.reverse)) (fun i σ H' => ∃ x3 x4 : Option V, σ = [some (.ref a), some (.int (left (fs.reverse.take i) n)), some (.ref D), x3, x4] ∧ Same H H' ∧ H' r = some (.lst xs.reverse) ∧ H' D = some (.lst ((digs (fs.reverse.take i) n).map V.str)) ∧ left (fs.reverse.take i) n ≤ 1000)
      ⟨none, none, rfl, s01, hr1, hD1, hn⟩ (fun i σ H' _ ⟨_, _, _, _, h, _⟩ => SqL.of h) (fun i x σ H2 H3 hi hI hy => ?_) (fun σ H2 hI => ?_)
    · obtain ⟨x3, x4, rfl, sm, hr2, hD2, hle⟩ := hI
      obtain ⟨rfl, hx⟩ := hy
      have hil : i < fs.length := by omega
      have hil' : i < fs.reverse.length := by rw [List.length_reverse]; exact hil
      have hfi := List.getElem?_eq_getElem hil'
      generalize fs.reverse[i] = fl at hfi
      have hfm := hf fl (List.mem_reverse.mp (List.mem_of_getElem? hfi))
      have hdd : DpAll K H xs.reverse (fs.reverse.map fldD) := by
        refine dpa_of (by rw [List.length_map, List.length_reverse, List.length_reverse]; exact hxl) fun j y d hy hd => ?_
        have hj : j < xs.length := by
          have := (List.getElem?_eq_some_iff.mp hy).1
          rw [List.length_reverse] at this
          exact this
        rw [List.getElem?_reverse hj] at hy
        rw [List.getElem?_map, List.getElem?_reverse (by omega)] at hd
        obtain ⟨d', h1, h2⟩ := dpa_get ht hy
        rw [List.getElem?_map, hxl, hd] at h1
        cases h1
        exact h2
      obtain ⟨t, m, rfl, h1, h2⟩ := fld_open (dpa_get' hdd hx hfi)
      have hlen : (fl.2.map V.str).length = fl.2.length := List.length_map _
      refine ⟨t, _, rfl, Same.seqT sm h1, rfl, _, _, rfl, _, _, rfl, rfl, ?_⟩
      refine ⟨_, rfl, .inl ⟨rfl, _, SqL.of hD2⟩, _, rfl, _, rfl, _, rfl, m, _, rfl, .inl (sm.seq h2), _, _, rfl, rfl, by rw [hlen]; omega, m, _, _, .str (fl.2.getD (left (fs.reverse.take i) n % fl.2.length) ""), rfl, rfl, sm.seq h2, at_dig hfm.1, D, _, _, rfl, rfl, hD2, szt (by rw [List.length_map, digs_len, List.length_take]; omega), ?_⟩
      have sm4 : ∀ o, Same H (upd H3 D o) := fun o b' u e => by
        rw [upd_ne (ne_of_none e hD)]
        exact sm _ _ e
      refine ⟨_, rfl, _, rfl, m, _, rfl, .inl ((sm4 _).seq h2), _, _, rfl, rfl, ⟨by rw [hlen]; omega, by rw [hlen]; omega⟩, some (.str fl.1), some (.ref m), ?_, sm4 _, ?_, ?_, ?_⟩
      · have e : Int.fdiv ((left (fs.reverse.take i) n : Nat) : Int) ((fl.2.map V.str).length : Int) = ((left (fs.reverse.take (i + 1)) n : Nat) : Int) := by
          rw [take_step hfi, left_snoc, hlen, Int.natCast_ediv, Int.fdiv_eq_ediv_of_nonneg _ (by omega)]
        rw [← e]
        rfl
      · rw [upd_ne nrD]; exact hr2
      · rw [upd_same, take_step hfi, digs_snoc, List.map_append]
        rfl
      · rw [take_step hfi, left_snoc]
        exact Nat.le_trans (Nat.div_le_self _ _) hle
    · obtain ⟨x3, x4, rfl, sm, hr2, hD2, hle⟩ := hI
      rw [hrl, ← List.length_reverse (as := fs), List.take_length] at hD2
      refine ⟨_, rfl, D, _, rfl, SqL.of hD2, fun l hl => ⟨l, _, rfl, .inl ⟨SqL.of upd_same, fun t ht => ?_⟩⟩⟩
      have sA := sm.trans ((same_new (o := .lst ((digs fs.reverse n).map V.str).reverse) hl).trans (same_new (o := .tup ((digs fs.reverse n).map V.str).reverse) ht))
      refine q t _ sA (sm.free ((same_new hl).free ht)) ?_
      rw [upd_same]
      unfold req
      rw [List.map_reverse]
def sp_lholds (K : PySem.W.Frag) (n : Nat) : Sp := fun vs H Q _ => ∃ (r : Addr) (v u : V) (fs : List Fld) (rq : List Str) (c : Cd), vs = [v, u, .ref r] ∧ Dp K H u (fldsD fs) ∧ SqT K H r (rq.map V.str) ∧ rq.length = fs.length ∧ FOk fs ∧ fs.length ≤ 1000 ∧ Dp K H v (toD c) ∧ Gd fs n c ∧ ∀ H', Same H H' → Q (.bl (ev fs rq c)) H'
theorem none_lholds {f : Addr} {fd : FuncData} {ps : List Str} {k : Nat} : FnOk P w K mg base CX0 k f fd ps (sp_lholds K 0) := by
  have no : ∀ vs H Q E, ¬ sp_lholds K 0 vs H Q E := fun vs H Q E h => by
    obtain ⟨_, _, _, _, _, c, _, _, _, _, _, _, _, hw, _⟩ := h
    cases c <;> exact hw
  exact ⟨fun vs H Q E h => absurd h (no vs H Q E), fun A outer s H args us vs Q E _ _ _ _ h => absurd h (no vs H Q E)⟩
theorem ok__law_holds_step {f : Addr} {fd : FuncData} {n : Nat} (T : Txt K mg) (F : Fun K "_law_holds" "_law_holds" s__law_holds f fd) (G__law_holds : FnOk P w K mg base CX0 (n + 1) f fd ["_law_tree_here", "_law_fields_here", "_law_request_z"] (sp_lholds K n)) (b__law_holds : Binds K fd ["_law_tree_here", "_law_fields_here", "_law_request_z"] []) (g__law_holds : mg "_law_holds" = some (.ref f)) : FnOk P w K mg base CX0 (n + 2) f fd ["_law_tree_here", "_law_fields_here", "_law_request_z"] (sp_lholds K (n + 1)) := by
  obtain ⟨f__law_parts, fd__law_parts, F__law_parts, b__law_parts, g__law_parts⟩ := T.h__law_parts
  have F__law_holds := F
  have G__law_parts := ok__law_parts (P := P) (w := w) (base := base) T F__law_parts
  refine F.ok sc__law_holds (fun vs H Q E h => ?_) (fun cdv A outer s H vs Q E hr h => ?_)
  · obtain ⟨r, v, u, fs, rq, c, rfl, _⟩ := h
    rfl
  obtain ⟨r, v, u, fs, rq, c, rfl, hu, hr', hrl, hf, hfl, hv, hg, q⟩ := h
  have hr__law_holds : Room (n + 1) _ := hr
  have hr__law_parts : Room 1 _ := hr.mono (by omega)
  refine ⟨_, (pss_cons (ps_if (pt_cmpR op_eq (pe_ix (ix_tupK (K := K)) (pv 0) pe_int (fun _ _ => rfl)) pe_str (nomark _)) (pss_one (ps_ret pe_bl)) pss_nil)
      (pss_cons (ps_if (pt_cmpR op_eq (pe_ix (ix_tupK (K := K)) (pv 0) pe_int (fun _ _ => rfl)) pe_str (nomark _)) (pss_cons (ps_set (i := 4) sc__law_holds.nd rfl (.inl rfl) (pe_bm PySem.F.plainAttrs_list PySem.F.slot_list_index PySem.F.type_list_index mt_index (pe_lc (own := [("_law_name", 6), ("_law_marks_here", 7)]) (g := gTup K 2 (gCons (gName 6) (gCons (gName 7) gNil))) (by rfl) sc__law_holds.nd (pi_listK (K := K) (pv 1)) (blkOk_by (own := [("_law_name", 6), ("_law_marks_here", 7)]) (N := N__law_holds) (sc := defScope s__law_holds) (by decide +kernel)) (fun _ _ _ _ _ => pg_tup rfl (pgs_cons (pg_name (i := 6) sc__law_holds.nd rfl (.inl rfl)) (pgs_cons (pg_name (i := 7) sc__law_holds.nd rfl (.inl rfl)) pgs_nil))) (fun _ _ _ _ _ => pts_nil) (fun _ _ _ _ _ => (pv 6))) (pa_cons (pe_ix (ix_tupK (K := K)) (pv 0) pe_int (fun _ _ => rfl)) pa_nil)))
      (pss_one (ps_ret (pe_cmpR op_eq (pe_ix (ix_tupK (K := K)) (pv 2) (pv 4) (fun _ _ => rfl)) (pe_ix (ix_tupK (K := K)) (pv 0) pe_int (fun _ _ => rfl)) (nomark _))))) pss_nil)
      (pss_cons (ps_setLc (i := 3) (own := [("_law_part", 5)]) (g := gName 5) rfl sc__law_holds.nd rfl rfl (sw_true rfl rfl rfl (by decide +kernel)) (pi_listK (K := K) (pe_call G__law_parts hr__law_parts (by rfl) g__law_parts F__law_parts.kp b__law_parts .nil pass0 (pa_cons (pv 0) pa_nil))) (blkOk_by (own := [("_law_part", 5)]) (N := N__law_holds) (sc := defScope s__law_holds) (by decide +kernel)) (fun _ _ _ _ _ => pg_name (i := 5) sc__law_holds.nd rfl (.inl rfl)) (fun _ _ _ _ _ => pts_nil) (fun _ _ _ _ _ => (pe_call G__law_holds hr__law_holds (by rfl) g__law_holds F__law_holds.kp b__law_holds .nil pass0 (pa_cons (pv 5) (pa_cons (pv 1) (pa_cons (pv 2) pa_nil))))))
      (pss_cons (ps_if (pt_cmpR op_eq (pe_ix (ix_tupK (K := K)) (pv 0) pe_int (fun _ _ => rfl)) pe_str (nomark _)) (pss_one (ps_ret (pe_not (pe_ix (ix_listK (K := K)) (pv 3) pe_int (fun _ _ => rfl))))) pss_nil)
      (pss_one (ps_ret (pe_ifExp (pt_cmpR op_eq (pe_ix (ix_tupK (K := K)) (pv 0) pe_int (fun _ _ => rfl)) pe_str (nomark _)) (pe_callB (cr_allK (K := K) rfl) (by rfl) T.m_all (by decide +kernel) (pa_cons (pv 3) pa_nil)) (pe_callB (cr_anyK (K := K) rfl) (by rfl) T.m_any (by decide +kernel) (pa_cons (pv 3) pa_nil))))))))), ?_⟩
  cases hu with
  | lst hus hut =>
  rename_i ua uxs
  have hul := dpa_len' hut
  cases c with
  | any =>
    unfold toD at hv
    cases hv with
    | tup hs ht =>
      cases ht with
      | cons y1 ht =>
        cases y1
        cases ht
        rename_i t
        refine ⟨_, rfl, t, _, 0, .str "any", rfl, rfl, hs, at0 _ _, rfl, _, rfl, ifT rfl ?_⟩
        have e : ev fs rq .any = true := by unfold ev; rfl
        exact e ▸ q _ (Same.refl _)
  | test ff gg =>
    unfold toD at hv
    cases hv with
    | tup hs ht =>
      rename_i t ys
      have ey : ys = ([("test" : Str), ff, gg] : List Str).map V.str := strs_inv (ss := [("test" : Str), ff, gg]) ht
      subst ey
      obtain ⟨fl, hfl', rfl, hgm⟩ := hg
      refine ⟨_, rfl, t, _, 0, .str "test", rfl, rfl, hs, rfl, rfl, _, rfl, ifF (fun z => absurd (V.str.inj z) (by decide +kernel)) ⟨_, rfl, t, _, 0, .str "test", rfl, rfl, hs, rfl, rfl, _, rfl, ifT rfl ?_⟩⟩
      refine ⟨_, rfl, ua, rfl, ⟨_, hus⟩, fun D hD => ?_⟩
      refine lc_each fs hul walk_list hD (fun f => .str f.1) (fun H' s' => s'.seq hus) (by omega) (fun i x pf H2 Qe Z hx hpf sm hq => ?_) (fun H2 sm hD2 => ?_)
      · obtain ⟨t2, m, rfl, h1, h2⟩ := fld_open (dpa_get' hut hx hpf)
        exact ⟨t2, _, rfl, Same.seqT sm h1, rfl, _, _, rfl, _, _, rfl, rfl, rfl, yes ⟨_, rfl, hq H2 (Same.refl _)⟩⟩
      · have eD : H2 D = some (.lst ((fs.map (·.1)).map V.str)) := by rw [hD2, List.map_map]; rfl
        have hin : fl.1 ∈ fs.map (·.1) := List.mem_map.mpr ⟨fl, hfl', rfl⟩
        have hj : (fs.map (·.1)).idxOf fl.1 < (fs.map (·.1)).length := List.idxOf_lt_length_iff.mpr hin
        have hj' : (fs.map (·.1)).idxOf fl.1 < rq.length := by rw [hrl]; simpa using hj
        refine ⟨.inl ⟨rfl, _, SqL.of eD⟩, _, rfl, t, _, 1, .str fl.1, rfl, rfl, Same.seqT sm hs, rfl, D, _, _, (fs.map (·.1)).idxOf fl.1, .str fl.1, rfl, rfl, SqL.of eD, rfl, flat_strs _, ?_, ?_, ?_, ?_⟩
        · rw [List.getElem?_map, List.getElem?_eq_getElem hj, List.getElem_idxOf hj]
          rfl
        · exact beq_self_eq_true _
        · intro m z' hm hz
          obtain ⟨s', hs', rfl⟩ := str_at hz
          show (s' == fl.1) = false
          rw [beq_eq_false_iff_ne]
          rintro rfl
          exact absurd hs' (idx_first hm)
        · refine ⟨_, rfl, _, rfl, r, _, _, .str (rq.getD ((fs.map (·.1)).idxOf fl.1) ""), rfl, rfl, Same.seqT sm hr', ?_, ?_⟩
          · refine atI_nat ?_
            rw [List.getElem?_map, List.getD_eq_getElem?_getD, List.getElem?_eq_getElem hj']
            rfl
          · refine ⟨_, rfl, t, _, 2, .str gg, rfl, rfl, Same.seqT sm hs, rfl, rfl, ?_⟩
            have e := ev_test fs rq fl.1 gg
            rw [e] at q
            exact q _ sm
  | node k cs =>
    have hw := hg.wn hf.strs'
    have hv0 := hv
    unfold toD at hv
    rw [toDs_map] at hv
    cases hv with
    | tup hs ht =>
      cases ht with
      | cons y1 ht =>
        cases y1
        rename_i t xs
        have k1 : k ≠ "any" := by rcases hg.1 with ⟨rfl, _⟩ | ⟨rfl | rfl, _⟩ <;> decide +kernel
        have k2 : k ≠ "test" := by rcases hg.1 with ⟨rfl, _⟩ | ⟨rfl | rfl, _⟩ <;> decide +kernel
        have hcl : cs.length ≤ 3 := by rcases hg.1 with ⟨_, h⟩ | ⟨_, _, h⟩ <;> omega
        refine ⟨_, rfl, t, _, 0, .str k, rfl, rfl, hs, at0 _ _, rfl, _, rfl, ifF (fun z => k1 (V.str.inj z)) ⟨_, rfl, t, _, 0, .str k, rfl, rfl, hs, at0 _ _, rfl, _, rfl, ifF (fun z => k2 (V.str.inj z)) ?_⟩⟩
        refine ⟨_, rfl, _, _, _, rfl, hv0, hw, fun l ys H1 s1 hl hl1 hys => ⟨l, rfl, ⟨_, SqL.of hl1⟩, fun D hD => ?_⟩⟩
        have hyl := dpa_len' hys
        have hpc : parts (.node k cs) = cs := rfl
        rw [hpc] at hys hyl
        refine lc_each cs hyl walk_list hD (fun c => .bl (ev fs rq c)) (fun H' s' => s'.seq (SqL.of hl1)) (by omega) (fun i x pc H2 Qe Z hx hpc sm hq => ?_) (fun H2 sm hD2 => ?_)
        · refine ⟨rfl, yes ?_⟩
          have sA := s1.trans sm
          exact ⟨_, rfl, _, rfl, _, rfl, r, x, .ref ua, fs, rq, pc, rfl, dp_mono sA (.lst hus hut), Same.seqT sA hr', hrl, hf, hfl, dp_mono sA (dpa_get' hys hx hpc), hg.2 pc (List.mem_of_getElem? hpc), fun H4 s4 => hq H4 s4⟩
        · dsimp only [gName]
          have eD : H2 D = some (.lst ((cs.map (ev fs rq)).map V.bl)) := by rw [hD2, List.map_map]; rfl
          have sA := s1.trans sm
          have hs2 := Same.seqT sA hs
          refine ⟨_, rfl, t, _, 0, .str k, rfl, rfl, hs2, at0 _ _, rfl, _, rfl, ite2 (fun c3 => ?_) (fun c3 => ?_)⟩
          · have e3 : k = "not" := V.str.inj (of_decide_eq_true c3)
            rcases hg.1 with ⟨_, h1⟩ | ⟨rfl | rfl, _⟩
            · obtain ⟨c0, rfl⟩ := one_of h1
              refine ⟨_, rfl, D, _, 0, .bl (ev fs rq c0), rfl, rfl, SqL.of eD, rfl, _, rfl, ?_⟩
              have e : ev fs rq (.node k [c0]) = !(ev fs rq c0) := by
                rw [ev_node, if_pos e3]
                rfl
              exact e ▸ q _ sA
            · exact absurd e3 (by decide +kernel)
            · exact absurd e3 (by decide +kernel)
          · have k3 : k ≠ "not" := fun z => c3 (decide_eq_true (congrArg V.str z))
            refine ⟨_, rfl, t, _, 0, .str k, rfl, rfl, hs2, at0 _ _, rfl, _, rfl, ite2 (fun c4 => ?_) (fun c4 => ?_)⟩
            · have e : ev fs rq (.node k cs) = (cs.map (ev fs rq)).all id := by
                rw [ev_node, if_neg k3, if_pos (V.str.inj (of_decide_eq_true c4))]
              rw [e] at q
              exact ⟨_, rfl, D, _, rfl, SqL.of eD, q _ sA⟩
            · have e : ev fs rq (.node k cs) = (cs.map (ev fs rq)).any id := by
                rw [ev_node, if_neg k3, if_neg fun z => c4 (decide_eq_true (congrArg V.str z))]
              rw [e] at q
              exact ⟨_, rfl, D, _, rfl, SqL.of eD, q _ sA⟩
theorem ok__law_holds (T : Txt K mg) {f : Addr} {fd : FuncData} (F : Fun K "_law_holds" "_law_holds" s__law_holds f fd) (b : Binds K fd ["_law_tree_here", "_law_fields_here", "_law_request_z"] []) (g : mg "_law_holds" = some (.ref f)) : ∀ n, FnOk P w K mg base CX0 (n + 1) f fd ["_law_tree_here", "_law_fields_here", "_law_request_z"] (sp_lholds K n)
  | 0 => none_lholds
  | n + 1 => ok__law_holds_step T F (ok__law_holds T F b g n) b g
def sp_lmatch (K : PySem.W.Frag) (n : Nat) : Sp := fun vs H Q _ => ∃ (v u : V) (fs : List Fld) (c : Cd), vs = [u, v] ∧ Dp K H u (fldsD fs) ∧ FOk fs ∧ fs.length ≤ 5 ∧ tot fs ≤ 400 ∧ Dp K H v (toD c) ∧ Gd fs n c ∧ ∀ (l : Addr) (H' : Hp), Same H H' → H l = none → H' l = some (.lst (nV (mat fs c))) → Q (.ref l) H'
theorem lc_tups {J : It} {n : Nat} {G : Hp → Prop} {Y : Nat → Hp → V → Hp → Prop} (w : Walk J n G Y) {g : TG} {tt : TT} {te : TE} {vs : List Nat} {σ : L2.St} {H1 : Hp} {D : Addr} {Qd : Hp → Prop} (hD : H1 D = none) (f : Nat → List V) (hG : ∀ H, Same H1 H → G H) (hn : n < 100000)
    (hs : ∀ i x H H' (Qe : V → Hp → Prop) (Z : Hp → Prop), i < n → Same H1 H → (∀ t H4, Same H H4 → H4 t = some (.tup (f i)) → Qe (.ref t) H4) → Y i H x H' → g x (wipe σ vs) H' fun σ2 H2 => wipe σ2 vs = wipe σ vs ∧ tt σ2 H2 fun bb H3 => if bb = true then te σ2 H3 Qe else Z H3)
    (hd : ∀ H ys, Same H1 H → ys.length = n → H D = some (.lst ys) → (∀ (i : Nat) y, ys[i]? = some y → ∃ t, y = .ref t ∧ H t = some (.tup (f i))) → Qd H) :
    ∃ W : Nat → Nat → Hp → Prop, (∃ m, W 0 m (upd H1 D (.lst []))) ∧ ∀ i m H, W i m H →
      (J.stop i H ∧ Qd H) ∨ (J.go i H ∧ ∃ Nx : Hp → Prop, (∀ H', Nx H' → ∃ m', m' < m ∧ W (i + 1) m' H') ∧ ∀ x H', J.yld i H x H' → g x (wipe σ vs) H' fun σ2 H2 => wipe σ2 vs = wipe σ vs ∧ tt σ2 H2 fun b H3 =>
        if b = true then te σ2 H3 fun y H4 => ∃ acc, H4 D = some (.lst acc) ∧ acc.length < sizeLine ∧ Nx (upd H4 D (.lst (acc ++ [y]))) else Nx H3) := by
  refine lc_dat w [] hD (fun i y H => ∃ t, y = .ref t ∧ H t = some (.tup (f i))) (fun i y H H' sm ⟨t, h1, h2⟩ => ⟨t, h1, sm _ _ h2⟩) hG hn (fun i x H H' Qe Z hi sm sd hDl hq hy => ?_) (fun H ys sm hyl hD' hys => ?_)
  · refine hs i x H H' Qe Z hi sm (fun t H4 s4 h4 => hq _ H4 s4 ⟨t, rfl, ?_⟩) hy
    obtain ⟨xs, hx⟩ := hDl
    rw [dl_ne fun z => by rw [List.mem_singleton.mp z, s4 _ _ hx] at h4; cases h4]
    exact h4
  · refine hd H ys sm hyl hD' fun i y hy => ?_
    obtain ⟨t, h1, h2⟩ := hys i y hy
    exact ⟨t, h1, dl_le _ _ h2⟩
theorem ok__law_matching {f : Addr} {fd : FuncData} (n : Nat) (T : Txt K mg) (F : Fun K "_law_matching" "_law_matching" s__law_matching f fd) : FnOk P w K mg base CX0 (n + 2) f fd ["_law_fields_here", "_law_tree_here"] (sp_lmatch K n) := by
  obtain ⟨f__law_request, fd__law_request, F__law_request, b__law_request, g__law_request⟩ := T.h__law_request
  obtain ⟨f__law_holds, fd__law_holds, F__law_holds, b__law_holds, g__law_holds⟩ := T.h__law_holds
  obtain ⟨f__law_size, fd__law_size, F__law_size, b__law_size, g__law_size⟩ := T.h__law_size
  have G__law_holds := ok__law_holds (P := P) (w := w) (base := base) T F__law_holds b__law_holds g__law_holds n
  have G__law_request := ok__law_request (P := P) (w := w) (base := base) T F__law_request
  have G__law_size := ok__law_size (P := P) (w := w) (base := base) T F__law_size
  refine F.ok sc__law_matching (fun vs H Q E h => ?_) (fun cdv A outer s H vs Q E hr h => ?_)
  · obtain ⟨v, u, fs, c, rfl, _⟩ := h
    rfl
  obtain ⟨v, u, fs, c, rfl, hu, hf, hl5, htot, hv, hg, q⟩ := h
  have hr__law_holds : Room (n + 1) _ := hr
  have hr__law_request : Room 1 _ := hr.mono (by omega)
  have hr__law_size : Room 1 _ := hr.mono (by omega)
  have h3 : ∀ f ∈ fs, 1 ≤ f.2.length ∧ f.2.length ≤ 3 := fun f hf' => ⟨(hf.1 f hf').2.2.2.2.1, (hf.1 f hf').2.2.2.2.2⟩
  refine ⟨_, (pss_cons (ps_set (i := 2) sc__law_matching.nd rfl (.inr rfl) (pe_lc (own := [("_law_number", 3)]) (g := gName 3) (by rfl) sc__law_matching.nd (pi_range1 (by rfl) T.m_range (pa_cons (pe_call G__law_size hr__law_size (by rfl) g__law_size F__law_size.kp b__law_size .nil pass0 (pa_cons (pv 0) pa_nil)) pa_nil)) (blkOk_by (own := [("_law_number", 3)]) (N := N__law_matching) (sc := defScope s__law_matching) (by decide +kernel)) (fun _ _ _ _ _ => pg_name (i := 3) sc__law_matching.nd rfl (.inl rfl)) (fun _ _ _ _ _ => pts_nil) (fun _ _ _ _ _ => (pe_call G__law_request hr__law_request (by rfl) g__law_request F__law_request.kp b__law_request .nil pass0 (pa_cons (pv 0) (pa_cons (pv 3) pa_nil))))))
      (pss_one (ps_ret (pe_lc (own := [("_law_number", 3)]) (g := gName 3) (by rfl) sc__law_matching.nd (pi_range1 (by rfl) T.m_range (pa_cons (pe_callB (call_len_seqK (K := K)) (by rfl) T.m_len PySem.boot_len (pa_cons (pv 2) pa_nil)) pa_nil)) (blkOk_by (own := [("_law_number", 3)]) (N := N__law_matching) (sc := defScope s__law_matching) (by decide +kernel)) (fun _ _ _ _ _ => pg_name (i := 3) sc__law_matching.nd rfl (.inl rfl)) (fun _ _ _ _ _ => (pts_one (pt_val (pe_call G__law_holds hr__law_holds (by rfl) g__law_holds F__law_holds.kp b__law_holds .nil pass0 (pa_cons (pv 1) (pa_cons (pv 0) (pa_cons (pe_ix (ix_listK (K := K)) (pv 2) (pv 3) (fun _ _ => rfl)) pa_nil))))))) (fun _ _ _ _ _ => (pv 3)))))), ?_⟩
  refine ⟨_, rfl, u, fs, rfl, hu, fun f hf' => (h3 f hf').2, fun H1 s1 => ⟨_, rfl, by omega, by omega, fun D hD => ?_⟩⟩
  refine lc_tups walk_range hD (fun i => (req fs i).map V.str) (fun _ _ => trivial) (by omega) (fun i x H2 H3 Qe Z hi sm hq hy => ?_) (fun H2 ys sm hyl hD2 hys => ?_)
  · obtain ⟨rfl, rfl⟩ := hy
    refine ⟨rfl, yes ⟨_, rfl, _, rfl, u, fs, i, by show [u, V.int (0 + (i : Int))] = _; rw [Int.zero_add], dp_mono (s1.trans sm) hu, h3, hl5, by omega, fun t H4 s4 ht ht4 => hq t H4 s4 ht4⟩⟩
  dsimp only [gName]
  refine ⟨_, rfl, D, _, rfl, .inl (SqL.of hD2), _, rfl, by omega, by omega, fun D2 hD3 => ?_⟩
  have s12 := s1.trans sm
  refine lc_pick walk_range hD3 (fun i => .int (i : Nat)) (fun i => ev fs (req fs i) c) (fun _ _ => trivial) (by omega) (fun i x H3 H4 R Z hi sm' hY hR hZ => ?_) (fun H3 sm' hL => ?_)
  · obtain ⟨rfl, rfl⟩ := hY
    have hi' : i < ys.length := by omega
    have hyi := List.getElem?_eq_getElem hi'
    generalize ys[i] = y at hyi
    obtain ⟨t, rfl, ht⟩ := hys i y hyi
    refine ⟨rfl, _, rfl, _, rfl, _, rfl, _, rfl, D, _, i, .ref t, rfl, by show V.int (0 + (i : Int)) = _; rw [Int.zero_add], SqL.of (sm' _ _ hD2), atI_nat hyi, t, v, u, fs, req fs i, c, rfl, dp_mono (s12.trans sm') hu, SqT.of (sm' _ _ ht), req_len fs i, hf, by omega, dp_mono (s12.trans sm') hv, hg, fun H5 s5 => ⟨_, rfl, ?_⟩⟩
    refine ite2 (fun cT => ⟨_, rfl, ?_⟩) (fun cF => hZ (Bool.eq_false_iff.mpr cF) _ s5)
    have := hR cT _ s5
    show R (V.int (0 + (i : Int))) H5
    rw [Int.zero_add]
    exact this
  · have hL' : H3 D2 = some (.lst (nV (mat fs c))) := by
      rw [hL]
      rw [Int.toNat_natCast, hyl, Int.toNat_natCast]
      rfl
    exact q D2 _ (s12.trans sm') (s12.free hD3) hL'
end
end Hr

set_option Elab.async false
set_option linter.all false
set_option maxRecDepth 100000
set_option maxHeartbeats 4000000
namespace Hr
open PySem PySem.Spec PyProof.Rows L2
section
variable {P : Program} {w : World} {K : PySem.W.Frag} {mg : Str → Option Value} {base : Heap}
/-- the number of a request, from the left -/
def numOf : List Fld → List Str → Nat → Nat
  | [], _, n => n
  | _, [], n => n
  | f :: fs, s :: ss, n => numOf fs ss (n * f.2.length + f.2.idxOf s)
def isReq (fs : List Fld) (rq : List Str) : Prop := rq.length = fs.length ∧ ∀ (i : Nat) f s, fs[i]? = some f → rq[i]? = some s → s ∈ f.2
theorem numOf_snoc : ∀ (fs : List Fld) (rq : List Str) (f : Fld) (s : Str) (n : Nat), fs.length = rq.length → numOf (fs ++ [f]) (rq ++ [s]) n = numOf fs rq n * f.2.length + f.2.idxOf s
  | [], [], f, s, n, _ => rfl
  | [], _ :: _, _, _, _, h => by cases h
  | _ :: _, [], _, _, _, h => by cases h
  | g :: fs, t :: ss, f, s, n, h => numOf_snoc fs ss f s _ (Nat.succ.inj h)
theorem numOf_lt : ∀ (fs : List Fld) (rq : List Str) (n : Nat), isReq fs rq → numOf fs rq n < (n + 1) * tot fs
  | [], rq, n, _ => by show n < (n + 1) * 1; omega
  | f :: fs, [], n, h => by have := h.1; cases this
  | f :: fs, s :: ss, n, h => by
    have hs : s ∈ f.2 := h.2 0 f s rfl rfl
    have hi := List.idxOf_lt_length_iff.mpr hs
    have ih := numOf_lt fs ss (n * f.2.length + f.2.idxOf s) ⟨Nat.succ.inj h.1, fun i g t hg ht => h.2 (i + 1) g t (by simpa using hg) (by simpa using ht)⟩
    show numOf fs ss (n * f.2.length + f.2.idxOf s) < (n + 1) * (f.2.length * tot fs)
    refine Nat.lt_of_lt_of_le ih ?_
    rw [← Nat.mul_assoc]
    refine Nat.mul_le_mul_right _ ?_
    rw [Nat.add_mul, Nat.one_mul]
    omega
theorem tot_take : ∀ {fs : List Fld}, (∀ f ∈ fs, 1 ≤ f.2.length ∧ f.2.length ≤ 3) → ∀ i, tot (fs.take i) ≤ tot fs
  | [], _, i => by rw [List.take_nil]; exact Nat.le_refl _
  | f :: r, h, 0 => by
    show 1 ≤ f.2.length * tot r
    have h1 := (h f List.mem_cons_self).1
    have h2 := tot_take (fs := r) (fun g hg => h g (List.mem_cons_of_mem _ hg)) 0
    have h3 : 1 ≤ tot r := by simpa [tot] using h2
    exact Nat.mul_le_mul h1 h3
  | f :: r, h, i + 1 => Nat.mul_le_mul_left _ (tot_take (fun g hg => h g (List.mem_cons_of_mem _ hg)) i)
def sp_numOf (K : PySem.W.Frag) (C : Addr) : Sp := fun vs H Q _ => ∃ (p r : Addr) (fs : List Fld) (rq : List Str), vs = [.ref p, .ref r] ∧ SchAt K C H p fs ∧ SqT K H r (rq.map V.str) ∧ isReq fs rq ∧ fs.length ≤ 5 ∧ tot fs ≤ 400 ∧ (∀ f ∈ fs, 1 ≤ f.2.length ∧ f.2.length ≤ 3) ∧ ∀ H', Same H H' → Q (.int (numOf fs rq 0)) H'
theorem ok_Schema_number_of {f : Addr} {fd : FuncData} (T : Txt K mg) (F : Fun K "number_of" "Schema.number_of" s_Schema_number_of f fd) : FnOk P w K mg base CX0 1 f fd ["self", "request"] (sp_numOf K (adr (mg "Schema"))) := by
  refine F.ok sc_Schema_number_of (fun vs H Q E h => ?_) (fun cdv A outer s H vs Q E hr h => ?_)
  · obtain ⟨p, r, fs, rq, rfl, _⟩ := h
    rfl
  obtain ⟨p, r, fs, rq, rfl, hS, hr', hq, hl5, htot, h3, q⟩ := h
  obtain ⟨dx, la, ch, hp, hla, hch⟩ := hS.ob
  obtain ⟨ca, xs, rfl, hca, hfz⟩ := hS.ch dx la ch hp
  have hxl := hfz.1
  refine ⟨_, (pss_cons (ps_if (pt_cmpR op_ne (pe_callB (call_len_seqK (K := K)) (by rfl) T.m_len PySem.boot_len (pa_cons (pv 1) pa_nil)) (pe_callB (call_len_seqK (K := K)) (by rfl) T.m_len PySem.boot_len (pa_cons (pe_fld (pv 0) rfl) pa_nil)) (nomark _)) (pss_one ps_never) pss_nil)
      (pss_cons (ps_set (i := 2) sc_Schema_number_of.nd rfl (.inl rfl) pe_int)
      (pss_cons (ps_for PassesOwn.never rfl (pi_enumAK (K := K) (by rfl) T.m_enumerate (pa_cons (pe_fld (pv 0) rfl) pa_nil)) (pg_tup rfl (pgs_cons (pg_name (i := 3) sc_Schema_number_of.nd rfl (.inl rfl)) (pgs_cons (pg_name (i := 4) sc_Schema_number_of.nd rfl (.inl rfl)) pgs_nil))) (pss_cons (ps_if (pt_cmpR (op_notIn_seqK (K := K)) (pe_ix (ix_tupK (K := K)) (pv 1) (pv 3) (fun _ _ => rfl)) (pv 4) (by rfl)) (pss_one ps_never) pss_nil)
      (pss_one (ps_set (i := 2) sc_Schema_number_of.nd rfl (.inl rfl) (pe_op op_add (pe_op op_mul (pv 2) (pe_callB (call_len_seqK (K := K)) (by rfl) T.m_len PySem.boot_len (pa_cons (pv 4) pa_nil))) (pe_tupIx (pv 4) (pa_cons (pe_ix (ix_tupK (K := K)) (pv 1) (pv 3) (fun _ _ => rfl)) pa_nil)))))))
      (pss_one (ps_ret (pv 2)))))), ?_⟩
  refine ⟨_, rfl, r, _, rfl, .inr hr', _, rfl, p, _, dx, _, _, rfl, hp, T.k_Schema, T.n_Schema_choices, sch_choices _ _ _, ca, _, rfl, .inr (SqT.of hca), rfl, _, rfl, ?_⟩
  refine bF ?_ ?_
  · show (!decide (V.int ((rq.map V.str).length : Int) = V.int (xs.length : Int))) = false
    rw [decide_eq_true (by rw [List.length_map, hxl, hq.1])]
    rfl
  refine ⟨_, rfl, p, _, dx, _, _, rfl, hp, T.k_Schema, T.n_Schema_choices, sch_choices _ _ _, ca, xs, rfl, .inr ⟨SqT.of hca, ?_⟩⟩
  refine for_it (walk_enumT (K := K) (a := ca) (xs := xs)) (fun i σ H' => ∃ x3 x4 : Option V, σ = [some (.ref p), some (.ref r), some (.int (numOf (fs.take i) (rq.take i) 0)), x3, x4] ∧ Same H H')
    ⟨none, none, rfl, Same.refl _⟩ (fun i σ H' _ ⟨_, _, _, h⟩ => SqT.of (h _ _ hca)) (fun i x σ H2 H3 hi hI hy => ?_) (fun σ H2 hI => ?_)
  · obtain ⟨x3, x4, rfl, sm⟩ := hI
    obtain ⟨t, u, y, rfl, ht, rfl, e1, e2⟩ := hy
    obtain rfl : V.int (i : Nat) = u := Option.some.inj e1
    have hfi := List.getElem?_eq_getElem (show i < fs.length by omega)
    generalize fs[i] = fl at hfi
    have hrl : i < rq.length := by have := hq.1; omega
    have hri := List.getElem?_eq_getElem hrl
    generalize rq[i] = sr at hri
    have hmem := hq.2 i fl sr hfi hri
    have hfm := h3 fl (List.mem_of_getElem? hfi)
    obtain ⟨b, rfl, ob, hob, hb⟩ := hfz.2 i y fl e2 hfi
    have st := same_new (o := .tup [.int (i : Nat), .ref b]) ht
    have sA := sm.trans st
    have hbs : SqT K (upd H2 t (.tup [.int (i : Nat), .ref b])) b (fl.2.map V.str) := .inl (.inr ⟨ob, sA _ _ hb⟩)
    have hrs := Same.seqT sA hr'
    have hat : atI (rq.map V.str) ((i : Nat) : Int) = some (.str sr) := atI_nat (by rw [List.getElem?_map, hri]; rfl)
    refine ⟨t, _, rfl, SqT.of upd_same, rfl, _, _, rfl, _, _, rfl, rfl, ?_⟩
    refine ⟨_, rfl, _, rfl, r, _, i, .str sr, rfl, rfl, hrs, hat, _, rfl, b, _, rfl, .inr hbs, rfl, flat_strs _, _, rfl, bF (by show (!inV _ _) = false; rw [inV_str, decide_eq_true hmem]; rfl) ?_⟩
    have hj := List.idxOf_lt_length_iff.mpr hmem
    have hlen : (fl.2.map V.str).length = fl.2.length := List.length_map _
    have hnum : numOf (fs.take i) (rq.take i) 0 < 400 := by
      have := numOf_lt (fs.take i) (rq.take i) 0 ⟨by rw [List.length_take, List.length_take, hq.1], fun j g s hg hs => by
        have hji : j < i := by
          have := (List.getElem?_eq_some_iff.mp hg).1
          rw [List.length_take] at this
          omega
        rw [List.getElem?_take_of_lt hji] at hg hs
        exact hq.2 j g s hg hs⟩
      refine Nat.lt_of_lt_of_le this ?_
      rw [Nat.zero_add, Nat.one_mul]
      exact Nat.le_trans (tot_take h3 i) htot
    refine ⟨_, rfl, _, rfl, b, _, rfl, .inr hbs, _, _, rfl, rfl, .inr ⟨by rw [hlen]; omega, by rw [hlen]; omega⟩, ?_⟩
    refine ⟨_, rfl, b, fl.2, ob, rfl, sA _ _ hb, hob, _, rfl, _, rfl, r, _, i, .str sr, rfl, rfl, hrs, hat, sr, fl.2.idxOf sr, rfl, sA _ _ hb, ?_, fun m hm => idx_first hm, _, _, rfl, rfl, ?_⟩
    · rw [List.getElem?_eq_getElem hj, List.getElem_idxOf hj]
    · refine ⟨some (.int (i : Nat)), some (.ref b), ?_, sA⟩
      have e : ((numOf (fs.take i) (rq.take i) 0 : Int) * ((fl.2.map V.str).length : Int)) + ((fl.2.idxOf sr : Nat) : Int) = ((numOf (fs.take (i + 1)) (rq.take (i + 1)) 0 : Nat) : Int) := by
        rw [take_step hfi, take_step hri, numOf_snoc _ _ _ _ _ (by rw [List.length_take, List.length_take, hq.1]), hlen]
        omega
      rw [← e]
      rfl
  · obtain ⟨x3, x4, rfl, sm⟩ := hI
    rw [hxl, List.take_length, ← hq.1, List.take_length]
    exact ⟨_, rfl, q _ sm⟩
end
end Hr

set_option Elab.async false
set_option linter.all false
set_option maxRecDepth 100000
set_option maxHeartbeats 4000000
namespace Hr
open PySem PySem.Spec PyProof.Rows L2
section
variable {P : Program} {w : World} {K : PySem.W.Frag} {mg : Str → Option Value} {base : Heap}
def sp_matches (K : PySem.W.Frag) (C : Addr) (n : Nat) : Sp := fun vs H Q _ => ∃ (p r : Addr) (v : V) (fs : List Fld) (rq : List Str) (c : Cd), vs = [.ref p, v, .ref r] ∧ SchAt K C H p fs ∧ SqT K H r (rq.map V.str) ∧ isReq fs rq ∧ FOk fs ∧ fs.length ≤ 5 ∧ tot fs ≤ 400 ∧ Dp K H v (toD c) ∧ Gd fs n c ∧ size c ≤ 10000 ∧ ∀ H', Same H H' → Q (.bl (ev fs rq c)) H'
theorem ok_matches {f : Addr} {fd : FuncData} (n : Nat) (T : Txt K mg) (F : Fun K "matches" "matches" s_matches f fd) : FnOk P w K mg base CX0 (n + 4) f fd ["schema", "condition", "request"] (sp_matches K (adr (mg "Schema")) n) := by
  obtain ⟨f_check_condition, fd_check_condition, F_check_condition, b_check_condition, g_check_condition⟩ := T.h_check_condition
  obtain ⟨f_Schema_number_of, fd_Schema_number_of, F_Schema_number_of, b_Schema_number_of, m_Schema_number_of⟩ := T.h_Schema_number_of
  obtain ⟨f_holds, fd_holds, F_holds, b_holds, g_holds⟩ := T.h_holds
  obtain ⟨f_Schema_fields, fd_Schema_fields, F_Schema_fields, b_Schema_fields, m_Schema_fields⟩ := T.h_Schema_fields
  have G_check_condition := ok_check_condition (P := P) (w := w) (base := base) n T F_check_condition
  have G_holds := ok_holds (P := P) (w := w) (base := base) T F_holds b_holds g_holds n
  have G_Schema_fields := ok_Schema_fields (P := P) (w := w) (base := base) T F_Schema_fields
  have G_Schema_number_of := ok_Schema_number_of (P := P) (w := w) (base := base) T F_Schema_number_of
  refine F.ok sc_matches (fun vs H Q E h => ?_) (fun cdv A outer s H vs Q E hr h => ?_)
  · obtain ⟨p, r, v, fs, rq, c, rfl, _⟩ := h
    rfl
  obtain ⟨p, r, v, fs, rq, c, rfl, hS, hr', hq, hf, hl5, htot, hv, hg, hsz, q⟩ := h
  have hr_check_condition : Room (n + 3) _ := hr
  have hr_holds : Room (n + 1) _ := hr.mono (by omega)
  have hr_Schema_fields : Room 1 _ := hr.mono (by omega)
  have hr_Schema_number_of : Room 1 _ := hr.mono (by omega)
  have h3 : ∀ f ∈ fs, 1 ≤ f.2.length ∧ f.2.length ≤ 3 := fun f hf' => ⟨(hf.1 f hf').2.2.2.2.1, (hf.1 f hf').2.2.2.2.2⟩
  refine ⟨_, (pss_cons (ps_expr (pe_call G_check_condition hr_check_condition (by rfl) g_check_condition F_check_condition.kp b_check_condition .nil pass0 (pa_cons (pv 0) (pa_cons (pv 1) pa_nil))))
      (pss_cons (ps_expr (pe_meth (pv 0) T.k_Schema m_Schema_number_of G_Schema_number_of hr_Schema_number_of b_Schema_number_of .nil pass0 (pa_cons (pv 2) pa_nil)))
      (pss_one (ps_ret (pe_call G_holds hr_holds (by rfl) g_holds F_holds.kp b_holds .nil pass0 (pa_cons (pe_meth0 (pv 0) T.k_Schema m_Schema_fields G_Schema_fields hr_Schema_fields b_Schema_fields .nil pass0) (pa_cons (pv 1) (pa_cons (pv 2) pa_nil)))))))), ?_⟩
  have no : ∀ {m : Str} (a c : V) (k : Int), ¬ m = "total" → ¬ m = "choices" → ¬ m = "labels" → (sch a c k).lookup m = none := fun a c k => sch_no a c k
  obtain ⟨dx, la, ch, hp, _, _⟩ := hS.ob
  refine ⟨_, rfl, _, rfl, p, v, fs, c, rfl, hS, hf, hl5, hv, hg, hsz, fun H1 s1 => ?_⟩
  refine ⟨_, rfl, p, dx, _, rfl, s1 _ _ hp, no _ _ _ (by decide +kernel) (by decide +kernel) (by decide +kernel), _, rfl, p, r, fs, rq, rfl, hS.same s1, Same.seqT s1 hr', hq, hl5, htot, h3, fun H2 s2 => ?_⟩
  have s12 := s1.trans s2
  refine ⟨_, rfl, p, dx, _, rfl, s12 _ _ hp, no _ _ _ (by decide +kernel) (by decide +kernel) (by decide +kernel), p, fs, rfl, hS.same s12, fun a H3 s3 ha ha3 => ?_⟩
  have s13 := s12.trans s3
  exact ⟨_, rfl, _, rfl, a, r, v, fs, rq, c, rfl, SqL.of ha3, Same.seqT s13 hr', hq.1, hf, dp_mono s13 hv, hg, fun H4 s4 => q _ (s13.trans s4)⟩
theorem digs_at : ∀ (l : List Fld) (n i : Nat) (f : Fld) (s : Str), (∀ f ∈ l, 1 ≤ f.2.length) → l[i]? = some f → (digs l n)[i]? = some s → s ∈ f.2
  | [], _, i, f, s, _, h, _ => by simp at h
  | g :: r, n, 0, f, s, h1, h2, h3 => by
    have e1 : g = f := Option.some.inj h2
    subst e1
    have e2 : g.2.getD (n % g.2.length) "" = s := Option.some.inj h3
    rw [← e2]
    have hl := h1 g List.mem_cons_self
    have hm : n % g.2.length < g.2.length := Nat.mod_lt _ hl
    rw [List.getD_eq_getElem?_getD, List.getElem?_eq_getElem hm]
    exact List.getElem_mem hm
  | g :: r, n, i + 1, f, s, h1, h2, h3 => digs_at r _ i f s (fun x hx => h1 x (List.mem_cons_of_mem _ hx)) (by simpa using h2) (by simpa [digs] using h3)
theorem req_ok {fs : List Fld} (h : ∀ f ∈ fs, 1 ≤ f.2.length) (n : Nat) : isReq fs (req fs n) := by
  refine ⟨req_len fs n, fun i f s hf hs => ?_⟩
  have hi : i < fs.length := (List.getElem?_eq_some_iff.mp hf).1
  unfold req at hs
  rw [List.getElem?_reverse (by rw [digs_len, List.length_reverse]; exact hi), digs_len, List.length_reverse] at hs
  refine digs_at fs.reverse n (fs.length - 1 - i) f s (fun g hg => h g (List.mem_reverse.mp hg)) ?_ hs
  rw [List.getElem?_reverse (by omega), show fs.length - 1 - (fs.length - 1 - i) = i by omega]
  exact hf
end
end Hr

set_option Elab.async false
set_option linter.all false
set_option maxRecDepth 100000
set_option maxHeartbeats 4000000
namespace Hr
open PySem PySem.Spec PyProof.Rows L2
section
variable {P : Program} {w : World} {K : PySem.W.Frag} {mg : Str → Option Value} {base : Heap}
theorem tot_le : ∀ {fs : List Fld}, (∀ f ∈ fs, f.2.length ≤ 3) → tot fs ≤ 3 ^ fs.length
  | [], _ => Nat.le_refl _
  | f :: r, h => by
    show f.2.length * tot r ≤ 3 ^ (r.length + 1)
    rw [Nat.pow_succ, Nat.mul_comm]
    exact Nat.mul_le_mul (tot_le fun g hg => h g (List.mem_cons_of_mem _ hg)) (h f List.mem_cons_self)
theorem tot_small {fs : List Fld} (h : ∀ f ∈ fs, f.2.length ≤ 3) (hl : fs.length ≤ 5) : tot fs ≤ 243 := Nat.le_trans (tot_le h) (Nat.pow_le_pow_right (by decide) hl)
theorem mem_mat {fs : List Fld} {c : Cd} {i : Nat} : i ∈ mat fs c ↔ i < tot fs ∧ ev fs (req fs i) c = true := by
  unfold mat
  rw [List.mem_filter, List.mem_range]
theorem in_mat {fs : List Fld} {c : Cd} {i : Nat} (h : i < tot fs) : inV (.int (i : Nat)) (nV (mat fs c)) = ev fs (req fs i) c := by
  rw [inV_nat, Bool.eq_iff_iff, decide_eq_true_eq, mem_mat]
  exact ⟨fun h => h.2, fun k => ⟨h, k⟩⟩
theorem mat_any (fs : List Fld) : mat fs .any = List.range (tot fs) := by
  unfold mat
  rw [List.filter_eq_self]
  intro i _
  exact ev_any _ _
theorem ok_law {f : Addr} {fd : FuncData} (T : Txt K mg) (F : Fun K "law" "law" s_law f fd) : FnOk P w K mg base CX0 60 f fd ["_law_script"] (sp_law K) := by
  obtain ⟨f__law_bag, fd__law_bag, F__law_bag, b__law_bag, g__law_bag⟩ := T.h__law_bag
  obtain ⟨f__law_fields, fd__law_fields, F__law_fields, b__law_fields, g__law_fields⟩ := T.h__law_fields
  obtain ⟨f__law_matching, fd__law_matching, F__law_matching, b__law_matching, g__law_matching⟩ := T.h__law_matching
  obtain ⟨f__law_of, fd__law_of, F__law_of, b__law_of, g__law_of⟩ := T.h__law_of
  obtain ⟨f__law_schema, fd__law_schema, F__law_schema, b__law_schema, g__law_schema⟩ := T.h__law_schema
  obtain ⟨f__law_small_tree, fd__law_small_tree, F__law_small_tree, b__law_small_tree, g__law_small_tree⟩ := T.h__law_small_tree
  obtain ⟨f__law_size, fd__law_size, F__law_size, b__law_size, g__law_size⟩ := T.h__law_size
  obtain ⟨f_matching, fd_matching, F_matching, b_matching, g_matching, kp_matching⟩ := T.h_matching
  obtain ⟨f__law_same, fd__law_same, F__law_same, b__law_same, g__law_same⟩ := T.h__law_same
  obtain ⟨f_matches, fd_matches, F_matches, b_matches, g_matches, kp_matches⟩ := T.h_matches
  obtain ⟨f__law_request, fd__law_request, F__law_request, b__law_request, g__law_request⟩ := T.h__law_request
  have G__law_bag := ok__law_bag (P := P) (w := w) (base := base) T F__law_bag
  have G__law_fields := ok__law_fields (P := P) (w := w) (base := base) T F__law_fields
  have G__law_schema := ok__law_schema (P := P) (w := w) (base := base) T F__law_schema
  have G__law_small_tree := ok__law_small_tree (P := P) (w := w) (base := base) T F__law_small_tree
  have G__law_ofL := ok__law_ofL (P := P) (w := w) (base := base) T F__law_of
  have G__law_matching := ok__law_matching (P := P) (w := w) (base := base) 4 T F__law_matching
  have G__law_same := ok__law_same (P := P) (w := w) (base := base) T F__law_same b__law_same g__law_same 3
  have G__law_size := ok__law_size (P := P) (w := w) (base := base) T F__law_size
  have G__law_request := ok__law_request (P := P) (w := w) (base := base) T F__law_request
  have G_matching := ok_matching (P := P) (w := w) (base := base) 4 T F_matching
  have G_matches := ok_matches (P := P) (w := w) (base := base) 4 T F_matches
  refine F.ok sc_law (fun vs H Q E h => ?_) (fun cdv A outer s H vs Q E hr h => ?_)
  · obtain ⟨a, ns, rfl, _⟩ := h
    rfl
  obtain ⟨a, ns, rfl, hS, hn, q⟩ := h
  have hr__law_bag : Room 1 _ := hr.mono (by decide)
  have hr__law_fields : Room 4 _ := hr.mono (by decide)
  have hr__law_schema : Room 7 _ := hr.mono (by decide)
  have hr__law_small_tree : Room 9 _ := hr.mono (by decide)
  have hr__law_of : Room 2 _ := hr.mono (by decide)
  have hr__law_matching : Room 6 _ := hr.mono (by decide)
  have hr__law_same : Room 3 _ := hr.mono (by decide)
  have hr__law_size : Room 1 _ := hr.mono (by decide)
  have hr__law_request : Room 1 _ := hr.mono (by decide)
  have hr_matching : Room 8 _ := hr.mono (by decide)
  have hr_matches : Room 8 _ := hr.mono (by decide)
  refine ⟨_, (pss_cons (ps_set (i := 1) sc_law.nd rfl (.inl rfl) (pe_call G__law_bag hr__law_bag (by rfl) g__law_bag F__law_bag.kp b__law_bag .nil pass0 (pa_cons (pv 0) pa_nil)))
      (pss_cons (ps_for PassesOwn.never rfl (pi_range1 (by rfl) T.m_range (pa_cons pe_int pa_nil)) (pg_name (i := 2) sc_law.nd rfl (.inl rfl)) (pss_cons (ps_set (i := 3) sc_law.nd rfl (.inl rfl) (pe_call G__law_fields hr__law_fields (by rfl) g__law_fields F__law_fields.kp b__law_fields .nil pass0 (pa_cons (pv 1) (pa_cons (pe_call G__law_ofL hr__law_of (by rfl) g__law_of F__law_of.kp b__law_of .nil pass0 (pa_cons (pv 1) (pa_cons (pe_lst (pa_cons pe_int (pa_cons pe_int pa_nil))) pa_nil))) pa_nil))))
      (pss_cons (ps_par (i := 7) (j := 8) (by rfl) sc_law.nd rfl rfl (by decide) rfl rfl (pa_cons (pe_call (FnOk.frame G__law_schema) hr__law_schema (by rfl) g__law_schema F__law_schema.kp b__law_schema .nil pass0 (pa_cons (pv 3) pa_nil)) (pa_cons (pe_call G__law_small_tree hr__law_small_tree (by rfl) g__law_small_tree F__law_small_tree.kp b__law_small_tree .nil pass0 (pa_cons (pv 1) (pa_cons (pv 3) pa_nil))) pa_nil)) (by rfl))
      (pss_cons (ps_set (i := 4) sc_law.nd rfl (.inl rfl) (pe_call G__law_matching hr__law_matching (by rfl) g__law_matching F__law_matching.kp b__law_matching .nil pass0 (pa_cons (pv 3) (pa_cons (pv 8) pa_nil))))
      (pss_cons (ps_for PassesOwn.never rfl (pi_range1 (by rfl) T.m_range (pa_cons (pe_call G__law_size hr__law_size (by rfl) g__law_size F__law_size.kp b__law_size .nil pass0 (pa_cons (pv 3) pa_nil)) pa_nil)) (pg_name (i := 5) sc_law.nd rfl (.inl rfl)) (pss_one (ps_if (pt_not (pt_val (pe_call G__law_same hr__law_same (by rfl) g__law_same F__law_same.kp b__law_same .nil pass0 (pa_cons (pe_call G_matches hr_matches (by rfl) g_matches F_matches.kp b_matches .nil pass0 (pa_cons (pv 7) (pa_cons (pv 8) (pa_cons (pe_call G__law_request hr__law_request (by rfl) g__law_request F__law_request.kp b__law_request .nil pass0 (pa_cons (pv 3) (pa_cons (pv 5) pa_nil))) pa_nil)))) (pa_cons (pe_cmpR (op_in_seqK (K := K)) (pv 5) (pv 4) (by rfl)) pa_nil))))) (pss_one (ps_ret pe_bl)) pss_nil)))
      (pss_cons (ps_for PassesOwn.never rfl (pi_range1 (by rfl) T.m_range (pa_cons pe_int pa_nil)) (pg_name (i := 6) sc_law.nd rfl (.inl rfl)) (pss_cons (ps_set (i := 9) sc_law.nd rfl (.inl rfl) (pe_call G_matching hr_matching (by rfl) g_matching F_matching.kp b_matching .nil pass0 (pa_cons (pv 7) (pa_cons (pv 8) pa_nil))))
      (pss_cons (ps_if (pt_not (pt_val (pe_call G__law_same hr__law_same (by rfl) g__law_same F__law_same.kp b__law_same .nil pass0 (pa_cons (pv 9) (pa_cons (pv 4) pa_nil))))) (pss_one (ps_ret pe_bl)) pss_nil)
      (pss_one (ps_expr (pe_bm PySem.F.plainAttrs_list PySem.F.slot_list_append PySem.F.type_list_append mt_append (pv 9) (pa_cons (pe_un un_neg pe_int) pa_nil)))))))
      (pss_cons (ps_if (pt_not (pt_val (pe_call G__law_same hr__law_same (by rfl) g__law_same F__law_same.kp b__law_same .nil pass0 (pa_cons (pe_lst (pa_cons (pe_kwP G_matching hr_matching (by rfl) g_matching F_matching.kp kp_matching pass0 (pk_cons (pv 8) (pk_cons (pv 7) pk_nil))) (pa_cons (pe_call G_matching hr_matching (by rfl) g_matching F_matching.kp b_matching .nil pass0 (pa_cons (pv 7) (pa_cons (pe_tup (pa_cons pe_str pa_nil)) pa_nil))) pa_nil))) (pa_cons (pe_lst (pa_cons (pv 4) (pa_cons (pe_listRg rfl (by rfl) T.m_list (prg_1 (by rfl) T.m_range (pe_call G__law_size hr__law_size (by rfl) g__law_size F__law_size.kp b__law_size .nil pass0 (pa_cons (pv 3) pa_nil)))) pa_nil))) pa_nil))))) (pss_one (ps_ret pe_bl)) pss_nil)
      (pss_one (ps_if (pt_not (pt_val (pe_call G__law_same hr__law_same (by rfl) g__law_same F__law_same.kp b__law_same .nil pass0 (pa_cons (pe_kwP G_matches hr_matches (by rfl) g_matches F_matches.kp kp_matches pass0 (pk_cons (pe_call G__law_request hr__law_request (by rfl) g__law_request F__law_request.kp b__law_request .nil pass0 (pa_cons (pv 3) (pa_cons pe_int pa_nil))) (pk_cons (pv 8) (pk_cons (pv 7) pk_nil)))) (pa_cons (pe_cmpR (op_in_seqK (K := K)) pe_int (pv 4) (by rfl)) pa_nil))))) (pss_one (ps_ret pe_bl)) pss_nil)))))))))
      (pss_one (ps_ret pe_bl)))), ?_⟩
  refine ⟨_, rfl, a, ns, rfl, hS, hn, fun b l H1 hb _ _ => ?_⟩
  have hbS : b ∈ [b] := List.mem_cons_self
  refine ⟨3, rfl, by decide, by decide, for_it (walk_range (lo := 0) (n := 3)) (fun i σ H => ∃ x2 x3 x4 x5 x6 x7 x8 x9, σ = [some (.ref a), some (.ref b), x2, x3, x4, x5, x6, x7, x8, x9] ∧ Bag H b l) ⟨none, none, none, none, none, none, none, none, rfl, hb⟩ (fun _ _ _ _ _ => trivial) (fun i x σ H2 H' hi hI hy => ?_) (fun σ H2 hI => ?_)⟩
  · obtain ⟨x2, x3, x4, x5, x6, x7, x8, x9, rfl, hb1⟩ := hI
    obtain ⟨rfl, rfl⟩ := hy
    refine ⟨_, rfl, _, rfl, by show 2 ≤ sizeLine; decide, fun p0 hp0 => ?_⟩
    have bx0 := Bx.new (o := .lst [.int 3, .int 5]) hb1 hp0
    refine ⟨b, l, p0, _, rfl, bx0.bag, of_new hb1 hp0, by show 1 ≤ 2; decide, by show 2 ≤ 100000; decide, fun vk H2 hvk bx1 => ?_⟩
    obtain ⟨k, rfl, hk1, hk5⟩ : ∃ k : Int, vk = .int k ∧ 1 ≤ k ∧ k ≤ 5 := by
      rcases List.mem_cons.mp hvk with rfl | hvk
      · exact ⟨3, rfl, by decide, by decide⟩
      · rw [List.mem_singleton.mp hvk]; exact ⟨5, rfl, by decide, by decide⟩
    refine ⟨b, l, k, [b], rfl, bx1.bag, hbS, Tr.one bx1.bag, hk1, by omega, fun fv fs H2' bx2 hfv hok hfl => ?_⟩
    have h3' : ∀ f ∈ fs, 1 ≤ f.2.length ∧ f.2.length ≤ 3 := fun f hf => ⟨(hok.1 f hf).2.2.2.2.1, (hok.1 f hf).2.2.2.2.2⟩
    have h3 : ∀ f ∈ fs, f.2.length ≤ 3 := fun f hf => (h3' f hf).2
    have hf5 : fs.length ≤ 5 := by omega
    have htot : tot fs ≤ 243 := tot_small h3 hf5
    have c4 : tot fs ≤ 400 := by omega
    obtain ⟨fa, rfl⟩ : ∃ fa, fv = .ref fa := by
      cases hfv with
      | @lst fa fxs _ hfs hfall => exact ⟨fa, rfl⟩
    refine ⟨_, rfl, [b], bx2.bag.lists, .ref fa, fs, rfl, hfv, hok, hf5, c4, fun p H3' s3' hS3' fr => ?_⟩
    have bx3 := Bx.back bx2.bag hbS s3'
    have hS3 : SchAt K (adr (mg "Schema")) (dl (bk H3' H2' [b]) [b]) p fs := by rw [dl_bk fr]; exact hS3'
    generalize bk H3' H2' [b] = H3 at *
    refine ⟨_, rfl, _, rfl, b, l, fa, [b], fs, rfl, bx3.bag, hbS, bx3.bag.lists, dp_mono (bx3.same hbS) hfv, hok, by omega, fun v c H4 bx4 hg hsz hv => ?_⟩
    refine ⟨_, _, rfl, ?_⟩
    have hf4 := dp_mono (((bx3.trans bx4).same hbS).trans dl_le) hfv
    have hS4 := (hS3.same (bx4.same hbS)).same dl_le
    have hv4 := dp_mono dl_le hv
    have hbag := bx4.bag
    have hsz' : size c ≤ 10000 := by omega
    have r1 : ∀ f ∈ fs, 1 ≤ f.2.length := fun f hf => (h3' f hf).1
    clear hfv hS3 hS3' hv bx4 bx3 bx2 bx1 bx0 s3' fr
    refine st_is [some (.ref a), some (.ref b), some (.int (0 + (i : Int))), some (.ref fa), x4, x5, x6, some (.ref p), some v, x9] rfl ?_
    have ml : (mat fs c).length < 50000 := by
      unfold mat
      refine Nat.lt_of_le_of_lt (List.length_filter_le _ _) ?_
      rw [List.length_range]
      omega
    have pos : 0 < tot fs := by
      have := tot_take h3' 0
      rw [List.take_zero] at this
      exact this
    -- due
    refine ⟨_, rfl, _, rfl, v, .ref fa, fs, c, rfl, hf4, hok, hf5, c4, hv4, hg, fun l1 H5 s5 hl1 e1 => ?_⟩
    -- every request
    refine ⟨_, rfl, .ref fa, fs, rfl, dp_mono s5 hf4, h3, fun H6 s6 => ⟨_, rfl, by omega, by omega, ?_⟩⟩
    have s56 := s5.trans s6
    refine for_it (walk_range (lo := 0) (n := tot fs)) (fun j σ H' => ∃ x5, σ = [some (.ref a), some (.ref b), some (.int (0 + (i : Int))), some (.ref fa), some (.ref l1), x5, x6, some (.ref p), some v, x9] ∧ Same H5 H') ⟨x5, rfl, s6⟩ (fun _ _ _ _ _ => trivial) (fun j x σ H7 H8 hj hI hy => ?_) (fun σ H7 hI => ?_)
    · obtain ⟨x5, rfl, sm⟩ := hI
      obtain ⟨rfl, rfl⟩ := hy
      have sA := s5.trans sm
      refine ⟨_, rfl, _, rfl, _, rfl, _, rfl, .ref fa, fs, j, by show [V.ref fa, V.int (0 + (j : Int))] = _; rw [Int.zero_add], dp_mono sA hf4, h3', hf5, by omega, fun t H9 s9 ht ht9 => ?_⟩
      have sB := sA.trans s9
      refine ⟨p, t, v, fs, req fs j, c, rfl, hS4.same sB, SqT.of ht9, req_ok r1 j, hok, hf5, c4, dp_mono sB hv4, hg, hsz', fun H10 s10 => ?_⟩
      refine ⟨_, rfl, _, rfl, l1, nV (mat fs c), rfl, .inl (SqL.of (s10 _ _ (s9 _ _ (sm _ _ e1)))), rfl, flat_nats _, ?_⟩
      have e : inV (.int (0 + (j : Int))) (nV (mat fs c)) = ev fs (req fs j) c := by rw [Int.zero_add]; exact in_mat hj
      refine ⟨.bl (ev fs (req fs j) c), _, .bool (ev fs (req fs j) c), rfl, .bl _, ?_, deep_bool, fun H11 s11 => ⟨_, rfl, iteF ⟨_, rfl, (sm.trans (s9.trans s10)).trans s11⟩⟩⟩
      show Dp K H10 (.bl (inV (.int (0 + (j : Int))) (nV (mat fs c)))) _
      rw [e]
      exact .bl _
    obtain ⟨x5', rfl, sm⟩ := hI
    -- matching, twice
    have dnat : ∀ {H' : Hp} {q : Addr}, H' q = some (.lst (nV (mat fs c))) → Dp K H' (.ref q) (nD (mat fs c)) := fun h => .lst (SqL.of h) (dpa_nats _)
    refine ⟨2, rfl, by decide, by decide, for_it (walk_range (lo := 0) (n := 2)) (fun j σ H' => ∃ x6 x9, σ = [some (.ref a), some (.ref b), some (.int (0 + (i : Int))), some (.ref fa), some (.ref l1), x5', x6, some (.ref p), some v, x9] ∧ Same H5 H') ⟨x6, x9, rfl, sm⟩ (fun _ _ _ _ _ => trivial) (fun j x σ H8 H9 hj hI hy => ?_) (fun σ H8 hI => ?_)⟩
    · obtain ⟨x6, x9, rfl, sm2⟩ := hI
      obtain ⟨rfl, rfl⟩ := hy
      have sA := s5.trans sm2
      refine ⟨_, rfl, _, rfl, p, v, fs, c, rfl, hS4.same sA, hok, hf5, c4, dp_mono sA hv4, hg, hsz', fun r H10 s10 hr1 er => ?_⟩
      refine ⟨_, rfl, _, rfl, .ref r, .ref l1, nD (mat fs c), rfl, dnat er, dnat (s10 _ _ (sm2 _ _ e1)), nD_deep (n := 1) ml, fun H11 s11 => ⟨_, rfl, iteF ?_⟩⟩
      have er' := s11 _ _ er
      refine ⟨_, rfl, .inl ⟨rfl, _, SqL.of er'⟩, _, rfl, r, nV (mat fs c), _, rfl, rfl, er', szt (by rw [List.length_map]; omega), ?_⟩
      refine ⟨_, _, rfl, fun b' o e => ?_⟩
      rw [upd_ne (ne_of_none (sm2 _ _ e) hr1)]
      exact s11 _ _ (s10 _ _ (sm2 _ _ e))
    obtain ⟨x6', x9', rfl, sm2⟩ := hI
    have sA := s5.trans sm2
    refine ⟨_, rfl, _, rfl, rfl, p, v, fs, c, rfl, hS4.same sA, hok, hf5, c4, dp_mono sA hv4, hg, hsz', fun r1' H9 s9 hr1 er1 => ?_⟩
    have sB := sA.trans s9
    refine ⟨_, rfl, by show 1 ≤ sizeLine; decide, fun t ht => ?_⟩
    have st := same_new (o := .tup [.str "any"]) ht
    refine ⟨p, .ref t, fs, .any, rfl, hS4.same (sB.trans st), hok, hf5, c4, ?_, trivial, (by show size .any ≤ 10000; rw [size]; decide), fun r2 H10 s10 hr2 er2 => ⟨by show 2 ≤ sizeLine; decide, fun fp hfp => ?_⟩⟩
    · unfold toD
      exact .tup (SqT.of upd_same) (.cons (.str _) .nil)
    rw [mat_any] at er2
    have sf := same_new (o := .lst [.ref r1', .ref r2]) hfp
    have sC := ((sB.trans st).trans s10).trans sf
    refine ⟨_, rfl, _, rfl, .ref fa, fs, rfl, dp_mono sC hf4, h3, fun H11 s11 => ⟨_, rfl, RgOk.of_le (by decide) (by omega) (by decide) (by omega), fun rg hrg => ⟨by show 2 ≤ sizeLine; decide, fun dp hdp => ?_⟩⟩⟩
    have srg := same_new (o := .lst (rgV 0 (tot fs))) hrg
    have sdp := same_new (o := .lst [.ref l1, .ref rg]) hdp
    have e1' := sdp _ _ (srg _ _ (s11 _ _ (sf _ _ (s10 _ _ (st _ _ (s9 _ _ (sm2 _ _ e1)))))))
    have er1' := sdp _ _ (srg _ _ (s11 _ _ (sf _ _ (s10 _ _ (st _ _ er1)))))
    have er2' := sdp _ _ (srg _ _ (s11 _ _ (sf _ _ er2)))
    have erg := sdp _ _ (upd_same (H := H11) (a := rg) (o := .lst (rgV 0 (tot fs))))
    have erg := erg.trans (congrArg (fun z => some (HO.lst z)) (rg_nat (tot fs)))
    have efp := sdp _ _ (srg _ _ (s11 _ _ (upd_same (H := H10) (a := fp) (o := .lst [.ref r1', .ref r2]))))
    have dr : ∀ {H' : Hp} {q : Addr}, H' q = some (.lst (nV (List.range (tot fs)))) → Dp K H' (.ref q) (nD (List.range (tot fs))) := fun h => .lst (SqL.of h) (dpa_nats _)
    refine ⟨_, _, .list [nD (mat fs c), nD (List.range (tot fs))], rfl, .lst (SqL.of efp) (.cons (dnat er1') (.cons (dr er2') .nil)), .lst (SqL.of upd_same) (.cons (dnat e1') (.cons (dr erg) .nil)), ?_, fun H12 s12 => ⟨_, rfl, iteF ?_⟩⟩
    · refine deep_list_of (by show 2 < 50000; decide) fun d hd => ?_
      rcases List.mem_cons.mp hd with rfl | hd
      · exact nD_deep (n := 0) ml
      · rw [List.mem_singleton.mp hd]
        exact nD_deep (n := 0) (by rw [List.length_range]; omega)
    have sD := (((sC.trans s11).trans srg).trans sdp).trans s12
    have e1'' := s12 _ _ e1'
    refine ⟨_, rfl, .ref fa, fs, 0, rfl, dp_mono sD hf4, h3', hf5, by decide, fun t2 H13 s13 ht2 ht13 => ?_⟩
    have sE := sD.trans s13
    refine ⟨_, rfl, _, rfl, rfl, p, t2, v, fs, req fs 0, c, rfl, hS4.same sE, SqT.of ht13, req_ok r1 0, hok, hf5, c4, dp_mono sE hv4, hg, hsz', fun H14 s14 => ?_⟩
    refine ⟨_, rfl, l1, nV (mat fs c), rfl, .inl (SqL.of (s14 _ _ (s13 _ _ e1''))), rfl, flat_nats _, ?_⟩
    have e : inV (.int 0) (nV (mat fs c)) = ev fs (req fs 0) c := in_mat (i := 0) pos
    refine ⟨.bl (ev fs (req fs 0) c), _, .bool (ev fs (req fs 0) c), rfl, .bl _, ?_, deep_bool, fun H15 s15 => ⟨_, rfl, iteF ⟨_, _, _, _, _, _, _, _, rfl, hbag.ofSame ((sE.trans s14).trans s15)⟩⟩⟩
    show Dp K H14 (.bl (inV (.int 0) (nV (mat fs c)))) _
    rw [e]
    exact .bl _
  · obtain ⟨x2, x3, x4, x5, x6, x7, x8, x9, rfl, hb1⟩ := hI
    exact q _
end
end Hr

set_option Elab.async false
set_option linter.all false
set_option maxRecDepth 100000
set_option maxHeartbeats 4000000
namespace Hr
open PySem PySem.Spec PyProof.Rows L2
theorem all_mk {l : PySem.W.OpenLaw} {w : World} {K : PySem.W.Frag} {h : Heap} {mg : Str → Option Value} {fa : Addr} (X : K.In h) (G : h.Ns mainGlobals mg) (hfa : mg "law" = some (.ref fa))
    {f0 : Addr} {od0 an0 : Option Addr} {sl0 : Array (Option Value)} {oc0 kV0 dc0 pm0 cd0 ct0 : Value}
    (a0 : PySem.W.nsIn K mainGlobals "consists_of" = some (some (.ref f0))) (l0 : K.lookup f0 = some ⟨oc0, od0, .func (PySem.W.fnOf "consists_of" "consists_of" (defArgs s_consists_of) (defBody s_consists_of) (defScope s_consists_of) .none kV0 dc0 pm0 an0 cd0 ct0), sl0⟩) (c0 : PySem.W.codeIn K cd0 "consists_of" = true) (k0 : PySem.W.keepIn K (.ref f0) = true)
    {f1 : Addr} {od1 an1 : Option Addr} {sl1 : Array (Option Value)} {oc1 kV1 dc1 pm1 cd1 ct1 : Value}
    (a1 : PySem.W.nsIn K mainGlobals "is_name" = some (some (.ref f1))) (l1 : K.lookup f1 = some ⟨oc1, od1, .func (PySem.W.fnOf "is_name" "is_name" (defArgs s_is_name) (defBody s_is_name) (defScope s_is_name) .none kV1 dc1 pm1 an1 cd1 ct1), sl1⟩) (c1 : PySem.W.codeIn K cd1 "is_name" = true) (k1 : PySem.W.keepIn K (.ref f1) = true)
    {f2 : Addr} {od2 an2 : Option Addr} {sl2 : Array (Option Value)} {oc2 kV2 dc2 pm2 cd2 ct2 : Value}
    (a2 : PySem.W.nsIn K mainGlobals "is_value" = some (some (.ref f2))) (l2 : K.lookup f2 = some ⟨oc2, od2, .func (PySem.W.fnOf "is_value" "is_value" (defArgs s_is_value) (defBody s_is_value) (defScope s_is_value) .none kV2 dc2 pm2 an2 cd2 ct2), sl2⟩) (c2 : PySem.W.codeIn K cd2 "is_value" = true) (k2 : PySem.W.keepIn K (.ref f2) = true)
    {f3 : Addr} {od3 an3 : Option Addr} {sl3 : Array (Option Value)} {oc3 kV3 dc3 pm3 cd3 ct3 : Value}
    (a3 : PySem.W.nsIn K mainGlobals "is_field_name" = some (some (.ref f3))) (l3 : K.lookup f3 = some ⟨oc3, od3, .func (PySem.W.fnOf "is_field_name" "is_field_name" (defArgs s_is_field_name) (defBody s_is_field_name) (defScope s_is_field_name) .none kV3 dc3 pm3 an3 cd3 ct3), sl3⟩) (c3 : PySem.W.codeIn K cd3 "is_field_name" = true) (k3 : PySem.W.keepIn K (.ref f3) = true)
    {f4 : Addr} {od4 an4 : Option Addr} {sl4 : Array (Option Value)} {oc4 kV4 dc4 pm4 cd4 ct4 : Value}
    (a4 : PySem.W.nsIn K mainGlobals "check_count" = some (some (.ref f4))) (l4 : K.lookup f4 = some ⟨oc4, od4, .func (PySem.W.fnOf "check_count" "check_count" (defArgs s_check_count) (defBody s_check_count) (defScope s_check_count) .none kV4 dc4 pm4 an4 cd4 ct4), sl4⟩) (c4 : PySem.W.codeIn K cd4 "check_count" = true) (k4 : PySem.W.keepIn K (.ref f4) = true)
    {f5 : Addr} {od5 an5 : Option Addr} {sl5 : Array (Option Value)} {oc5 kV5 dc5 pm5 cd5 ct5 : Value}
    (a5 : PySem.W.nsIn K mainGlobals "checked_values" = some (some (.ref f5))) (l5 : K.lookup f5 = some ⟨oc5, od5, .func (PySem.W.fnOf "checked_values" "checked_values" (defArgs s_checked_values) (defBody s_checked_values) (defScope s_checked_values) .none kV5 dc5 pm5 an5 cd5 ct5), sl5⟩) (c5 : PySem.W.codeIn K cd5 "checked_values" = true) (k5 : PySem.W.keepIn K (.ref f5) = true)
    {f6 : Addr} {od6 an6 : Option Addr} {sl6 : Array (Option Value)} {oc6 kV6 dc6 pm6 cd6 ct6 : Value}
    (a6 : PySem.W.nsIn K mainGlobals "checked_fields" = some (some (.ref f6))) (l6 : K.lookup f6 = some ⟨oc6, od6, .func (PySem.W.fnOf "checked_fields" "checked_fields" (defArgs s_checked_fields) (defBody s_checked_fields) (defScope s_checked_fields) .none kV6 dc6 pm6 an6 cd6 ct6), sl6⟩) (c6 : PySem.W.codeIn K cd6 "checked_fields" = true) (k6 : PySem.W.keepIn K (.ref f6) = true)
    {f7 : Addr} {od7 an7 : Option Addr} {sl7 : Array (Option Value)} {oc7 kV7 dc7 pm7 cd7 ct7 : Value}
    (a7 : PySem.W.nsIn K mainGlobals "count_requests" = some (some (.ref f7))) (l7 : K.lookup f7 = some ⟨oc7, od7, .func (PySem.W.fnOf "count_requests" "count_requests" (defArgs s_count_requests) (defBody s_count_requests) (defScope s_count_requests) .none kV7 dc7 pm7 an7 cd7 ct7), sl7⟩) (c7 : PySem.W.codeIn K cd7 "count_requests" = true) (k7 : PySem.W.keepIn K (.ref f7) = true)
    {f8 : Addr} {od8 an8 : Option Addr} {sl8 : Array (Option Value)} {oc8 kV8 dc8 pm8 cd8 ct8 : Value}
    (a8 : PySem.W.nsIn K mainGlobals "parts_of" = some (some (.ref f8))) (l8 : K.lookup f8 = some ⟨oc8, od8, .func (PySem.W.fnOf "parts_of" "parts_of" (defArgs s_parts_of) (defBody s_parts_of) (defScope s_parts_of) .none kV8 dc8 pm8 an8 cd8 ct8), sl8⟩) (c8 : PySem.W.codeIn K cd8 "parts_of" = true) (k8 : PySem.W.keepIn K (.ref f8) = true)
    {f9 : Addr} {od9 an9 : Option Addr} {sl9 : Array (Option Value)} {oc9 kV9 dc9 pm9 cd9 ct9 : Value}
    (a9 : PySem.W.nsIn K mainGlobals "all_parts" = some (some (.ref f9))) (l9 : K.lookup f9 = some ⟨oc9, od9, .func (PySem.W.fnOf "all_parts" "all_parts" (defArgs s_all_parts) (defBody s_all_parts) (defScope s_all_parts) .none kV9 dc9 pm9 an9 cd9 ct9), sl9⟩) (c9 : PySem.W.codeIn K cd9 "all_parts" = true) (k9 : PySem.W.keepIn K (.ref f9) = true)
    {f10 : Addr} {od10 an10 : Option Addr} {sl10 : Array (Option Value)} {oc10 kV10 dc10 pm10 cd10 ct10 : Value}
    (a10 : PySem.W.nsIn K mainGlobals "tests_of" = some (some (.ref f10))) (l10 : K.lookup f10 = some ⟨oc10, od10, .func (PySem.W.fnOf "tests_of" "tests_of" (defArgs s_tests_of) (defBody s_tests_of) (defScope s_tests_of) .none kV10 dc10 pm10 an10 cd10 ct10), sl10⟩) (c10 : PySem.W.codeIn K cd10 "tests_of" = true) (k10 : PySem.W.keepIn K (.ref f10) = true)
    {f11 : Addr} {od11 an11 : Option Addr} {sl11 : Array (Option Value)} {oc11 kV11 dc11 pm11 cd11 ct11 : Value}
    (a11 : PySem.W.nsIn K mainGlobals "check_condition" = some (some (.ref f11))) (l11 : K.lookup f11 = some ⟨oc11, od11, .func (PySem.W.fnOf "check_condition" "check_condition" (defArgs s_check_condition) (defBody s_check_condition) (defScope s_check_condition) .none kV11 dc11 pm11 an11 cd11 ct11), sl11⟩) (c11 : PySem.W.codeIn K cd11 "check_condition" = true) (k11 : PySem.W.keepIn K (.ref f11) = true)
    {f12 : Addr} {od12 an12 : Option Addr} {sl12 : Array (Option Value)} {oc12 kV12 dc12 pm12 cd12 ct12 : Value}
    (a12 : PySem.W.nsIn K mainGlobals "holds" = some (some (.ref f12))) (l12 : K.lookup f12 = some ⟨oc12, od12, .func (PySem.W.fnOf "holds" "holds" (defArgs s_holds) (defBody s_holds) (defScope s_holds) .none kV12 dc12 pm12 an12 cd12 ct12), sl12⟩) (c12 : PySem.W.codeIn K cd12 "holds" = true) (k12 : PySem.W.keepIn K (.ref f12) = true)
    {f13 : Addr} {od13 an13 : Option Addr} {sl13 : Array (Option Value)} {oc13 kV13 dc13 pm13 cd13 ct13 : Value}
    (a13 : PySem.W.nsIn K mainGlobals "truths" = some (some (.ref f13))) (l13 : K.lookup f13 = some ⟨oc13, od13, .func (PySem.W.fnOf "truths" "truths" (defArgs s_truths) (defBody s_truths) (defScope s_truths) .none kV13 dc13 pm13 an13 cd13 ct13), sl13⟩) (c13 : PySem.W.codeIn K cd13 "truths" = true) (k13 : PySem.W.keepIn K (.ref f13) = true)
    {f14 : Addr} {od14 an14 : Option Addr} {sl14 : Array (Option Value)} {oc14 kV14 dc14 pm14 cd14 ct14 : Value}
    (a14 : PySem.W.nsIn K mainGlobals "matches" = some (some (.ref f14))) (l14 : K.lookup f14 = some ⟨oc14, od14, .func (PySem.W.fnOf "matches" "matches" (defArgs s_matches) (defBody s_matches) (defScope s_matches) .none kV14 dc14 pm14 an14 cd14 ct14), sl14⟩) (c14 : PySem.W.codeIn K cd14 "matches" = true) (k14 : PySem.W.keepIn K (.ref f14) = true)
    {f15 : Addr} {od15 an15 : Option Addr} {sl15 : Array (Option Value)} {oc15 kV15 dc15 pm15 cd15 ct15 : Value}
    (a15 : PySem.W.nsIn K mainGlobals "matching" = some (some (.ref f15))) (l15 : K.lookup f15 = some ⟨oc15, od15, .func (PySem.W.fnOf "matching" "matching" (defArgs s_matching) (defBody s_matching) (defScope s_matching) .none kV15 dc15 pm15 an15 cd15 ct15), sl15⟩) (c15 : PySem.W.codeIn K cd15 "matching" = true) (k15 : PySem.W.keepIn K (.ref f15) = true)
    {f16 : Addr} {od16 an16 : Option Addr} {sl16 : Array (Option Value)} {oc16 kV16 dc16 pm16 cd16 ct16 : Value}
    (a16 : PySem.W.nsIn K mainGlobals "_law_bag" = some (some (.ref f16))) (l16 : K.lookup f16 = some ⟨oc16, od16, .func (PySem.W.fnOf "_law_bag" "_law_bag" (defArgs s__law_bag) (defBody s__law_bag) (defScope s__law_bag) .none kV16 dc16 pm16 an16 cd16 ct16), sl16⟩) (c16 : PySem.W.codeIn K cd16 "_law_bag" = true) (k16 : PySem.W.keepIn K (.ref f16) = true)
    {f17 : Addr} {od17 an17 : Option Addr} {sl17 : Array (Option Value)} {oc17 kV17 dc17 pm17 cd17 ct17 : Value}
    (a17 : PySem.W.nsIn K mainGlobals "_law_pull" = some (some (.ref f17))) (l17 : K.lookup f17 = some ⟨oc17, od17, .func (PySem.W.fnOf "_law_pull" "_law_pull" (defArgs s__law_pull) (defBody s__law_pull) (defScope s__law_pull) .none kV17 dc17 pm17 an17 cd17 ct17), sl17⟩) (c17 : PySem.W.codeIn K cd17 "_law_pull" = true) (k17 : PySem.W.keepIn K (.ref f17) = true)
    {f18 : Addr} {od18 an18 : Option Addr} {sl18 : Array (Option Value)} {oc18 kV18 dc18 pm18 cd18 ct18 : Value}
    (a18 : PySem.W.nsIn K mainGlobals "_law_of" = some (some (.ref f18))) (l18 : K.lookup f18 = some ⟨oc18, od18, .func (PySem.W.fnOf "_law_of" "_law_of" (defArgs s__law_of) (defBody s__law_of) (defScope s__law_of) .none kV18 dc18 pm18 an18 cd18 ct18), sl18⟩) (c18 : PySem.W.codeIn K cd18 "_law_of" = true) (k18 : PySem.W.keepIn K (.ref f18) = true)
    {f19 : Addr} {od19 an19 : Option Addr} {sl19 : Array (Option Value)} {oc19 kV19 dc19 pm19 cd19 ct19 : Value}
    (a19 : PySem.W.nsIn K mainGlobals "_law_same" = some (some (.ref f19))) (l19 : K.lookup f19 = some ⟨oc19, od19, .func (PySem.W.fnOf "_law_same" "_law_same" (defArgs s__law_same) (defBody s__law_same) (defScope s__law_same) .none kV19 dc19 pm19 an19 cd19 ct19), sl19⟩) (c19 : PySem.W.codeIn K cd19 "_law_same" = true) (k19 : PySem.W.keepIn K (.ref f19) = true)
    {f20 : Addr} {od20 an20 : Option Addr} {sl20 : Array (Option Value)} {oc20 kV20 dc20 pm20 cd20 ct20 : Value}
    (a20 : PySem.W.nsIn K mainGlobals "_law_names" = some (some (.ref f20))) (l20 : K.lookup f20 = some ⟨oc20, od20, .func (PySem.W.fnOf "_law_names" "_law_names" (defArgs s__law_names) (defBody s__law_names) (defScope s__law_names) .none kV20 dc20 pm20 an20 cd20 ct20), sl20⟩) (c20 : PySem.W.codeIn K cd20 "_law_names" = true) (k20 : PySem.W.keepIn K (.ref f20) = true)
    {f21 : Addr} {od21 an21 : Option Addr} {sl21 : Array (Option Value)} {oc21 kV21 dc21 pm21 cd21 ct21 : Value}
    (a21 : PySem.W.nsIn K mainGlobals "_law_marks" = some (some (.ref f21))) (l21 : K.lookup f21 = some ⟨oc21, od21, .func (PySem.W.fnOf "_law_marks" "_law_marks" (defArgs s__law_marks) (defBody s__law_marks) (defScope s__law_marks) .none kV21 dc21 pm21 an21 cd21 ct21), sl21⟩) (c21 : PySem.W.codeIn K cd21 "_law_marks" = true) (k21 : PySem.W.keepIn K (.ref f21) = true)
    {f22 : Addr} {od22 an22 : Option Addr} {sl22 : Array (Option Value)} {oc22 kV22 dc22 pm22 cd22 ct22 : Value}
    (a22 : PySem.W.nsIn K mainGlobals "_law_fields" = some (some (.ref f22))) (l22 : K.lookup f22 = some ⟨oc22, od22, .func (PySem.W.fnOf "_law_fields" "_law_fields" (defArgs s__law_fields) (defBody s__law_fields) (defScope s__law_fields) .none kV22 dc22 pm22 an22 cd22 ct22), sl22⟩) (c22 : PySem.W.codeIn K cd22 "_law_fields" = true) (k22 : PySem.W.keepIn K (.ref f22) = true)
    {f23 : Addr} {od23 an23 : Option Addr} {sl23 : Array (Option Value)} {oc23 kV23 dc23 pm23 cd23 ct23 : Value}
    (a23 : PySem.W.nsIn K mainGlobals "_law_size" = some (some (.ref f23))) (l23 : K.lookup f23 = some ⟨oc23, od23, .func (PySem.W.fnOf "_law_size" "_law_size" (defArgs s__law_size) (defBody s__law_size) (defScope s__law_size) .none kV23 dc23 pm23 an23 cd23 ct23), sl23⟩) (c23 : PySem.W.codeIn K cd23 "_law_size" = true) (k23 : PySem.W.keepIn K (.ref f23) = true)
    {f24 : Addr} {od24 an24 : Option Addr} {sl24 : Array (Option Value)} {oc24 kV24 dc24 pm24 cd24 ct24 : Value}
    (a24 : PySem.W.nsIn K mainGlobals "_law_request" = some (some (.ref f24))) (l24 : K.lookup f24 = some ⟨oc24, od24, .func (PySem.W.fnOf "_law_request" "_law_request" (defArgs s__law_request) (defBody s__law_request) (defScope s__law_request) .none kV24 dc24 pm24 an24 cd24 ct24), sl24⟩) (c24 : PySem.W.codeIn K cd24 "_law_request" = true) (k24 : PySem.W.keepIn K (.ref f24) = true)
    {f25 : Addr} {od25 an25 : Option Addr} {sl25 : Array (Option Value)} {oc25 kV25 dc25 pm25 cd25 ct25 : Value}
    (a25 : PySem.W.nsIn K mainGlobals "_law_schema" = some (some (.ref f25))) (l25 : K.lookup f25 = some ⟨oc25, od25, .func (PySem.W.fnOf "_law_schema" "_law_schema" (defArgs s__law_schema) (defBody s__law_schema) (defScope s__law_schema) .none kV25 dc25 pm25 an25 cd25 ct25), sl25⟩) (c25 : PySem.W.codeIn K cd25 "_law_schema" = true) (k25 : PySem.W.keepIn K (.ref f25) = true)
    {f26 : Addr} {od26 an26 : Option Addr} {sl26 : Array (Option Value)} {oc26 kV26 dc26 pm26 cd26 ct26 : Value}
    (a26 : PySem.W.nsIn K mainGlobals "_law_test" = some (some (.ref f26))) (l26 : K.lookup f26 = some ⟨oc26, od26, .func (PySem.W.fnOf "_law_test" "_law_test" (defArgs s__law_test) (defBody s__law_test) (defScope s__law_test) .none kV26 dc26 pm26 an26 cd26 ct26), sl26⟩) (c26 : PySem.W.codeIn K cd26 "_law_test" = true) (k26 : PySem.W.keepIn K (.ref f26) = true)
    {f27 : Addr} {od27 an27 : Option Addr} {sl27 : Array (Option Value)} {oc27 kV27 dc27 pm27 cd27 ct27 : Value}
    (a27 : PySem.W.nsIn K mainGlobals "_law_tree" = some (some (.ref f27))) (l27 : K.lookup f27 = some ⟨oc27, od27, .func (PySem.W.fnOf "_law_tree" "_law_tree" (defArgs s__law_tree) (defBody s__law_tree) (defScope s__law_tree) .none kV27 dc27 pm27 an27 cd27 ct27), sl27⟩) (c27 : PySem.W.codeIn K cd27 "_law_tree" = true) (k27 : PySem.W.keepIn K (.ref f27) = true)
    {f28 : Addr} {od28 an28 : Option Addr} {sl28 : Array (Option Value)} {oc28 kV28 dc28 pm28 cd28 ct28 : Value}
    (a28 : PySem.W.nsIn K mainGlobals "_law_parts" = some (some (.ref f28))) (l28 : K.lookup f28 = some ⟨oc28, od28, .func (PySem.W.fnOf "_law_parts" "_law_parts" (defArgs s__law_parts) (defBody s__law_parts) (defScope s__law_parts) .none kV28 dc28 pm28 an28 cd28 ct28), sl28⟩) (c28 : PySem.W.codeIn K cd28 "_law_parts" = true) (k28 : PySem.W.keepIn K (.ref f28) = true)
    {f29 : Addr} {od29 an29 : Option Addr} {sl29 : Array (Option Value)} {oc29 kV29 dc29 pm29 cd29 ct29 : Value}
    (a29 : PySem.W.nsIn K mainGlobals "_law_many" = some (some (.ref f29))) (l29 : K.lookup f29 = some ⟨oc29, od29, .func (PySem.W.fnOf "_law_many" "_law_many" (defArgs s__law_many) (defBody s__law_many) (defScope s__law_many) .none kV29 dc29 pm29 an29 cd29 ct29), sl29⟩) (c29 : PySem.W.codeIn K cd29 "_law_many" = true) (k29 : PySem.W.keepIn K (.ref f29) = true)
    {f30 : Addr} {od30 an30 : Option Addr} {sl30 : Array (Option Value)} {oc30 kV30 dc30 pm30 cd30 ct30 : Value}
    (a30 : PySem.W.nsIn K mainGlobals "_law_holds" = some (some (.ref f30))) (l30 : K.lookup f30 = some ⟨oc30, od30, .func (PySem.W.fnOf "_law_holds" "_law_holds" (defArgs s__law_holds) (defBody s__law_holds) (defScope s__law_holds) .none kV30 dc30 pm30 an30 cd30 ct30), sl30⟩) (c30 : PySem.W.codeIn K cd30 "_law_holds" = true) (k30 : PySem.W.keepIn K (.ref f30) = true)
    {f31 : Addr} {od31 an31 : Option Addr} {sl31 : Array (Option Value)} {oc31 kV31 dc31 pm31 cd31 ct31 : Value}
    (a31 : PySem.W.nsIn K mainGlobals "_law_matching" = some (some (.ref f31))) (l31 : K.lookup f31 = some ⟨oc31, od31, .func (PySem.W.fnOf "_law_matching" "_law_matching" (defArgs s__law_matching) (defBody s__law_matching) (defScope s__law_matching) .none kV31 dc31 pm31 an31 cd31 ct31), sl31⟩) (c31 : PySem.W.codeIn K cd31 "_law_matching" = true) (k31 : PySem.W.keepIn K (.ref f31) = true)
    {f32 : Addr} {od32 an32 : Option Addr} {sl32 : Array (Option Value)} {oc32 kV32 dc32 pm32 cd32 ct32 : Value}
    (a32 : PySem.W.nsIn K mainGlobals "_law_small_tree" = some (some (.ref f32))) (l32 : K.lookup f32 = some ⟨oc32, od32, .func (PySem.W.fnOf "_law_small_tree" "_law_small_tree" (defArgs s__law_small_tree) (defBody s__law_small_tree) (defScope s__law_small_tree) .none kV32 dc32 pm32 an32 cd32 ct32), sl32⟩) (c32 : PySem.W.codeIn K cd32 "_law_small_tree" = true) (k32 : PySem.W.keepIn K (.ref f32) = true)
    {f33 : Addr} {od33 an33 : Option Addr} {sl33 : Array (Option Value)} {oc33 kV33 dc33 pm33 cd33 ct33 : Value}
    (a33 : PySem.W.nsIn K mainGlobals "law" = some (some (.ref f33))) (l33 : K.lookup f33 = some ⟨oc33, od33, .func (PySem.W.fnOf "law" "law" (defArgs s_law) (defBody s_law) (defScope s_law) .none kV33 dc33 pm33 an33 cd33 ct33), sl33⟩) (c33 : PySem.W.codeIn K cd33 "law" = true) (k33 : PySem.W.keepIn K (.ref f33) = true)
    {C0 : Addr} (aC0 : PySem.W.nsIn K mainGlobals "Schema" = some (some (.ref C0)))
    (pg0 : PySem.W.plainGet K C0 Str.empty = true) (hd0 : PySem.W.hasDictIn K C0 = true) (po0 : PySem.W.plainOver K C0 = true) (sa0 : PySem.W.findIn K (.ref C0) "__setattr__" = some (some (.builtin "object.__setattr__"))) (mk0 : PySem.W.makesIn K C0 = true) (kc0 : PySem.W.keepIn K (.ref C0) = true)
    (n0labels : PySem.W.findIn K (.ref C0) "labels" = some none)
    (n0choices : PySem.W.findIn K (.ref C0) "choices" = some none)
    (n0total : PySem.W.findIn K (.ref C0) "total" = some none)
    {mf0 : Addr} {mod0 man0 : Option Addr} {msl0 : Array (Option Value)} {moc0 mkV0 mdc0 mpm0 mcd0 mct0 : Value}
    (ma0 : PySem.W.findIn K (.ref C0) "__init__" = some (some (.ref mf0))) (mi0 : PySem.W.isFn K (.ref mf0) = true) (ml0 : K.lookup mf0 = some ⟨moc0, mod0, .func (PySem.W.fnOf "__init__" "Schema.__init__" (defArgs s_Schema___init__) (defBody s_Schema___init__) (defScope s_Schema___init__) .none mkV0 mdc0 mpm0 man0 mcd0 mct0), msl0⟩) (mc0 : PySem.W.codeIn K mcd0 "Schema.__init__" = true) (mk_0 : PySem.W.keepIn K (.ref mf0) = true)
    {mf1 : Addr} {mod1 man1 : Option Addr} {msl1 : Array (Option Value)} {moc1 mkV1 mdc1 mpm1 mcd1 mct1 : Value}
    (ma1 : PySem.W.findIn K (.ref C0) "__eq__" = some (some (.ref mf1))) (mi1 : PySem.W.isFn K (.ref mf1) = true) (ml1 : K.lookup mf1 = some ⟨moc1, mod1, .func (PySem.W.fnOf "__eq__" "Schema.__eq__" (defArgs s_Schema___eq__) (defBody s_Schema___eq__) (defScope s_Schema___eq__) .none mkV1 mdc1 mpm1 man1 mcd1 mct1), msl1⟩) (mc1 : PySem.W.codeIn K mcd1 "Schema.__eq__" = true) (mk_1 : PySem.W.keepIn K (.ref mf1) = true)
    {mf2 : Addr} {mod2 man2 : Option Addr} {msl2 : Array (Option Value)} {moc2 mkV2 mdc2 mpm2 mcd2 mct2 : Value}
    (ma2 : PySem.W.findIn K (.ref C0) "__len__" = some (some (.ref mf2))) (mi2 : PySem.W.isFn K (.ref mf2) = true) (ml2 : K.lookup mf2 = some ⟨moc2, mod2, .func (PySem.W.fnOf "__len__" "Schema.__len__" (defArgs s_Schema___len__) (defBody s_Schema___len__) (defScope s_Schema___len__) .none mkV2 mdc2 mpm2 man2 mcd2 mct2), msl2⟩) (mc2 : PySem.W.codeIn K mcd2 "Schema.__len__" = true) (mk_2 : PySem.W.keepIn K (.ref mf2) = true)
    {mf3 : Addr} {mod3 man3 : Option Addr} {msl3 : Array (Option Value)} {moc3 mkV3 mdc3 mpm3 mcd3 mct3 : Value}
    (ma3 : PySem.W.findIn K (.ref C0) "__repr__" = some (some (.ref mf3))) (mi3 : PySem.W.isFn K (.ref mf3) = true) (ml3 : K.lookup mf3 = some ⟨moc3, mod3, .func (PySem.W.fnOf "__repr__" "Schema.__repr__" (defArgs s_Schema___repr__) (defBody s_Schema___repr__) (defScope s_Schema___repr__) .none mkV3 mdc3 mpm3 man3 mcd3 mct3), msl3⟩) (mc3 : PySem.W.codeIn K mcd3 "Schema.__repr__" = true) (mk_3 : PySem.W.keepIn K (.ref mf3) = true)
    {mf4 : Addr} {mod4 man4 : Option Addr} {msl4 : Array (Option Value)} {moc4 mkV4 mdc4 mpm4 mcd4 mct4 : Value}
    (ma4 : PySem.W.findIn K (.ref C0) "fields" = some (some (.ref mf4))) (mi4 : PySem.W.isFn K (.ref mf4) = true) (ml4 : K.lookup mf4 = some ⟨moc4, mod4, .func (PySem.W.fnOf "fields" "Schema.fields" (defArgs s_Schema_fields) (defBody s_Schema_fields) (defScope s_Schema_fields) .none mkV4 mdc4 mpm4 man4 mcd4 mct4), msl4⟩) (mc4 : PySem.W.codeIn K mcd4 "Schema.fields" = true) (mk_4 : PySem.W.keepIn K (.ref mf4) = true)
    {mf5 : Addr} {mod5 man5 : Option Addr} {msl5 : Array (Option Value)} {moc5 mkV5 mdc5 mpm5 mcd5 mct5 : Value}
    (ma5 : PySem.W.findIn K (.ref C0) "values_of" = some (some (.ref mf5))) (mi5 : PySem.W.isFn K (.ref mf5) = true) (ml5 : K.lookup mf5 = some ⟨moc5, mod5, .func (PySem.W.fnOf "values_of" "Schema.values_of" (defArgs s_Schema_values_of) (defBody s_Schema_values_of) (defScope s_Schema_values_of) .none mkV5 mdc5 mpm5 man5 mcd5 mct5), msl5⟩) (mc5 : PySem.W.codeIn K mcd5 "Schema.values_of" = true) (mk_5 : PySem.W.keepIn K (.ref mf5) = true)
    {mf6 : Addr} {mod6 man6 : Option Addr} {msl6 : Array (Option Value)} {moc6 mkV6 mdc6 mpm6 mcd6 mct6 : Value}
    (ma6 : PySem.W.findIn K (.ref C0) "size" = some (some (.ref mf6))) (mi6 : PySem.W.isFn K (.ref mf6) = true) (ml6 : K.lookup mf6 = some ⟨moc6, mod6, .func (PySem.W.fnOf "size" "Schema.size" (defArgs s_Schema_size) (defBody s_Schema_size) (defScope s_Schema_size) .none mkV6 mdc6 mpm6 man6 mcd6 mct6), msl6⟩) (mc6 : PySem.W.codeIn K mcd6 "Schema.size" = true) (mk_6 : PySem.W.keepIn K (.ref mf6) = true)
    {mf7 : Addr} {mod7 man7 : Option Addr} {msl7 : Array (Option Value)} {moc7 mkV7 mdc7 mpm7 mcd7 mct7 : Value}
    (ma7 : PySem.W.findIn K (.ref C0) "request_of" = some (some (.ref mf7))) (mi7 : PySem.W.isFn K (.ref mf7) = true) (ml7 : K.lookup mf7 = some ⟨moc7, mod7, .func (PySem.W.fnOf "request_of" "Schema.request_of" (defArgs s_Schema_request_of) (defBody s_Schema_request_of) (defScope s_Schema_request_of) .none mkV7 mdc7 mpm7 man7 mcd7 mct7), msl7⟩) (mc7 : PySem.W.codeIn K mcd7 "Schema.request_of" = true) (mk_7 : PySem.W.keepIn K (.ref mf7) = true)
    {mf8 : Addr} {mod8 man8 : Option Addr} {msl8 : Array (Option Value)} {moc8 mkV8 mdc8 mpm8 mcd8 mct8 : Value}
    (ma8 : PySem.W.findIn K (.ref C0) "number_of" = some (some (.ref mf8))) (mi8 : PySem.W.isFn K (.ref mf8) = true) (ml8 : K.lookup mf8 = some ⟨moc8, mod8, .func (PySem.W.fnOf "number_of" "Schema.number_of" (defArgs s_Schema_number_of) (defBody s_Schema_number_of) (defScope s_Schema_number_of) .none mkV8 mdc8 mpm8 man8 mcd8 mct8), msl8⟩) (mc8 : PySem.W.codeIn K mcd8 "Schema.number_of" = true) (mk_8 : PySem.W.keepIn K (.ref mf8) = true)
    (z0 : PySem.W.nsIn K mainGlobals "abs" = some none)
    (z1 : PySem.W.nsIn K mainGlobals "all" = some none)
    (z2 : PySem.W.nsIn K mainGlobals "any" = some none)
    (z3 : PySem.W.nsIn K mainGlobals "bool" = some none)
    (z4 : PySem.W.nsIn K mainGlobals "enumerate" = some none)
    (z5 : PySem.W.nsIn K mainGlobals "int" = some none)
    (z6 : PySem.W.nsIn K mainGlobals "isinstance" = some none)
    (z7 : PySem.W.nsIn K mainGlobals "len" = some none)
    (z8 : PySem.W.nsIn K mainGlobals "list" = some none)
    (z9 : PySem.W.nsIn K mainGlobals "max" = some none)
    (z10 : PySem.W.nsIn K mainGlobals "range" = some none)
    (z11 : PySem.W.nsIn K mainGlobals "reversed" = some none)
    (z12 : PySem.W.nsIn K mainGlobals "str" = some none)
    (z13 : PySem.W.nsIn K mainGlobals "sum" = some none)
    (z14 : PySem.W.nsIn K mainGlobals "tuple" = some none)
    (z15 : PySem.W.nsIn K mainGlobals "zip" = some none)
    {t0 : Tok} (e0 : PySem.W.nsIn K mainGlobals "MAX_NAME" = some (some (.int 8 t0)))
    {t1 : Tok} (e1 : PySem.W.nsIn K mainGlobals "MAX_FIELDS" = some (some (.int 5 t1)))
    {t2 : Tok} (e2 : PySem.W.nsIn K mainGlobals "MAX_VALUES" = some (some (.int 6 t2)))
    {t3 : Tok} (e3 : PySem.W.nsIn K mainGlobals "MAX_REQUESTS" = some (some (.int 400 t3)))
    {t4 : Tok} (e4 : PySem.W.nsIn K mainGlobals "NAME_CHARACTERS" = some (some (.str "abcdefghijklmnopqrstuvwxyz" t4)))
    {t5 : Tok} (e5 : PySem.W.nsIn K mainGlobals "VALUE_CHARACTERS" = some (some (.str "abcdefghijklmnopqrstuvwxyz0123456789" t5)))
    : ∃ fd : FuncData, (∀ (s : Shared) (v : Value), BindsTo s fd ⟨[v], []⟩ [("_law_script", v)]) ∧ ∀ base : Heap, K.In base → base.Ns mainGlobals mg → FnOk l.prog w K mg base CX0 60 fa fd ["_law_script"] (sp_law K) := by
  have e := hfa.symm.trans (PySem.W.mg_of X G a33)
  cases e
  have F0 := fun_mk (st := s_consists_of) l0 c0 k0
  have b0 := F0.binds (ps := ["text", "characters"]) fun _ _ _ _ _ _ us hl => match us, hl with | [_, _], _ => rfl
  have F1 := fun_mk (st := s_is_name) l1 c1 k1
  have b1 := F1.binds (ps := ["text"]) fun _ _ _ _ _ _ us hl => match us, hl with | [_], _ => rfl
  have F2 := fun_mk (st := s_is_value) l2 c2 k2
  have b2 := F2.binds (ps := ["text"]) fun _ _ _ _ _ _ us hl => match us, hl with | [_], _ => rfl
  have F3 := fun_mk (st := s_is_field_name) l3 c3 k3
  have b3 := F3.binds (ps := ["text"]) fun _ _ _ _ _ _ us hl => match us, hl with | [_], _ => rfl
  have F4 := fun_mk (st := s_check_count) l4 c4 k4
  have b4 := F4.binds (ps := ["many", "limit"]) fun _ _ _ _ _ _ us hl => match us, hl with | [_, _], _ => rfl
  have F5 := fun_mk (st := s_checked_values) l5 c5 k5
  have b5 := F5.binds (ps := ["values"]) fun _ _ _ _ _ _ us hl => match us, hl with | [_], _ => rfl
  have F6 := fun_mk (st := s_checked_fields) l6 c6 k6
  have b6 := F6.binds (ps := ["fields"]) fun _ _ _ _ _ _ us hl => match us, hl with | [_], _ => rfl
  have F7 := fun_mk (st := s_count_requests) l7 c7 k7
  have b7 := F7.binds (ps := ["choices"]) fun _ _ _ _ _ _ us hl => match us, hl with | [_], _ => rfl
  have F8 := fun_mk (st := s_parts_of) l8 c8 k8
  have b8 := F8.binds (ps := ["condition"]) fun _ _ _ _ _ _ us hl => match us, hl with | [_], _ => rfl
  have F9 := fun_mk (st := s_all_parts) l9 c9 k9
  have b9 := F9.binds (ps := ["condition"]) fun _ _ _ _ _ _ us hl => match us, hl with | [_], _ => rfl
  have F10 := fun_mk (st := s_tests_of) l10 c10 k10
  have b10 := F10.binds (ps := ["condition"]) fun _ _ _ _ _ _ us hl => match us, hl with | [_], _ => rfl
  have F11 := fun_mk (st := s_check_condition) l11 c11 k11
  have b11 := F11.binds (ps := ["schema", "condition"]) fun _ _ _ _ _ _ us hl => match us, hl with | [_, _], _ => rfl
  have F12 := fun_mk (st := s_holds) l12 c12 k12
  have b12 := F12.binds (ps := ["fields", "condition", "request"]) fun _ _ _ _ _ _ us hl => match us, hl with | [_, _, _], _ => rfl
  have F13 := fun_mk (st := s_truths) l13 c13 k13
  have b13 := F13.binds (ps := ["schema", "condition"]) fun _ _ _ _ _ _ us hl => match us, hl with | [_, _], _ => rfl
  have F14 := fun_mk (st := s_matches) l14 c14 k14
  have b14 := F14.binds (ps := ["schema", "condition", "request"]) fun _ _ _ _ _ _ us hl => match us, hl with | [_, _, _], _ => rfl
  have qp14 : KwP _ ["schema", "condition", "request"] ["request", "condition", "schema"] [2, 1, 0] := kp_of F14 rfl fun _ _ _ _ _ _ us hl => match us, hl with | [_, _, _], _ => rfl
  have F15 := fun_mk (st := s_matching) l15 c15 k15
  have b15 := F15.binds (ps := ["schema", "condition"]) fun _ _ _ _ _ _ us hl => match us, hl with | [_, _], _ => rfl
  have qp15 : KwP _ ["schema", "condition"] ["condition", "schema"] [1, 0] := kp_of F15 rfl fun _ _ _ _ _ _ us hl => match us, hl with | [_, _], _ => rfl
  have F16 := fun_mk (st := s__law_bag) l16 c16 k16
  have b16 := F16.binds (ps := ["_law_script"]) fun _ _ _ _ _ _ us hl => match us, hl with | [_], _ => rfl
  have F17 := fun_mk (st := s__law_pull) l17 c17 k17
  have b17 := F17.binds (ps := ["_law_bag_here", "_law_sides"]) fun _ _ _ _ _ _ us hl => match us, hl with | [_, _], _ => rfl
  have F18 := fun_mk (st := s__law_of) l18 c18 k18
  have b18 := F18.binds (ps := ["_law_bag_here", "_law_some"]) fun _ _ _ _ _ _ us hl => match us, hl with | [_, _], _ => rfl
  have F19 := fun_mk (st := s__law_same) l19 c19 k19
  have b19 := F19.binds (ps := ["_law_found", "_law_due"]) fun _ _ _ _ _ _ us hl => match us, hl with | [_, _], _ => rfl
  have F20 := fun_mk (st := s__law_names) l20 c20 k20
  have b20 := F20.binds (ps := ["_law_bag_here", "_law_many_here"]) fun _ _ _ _ _ _ us hl => match us, hl with | [_, _], _ => rfl
  have F21 := fun_mk (st := s__law_marks) l21 c21 k21
  have b21 := F21.binds (ps := ["_law_bag_here", "_law_many_here"]) fun _ _ _ _ _ _ us hl => match us, hl with | [_, _], _ => rfl
  have F22 := fun_mk (st := s__law_fields) l22 c22 k22
  have b22 := F22.binds (ps := ["_law_bag_here", "_law_most"]) fun _ _ _ _ _ _ us hl => match us, hl with | [_, _], _ => rfl
  have F23 := fun_mk (st := s__law_size) l23 c23 k23
  have b23 := F23.binds (ps := ["_law_fields_here"]) fun _ _ _ _ _ _ us hl => match us, hl with | [_], _ => rfl
  have F24 := fun_mk (st := s__law_request) l24 c24 k24
  have b24 := F24.binds (ps := ["_law_fields_here", "_law_number"]) fun _ _ _ _ _ _ us hl => match us, hl with | [_, _], _ => rfl
  have F25 := fun_mk (st := s__law_schema) l25 c25 k25
  have b25 := F25.binds (ps := ["_law_fields_here"]) fun _ _ _ _ _ _ us hl => match us, hl with | [_], _ => rfl
  have F26 := fun_mk (st := s__law_test) l26 c26 k26
  have b26 := F26.binds (ps := ["_law_bag_here", "_law_fields_here"]) fun _ _ _ _ _ _ us hl => match us, hl with | [_, _], _ => rfl
  have F27 := fun_mk (st := s__law_tree) l27 c27 k27
  have b27 := F27.binds (ps := ["_law_bag_here", "_law_fields_here", "_law_deep"]) fun _ _ _ _ _ _ us hl => match us, hl with | [_, _, _], _ => rfl
  have F28 := fun_mk (st := s__law_parts) l28 c28 k28
  have b28 := F28.binds (ps := ["_law_tree_here"]) fun _ _ _ _ _ _ us hl => match us, hl with | [_], _ => rfl
  have F29 := fun_mk (st := s__law_many) l29 c29 k29
  have b29 := F29.binds (ps := ["_law_tree_here"]) fun _ _ _ _ _ _ us hl => match us, hl with | [_], _ => rfl
  have F30 := fun_mk (st := s__law_holds) l30 c30 k30
  have b30 := F30.binds (ps := ["_law_tree_here", "_law_fields_here", "_law_request_z"]) fun _ _ _ _ _ _ us hl => match us, hl with | [_, _, _], _ => rfl
  have F31 := fun_mk (st := s__law_matching) l31 c31 k31
  have b31 := F31.binds (ps := ["_law_fields_here", "_law_tree_here"]) fun _ _ _ _ _ _ us hl => match us, hl with | [_, _], _ => rfl
  have F32 := fun_mk (st := s__law_small_tree) l32 c32 k32
  have b32 := F32.binds (ps := ["_law_bag_here", "_law_fields_here"]) fun _ _ _ _ _ _ us hl => match us, hl with | [_, _], _ => rfl
  have F33 := fun_mk (st := s_law) l33 c33 k33
  have gC0 : mg "Schema" = some (.ref C0) := PySem.W.mg_of X G aC0
  have eC0 : adr (mg "Schema") = C0 := by rw [gC0]; rfl
  have MF0 := fun_mk (st := s_Schema___init__) ml0 mc0 mk_0
  have mb0 := MF0.binds (ps := ["self", "fields"]) fun _ _ _ _ _ _ us hl => match us, hl with | [_, _], _ => rfl
  have MF1 := fun_mk (st := s_Schema___eq__) ml1 mc1 mk_1
  have mb1 := MF1.binds (ps := ["self", "other"]) fun _ _ _ _ _ _ us hl => match us, hl with | [_, _], _ => rfl
  have MF2 := fun_mk (st := s_Schema___len__) ml2 mc2 mk_2
  have mb2 := MF2.binds (ps := ["self"]) fun _ _ _ _ _ _ us hl => match us, hl with | [_], _ => rfl
  have MF3 := fun_mk (st := s_Schema___repr__) ml3 mc3 mk_3
  have mb3 := MF3.binds (ps := ["self"]) fun _ _ _ _ _ _ us hl => match us, hl with | [_], _ => rfl
  have MF4 := fun_mk (st := s_Schema_fields) ml4 mc4 mk_4
  have mb4 := MF4.binds (ps := ["self"]) fun _ _ _ _ _ _ us hl => match us, hl with | [_], _ => rfl
  have MF5 := fun_mk (st := s_Schema_values_of) ml5 mc5 mk_5
  have mb5 := MF5.binds (ps := ["self", "field"]) fun _ _ _ _ _ _ us hl => match us, hl with | [_, _], _ => rfl
  have MF6 := fun_mk (st := s_Schema_size) ml6 mc6 mk_6
  have mb6 := MF6.binds (ps := ["self"]) fun _ _ _ _ _ _ us hl => match us, hl with | [_], _ => rfl
  have MF7 := fun_mk (st := s_Schema_request_of) ml7 mc7 mk_7
  have mb7 := MF7.binds (ps := ["self", "number"]) fun _ _ _ _ _ _ us hl => match us, hl with | [_, _], _ => rfl
  have MF8 := fun_mk (st := s_Schema_number_of) ml8 mc8 mk_8
  have mb8 := MF8.binds (ps := ["self", "request"]) fun _ _ _ _ _ _ us hl => match us, hl with | [_, _], _ => rfl
  have T : Txt K mg := {
    m_abs := PySem.W.mg_none_of X G z0,
    m_all := PySem.W.mg_none_of X G z1,
    m_any := PySem.W.mg_none_of X G z2,
    m_bool := PySem.W.mg_none_of X G z3,
    m_enumerate := PySem.W.mg_none_of X G z4,
    m_int := PySem.W.mg_none_of X G z5,
    m_isinstance := PySem.W.mg_none_of X G z6,
    m_len := PySem.W.mg_none_of X G z7,
    m_list := PySem.W.mg_none_of X G z8,
    m_max := PySem.W.mg_none_of X G z9,
    m_range := PySem.W.mg_none_of X G z10,
    m_reversed := PySem.W.mg_none_of X G z11,
    m_str := PySem.W.mg_none_of X G z12,
    m_sum := PySem.W.mg_none_of X G z13,
    m_tuple := PySem.W.mg_none_of X G z14,
    m_zip := PySem.W.mg_none_of X G z15,
    c_MAX_NAME := ⟨_, PySem.W.mg_of X G e0, ⟨_, rfl⟩⟩,
    c_MAX_FIELDS := ⟨_, PySem.W.mg_of X G e1, ⟨_, rfl⟩⟩,
    c_MAX_VALUES := ⟨_, PySem.W.mg_of X G e2, ⟨_, rfl⟩⟩,
    c_MAX_REQUESTS := ⟨_, PySem.W.mg_of X G e3, ⟨_, rfl⟩⟩,
    c_NAME_CHARACTERS := ⟨_, PySem.W.mg_of X G e4, ⟨_, rfl⟩⟩,
    c_VALUE_CHARACTERS := ⟨_, PySem.W.mg_of X G e5, ⟨_, rfl⟩⟩,
    g_Schema := by rw [eC0]; exact gC0,
    k_Schema := by rw [eC0]; exact ⟨pg0, hd0, po0, sa0⟩,
    n_Schema_labels := by rw [eC0]; exact n0labels,
    n_Schema_choices := by rw [eC0]; exact n0choices,
    n_Schema_total := by rw [eC0]; exact n0total,
    h_Schema___init__ := ⟨_, _, MF0, mb0, by rw [eC0]; exact ⟨mk0, ma0, mi0, kc0⟩⟩,
    h_Schema___eq__ := ⟨_, _, MF1, mb1, by rw [eC0]; exact ⟨ma1, mi1, mk_1⟩⟩,
    h_Schema___len__ := ⟨_, _, MF2, mb2, by rw [eC0]; exact ⟨ma2, mi2, mk_2⟩⟩,
    h_Schema___repr__ := ⟨_, _, MF3, mb3, by rw [eC0]; exact ⟨ma3, mi3, mk_3⟩⟩,
    h_Schema_fields := ⟨_, _, MF4, mb4, by rw [eC0]; exact ⟨ma4, mi4, mk_4⟩⟩,
    h_Schema_values_of := ⟨_, _, MF5, mb5, by rw [eC0]; exact ⟨ma5, mi5, mk_5⟩⟩,
    h_Schema_size := ⟨_, _, MF6, mb6, by rw [eC0]; exact ⟨ma6, mi6, mk_6⟩⟩,
    h_Schema_request_of := ⟨_, _, MF7, mb7, by rw [eC0]; exact ⟨ma7, mi7, mk_7⟩⟩,
    h_Schema_number_of := ⟨_, _, MF8, mb8, by rw [eC0]; exact ⟨ma8, mi8, mk_8⟩⟩,
    h_consists_of := ⟨_, _, F0, b0, PySem.W.mg_of X G a0⟩,
    h_is_name := ⟨_, _, F1, b1, PySem.W.mg_of X G a1⟩,
    h_is_value := ⟨_, _, F2, b2, PySem.W.mg_of X G a2⟩,
    h_is_field_name := ⟨_, _, F3, b3, PySem.W.mg_of X G a3⟩,
    h_check_count := ⟨_, _, F4, b4, PySem.W.mg_of X G a4⟩,
    h_checked_values := ⟨_, _, F5, b5, PySem.W.mg_of X G a5⟩,
    h_checked_fields := ⟨_, _, F6, b6, PySem.W.mg_of X G a6⟩,
    h_count_requests := ⟨_, _, F7, b7, PySem.W.mg_of X G a7⟩,
    h_parts_of := ⟨_, _, F8, b8, PySem.W.mg_of X G a8⟩,
    h_all_parts := ⟨_, _, F9, b9, PySem.W.mg_of X G a9⟩,
    h_tests_of := ⟨_, _, F10, b10, PySem.W.mg_of X G a10⟩,
    h_check_condition := ⟨_, _, F11, b11, PySem.W.mg_of X G a11⟩,
    h_holds := ⟨_, _, F12, b12, PySem.W.mg_of X G a12⟩,
    h_truths := ⟨_, _, F13, b13, PySem.W.mg_of X G a13⟩,
    h_matches := ⟨_, _, F14, b14, PySem.W.mg_of X G a14, qp14⟩,
    h_matching := ⟨_, _, F15, b15, PySem.W.mg_of X G a15, qp15⟩,
    h__law_bag := ⟨_, _, F16, b16, PySem.W.mg_of X G a16⟩,
    h__law_pull := ⟨_, _, F17, b17, PySem.W.mg_of X G a17⟩,
    h__law_of := ⟨_, _, F18, b18, PySem.W.mg_of X G a18⟩,
    h__law_same := ⟨_, _, F19, b19, PySem.W.mg_of X G a19⟩,
    h__law_names := ⟨_, _, F20, b20, PySem.W.mg_of X G a20⟩,
    h__law_marks := ⟨_, _, F21, b21, PySem.W.mg_of X G a21⟩,
    h__law_fields := ⟨_, _, F22, b22, PySem.W.mg_of X G a22⟩,
    h__law_size := ⟨_, _, F23, b23, PySem.W.mg_of X G a23⟩,
    h__law_request := ⟨_, _, F24, b24, PySem.W.mg_of X G a24⟩,
    h__law_schema := ⟨_, _, F25, b25, PySem.W.mg_of X G a25⟩,
    h__law_test := ⟨_, _, F26, b26, PySem.W.mg_of X G a26⟩,
    h__law_tree := ⟨_, _, F27, b27, PySem.W.mg_of X G a27⟩,
    h__law_parts := ⟨_, _, F28, b28, PySem.W.mg_of X G a28⟩,
    h__law_many := ⟨_, _, F29, b29, PySem.W.mg_of X G a29⟩,
    h__law_holds := ⟨_, _, F30, b30, PySem.W.mg_of X G a30⟩,
    h__law_matching := ⟨_, _, F31, b31, PySem.W.mg_of X G a31⟩,
    h__law_small_tree := ⟨_, _, F32, b32, PySem.W.mg_of X G a32⟩ }
  exact ⟨PySem.W.fnOf "law" "law" (defArgs s_law) (defBody s_law) (defScope s_law) .none kV33 dc33 pm33 an33 cd33 ct33, fun s v => .of_eq rfl, fun base _ _ => ok_law T F33⟩
end Hr
open PySem PySem.W PyProof.Rows
set_option maxRecDepth 100000 in
set_option maxHeartbeats 0 in
theorem PySem.Challenge.cw_hiddenrank_k13_conditions_and_requests_holds : PySem.Challenge.rw_hiddenrank_k13_conditions_and_requests.Holds := by
  w_on; o_law; k_head; (case hw => w_witness2)
  k_fill
  refine L2.walk_ofK (l := PySem.Challenge.rw_hiddenrank_k13_conditions_and_requests) (n := 63) (k := 60) (x := "_law_script") (CX := L2.CX0) (sp := Hr.sp_law) rfl (by decide) rfl ⟨rfl, by decide, by decide⟩ (fun w h Y => PySem.W.kIn_of Y) ?F (fun _ _ a ns hl _ hS => ⟨a, ns, rfl, hS, hl, fun _ => rfl⟩) (fun _ _ _ _ h => h)
  case F =>
    intro w mg fa h KX G hmg
    refine' Hr.all_mk KX G hmg ?a0 ?l0 ?c0 ?k0 ?a1 ?l1 ?c1 ?k1 ?a2 ?l2 ?c2 ?k2 ?a3 ?l3 ?c3 ?k3 ?a4 ?l4 ?c4 ?k4 ?a5 ?l5 ?c5 ?k5 ?a6 ?l6 ?c6 ?k6 ?a7 ?l7 ?c7 ?k7 ?a8 ?l8 ?c8 ?k8 ?a9 ?l9 ?c9 ?k9 ?a10 ?l10 ?c10 ?k10 ?a11 ?l11 ?c11 ?k11 ?a12 ?l12 ?c12 ?k12 ?a13 ?l13 ?c13 ?k13 ?a14 ?l14 ?c14 ?k14 ?a15 ?l15 ?c15 ?k15 ?a16 ?l16 ?c16 ?k16 ?a17 ?l17 ?c17 ?k17 ?a18 ?l18 ?c18 ?k18 ?a19 ?l19 ?c19 ?k19 ?a20 ?l20 ?c20 ?k20 ?a21 ?l21 ?c21 ?k21 ?a22 ?l22 ?c22 ?k22 ?a23 ?l23 ?c23 ?k23 ?a24 ?l24 ?c24 ?k24 ?a25 ?l25 ?c25 ?k25 ?a26 ?l26 ?c26 ?k26 ?a27 ?l27 ?c27 ?k27 ?a28 ?l28 ?c28 ?k28 ?a29 ?l29 ?c29 ?k29 ?a30 ?l30 ?c30 ?k30 ?a31 ?l31 ?c31 ?k31 ?a32 ?l32 ?c32 ?k32 ?a33 ?l33 ?c33 ?k33 ?aC0 ?pg0 ?hd0 ?po0 ?sa0 ?mk0 ?kc0 ?n0labels ?n0choices ?n0total ?ma0 ?mi0 ?ml0 ?mc0 ?mk_0 ?ma1 ?mi1 ?ml1 ?mc1 ?mk_1 ?ma2 ?mi2 ?ml2 ?mc2 ?mk_2 ?ma3 ?mi3 ?ml3 ?mc3 ?mk_3 ?ma4 ?mi4 ?ml4 ?mc4 ?mk_4 ?ma5 ?mi5 ?ml5 ?mc5 ?mk_5 ?ma6 ?mi6 ?ml6 ?mc6 ?mk_6 ?ma7 ?mi7 ?ml7 ?mc7 ?mk_7 ?ma8 ?mi8 ?ml8 ?mc8 ?mk_8 ?z0 ?z1 ?z2 ?z3 ?z4 ?z5 ?z6 ?z7 ?z8 ?z9 ?z10 ?z11 ?z12 ?z13 ?z14 ?z15 ?e0 ?e1 ?e2 ?e3 ?e4 ?e5
    (case a0 => k_is)
    (case l0 => k_is)
    (case c0 => k_is)
    (case k0 => k_is)
    (case a1 => k_is)
    (case l1 => k_is)
    (case c1 => k_is)
    (case k1 => k_is)
    (case a2 => k_is)
    (case l2 => k_is)
    (case c2 => k_is)
    (case k2 => k_is)
    (case a3 => k_is)
    (case l3 => k_is)
    (case c3 => k_is)
    (case k3 => k_is)
    (case a4 => k_is)
    (case l4 => k_is)
    (case c4 => k_is)
    (case k4 => k_is)
    (case a5 => k_is)
    (case l5 => k_is)
    (case c5 => k_is)
    (case k5 => k_is)
    (case a6 => k_is)
    (case l6 => k_is)
    (case c6 => k_is)
    (case k6 => k_is)
    (case a7 => k_is)
    (case l7 => k_is)
    (case c7 => k_is)
    (case k7 => k_is)
    (case a8 => k_is)
    (case l8 => k_is)
    (case c8 => k_is)
    (case k8 => k_is)
    (case a9 => k_is)
    (case l9 => k_is)
    (case c9 => k_is)
    (case k9 => k_is)
    (case a10 => k_is)
    (case l10 => k_is)
    (case c10 => k_is)
    (case k10 => k_is)
    (case a11 => k_is)
    (case l11 => k_is)
    (case c11 => k_is)
    (case k11 => k_is)
    (case a12 => k_is)
    (case l12 => k_is)
    (case c12 => k_is)
    (case k12 => k_is)
    (case a13 => k_is)
    (case l13 => k_is)
    (case c13 => k_is)
    (case k13 => k_is)
    (case a14 => k_is)
    (case l14 => k_is)
    (case c14 => k_is)
    (case k14 => k_is)
    (case a15 => k_is)
    (case l15 => k_is)
    (case c15 => k_is)
    (case k15 => k_is)
    (case a16 => k_is)
    (case l16 => k_is)
    (case c16 => k_is)
    (case k16 => k_is)
    (case a17 => k_is)
    (case l17 => k_is)
    (case c17 => k_is)
    (case k17 => k_is)
    (case a18 => k_is)
    (case l18 => k_is)
    (case c18 => k_is)
    (case k18 => k_is)
    (case a19 => k_is)
    (case l19 => k_is)
    (case c19 => k_is)
    (case k19 => k_is)
    (case a20 => k_is)
    (case l20 => k_is)
    (case c20 => k_is)
    (case k20 => k_is)
    (case a21 => k_is)
    (case l21 => k_is)
    (case c21 => k_is)
    (case k21 => k_is)
    (case a22 => k_is)
    (case l22 => k_is)
    (case c22 => k_is)
    (case k22 => k_is)
    (case a23 => k_is)
    (case l23 => k_is)
    (case c23 => k_is)
    (case k23 => k_is)
    (case a24 => k_is)
    (case l24 => k_is)
    (case c24 => k_is)
    (case k24 => k_is)
    (case a25 => k_is)
    (case l25 => k_is)
    (case c25 => k_is)
    (case k25 => k_is)
    (case a26 => k_is)
    (case l26 => k_is)
    (case c26 => k_is)
    (case k26 => k_is)
    (case a27 => k_is)
    (case l27 => k_is)
    (case c27 => k_is)
    (case k27 => k_is)
    (case a28 => k_is)
    (case l28 => k_is)
    (case c28 => k_is)
    (case k28 => k_is)
    (case a29 => k_is)
    (case l29 => k_is)
    (case c29 => k_is)
    (case k29 => k_is)
    (case a30 => k_is)
    (case l30 => k_is)
    (case c30 => k_is)
    (case k30 => k_is)
    (case a31 => k_is)
    (case l31 => k_is)
    (case c31 => k_is)
    (case k31 => k_is)
    (case a32 => k_is)
    (case l32 => k_is)
    (case c32 => k_is)
    (case k32 => k_is)
    (case a33 => k_is)
    (case l33 => k_is)
    (case c33 => k_is)
    (case k33 => k_is)
    (case aC0 => k_is)
    (case pg0 => k_is)
    (case hd0 => k_is)
    (case po0 => k_is)
    (case sa0 => k_is)
    (case mk0 => k_is)
    (case kc0 => k_is)
    (case n0labels => k_is)
    (case n0choices => k_is)
    (case n0total => k_is)
    (case ma0 => k_is)
    (case mi0 => k_is)
    (case ml0 => k_is)
    (case mc0 => k_is)
    (case mk_0 => k_is)
    (case ma1 => k_is)
    (case mi1 => k_is)
    (case ml1 => k_is)
    (case mc1 => k_is)
    (case mk_1 => k_is)
    (case ma2 => k_is)
    (case mi2 => k_is)
    (case ml2 => k_is)
    (case mc2 => k_is)
    (case mk_2 => k_is)
    (case ma3 => k_is)
    (case mi3 => k_is)
    (case ml3 => k_is)
    (case mc3 => k_is)
    (case mk_3 => k_is)
    (case ma4 => k_is)
    (case mi4 => k_is)
    (case ml4 => k_is)
    (case mc4 => k_is)
    (case mk_4 => k_is)
    (case ma5 => k_is)
    (case mi5 => k_is)
    (case ml5 => k_is)
    (case mc5 => k_is)
    (case mk_5 => k_is)
    (case ma6 => k_is)
    (case mi6 => k_is)
    (case ml6 => k_is)
    (case mc6 => k_is)
    (case mk_6 => k_is)
    (case ma7 => k_is)
    (case mi7 => k_is)
    (case ml7 => k_is)
    (case mc7 => k_is)
    (case mk_7 => k_is)
    (case ma8 => k_is)
    (case mi8 => k_is)
    (case ml8 => k_is)
    (case mc8 => k_is)
    (case mk_8 => k_is)
    (case z0 => k_is)
    (case z1 => k_is)
    (case z2 => k_is)
    (case z3 => k_is)
    (case z4 => k_is)
    (case z5 => k_is)
    (case z6 => k_is)
    (case z7 => k_is)
    (case z8 => k_is)
    (case z9 => k_is)
    (case z10 => k_is)
    (case z11 => k_is)
    (case z12 => k_is)
    (case z13 => k_is)
    (case z14 => k_is)
    (case z15 => k_is)
    (case e0 => k_is)
    (case e1 => k_is)
    (case e2 => k_is)
    (case e3 => k_is)
    (case e4 => k_is)
    (case e5 => k_is)
