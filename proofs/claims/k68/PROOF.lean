import PyProof.Rows.All
import Wide.All
import OpenK.AllK
import Wide.FinOn
import PyProof.EqAt
import PyProof.EqKinds
import PyProof.TupleCall
import HandS.ForMost
import HandS.Walk
import HandS.Zip
import HandS.IsInst
import HandS.Wide
import HandS.Flow
import HandS.Exc
import KE.KxIndex
import KE.KxText
import HandS.Deep
import HandS.SortKw
import HandS.Style
import HandS.TupAny
import KE.DatumOrd
import HandS.Conv
import HandS.Rev
import HandS.Strs
import KE.KDictZip
import KE.KDictItemsList
import HandS.ListItems
import HandS.TryOnly
import PyProof.P3Eq
import KE.GoesEnum
import HandS.Defaults
import HandS.WideBits
import HandS.More
import HandS.TupMul
import HandS.SortInts
import HandS.DictComp
import HandS.SetFor
import KE.SortData
import HandS.ExcInit
import HandS.ExcInitHot
import HandS.ExcCtx
import HandS.HotCalls
import HandS.Lambda
import HandS.EndTab
import KE.KExcInit
import HandS.ExcIs
import PySem.Challenge.RW_hiddenrank_k68_error_classes
set_option Elab.async false
set_option linter.all false
set_option maxRecDepth 100000
set_option maxHeartbeats 4000000
/-! general words: heaps, a frame rule for calls, data under growing heaps -/
namespace Hr
open PySem PySem.Spec PyProof.Rows L2
/-! ### heaps -/
theorem same_new {H : Hp} {p : Addr} {o : HO} (h : H p = none) : Same H (upd H p o) := fun b u e => by
  rw [upd_ne (ne_of_none e h)]
  exact e
theorem upd_comm {H : Hp} {a b : Addr} {o u : HO} (h : a ≠ b) : upd (upd H a o) b u = upd (upd H b u) a o := by
  funext c
  by_cases e : c = b
  · rw [e, upd_same, upd_ne (Ne.symm h), upd_same]
  · by_cases f : c = a
    · rw [f, upd_ne h, upd_same, upd_same]
    · rw [upd_ne e, upd_ne f, upd_ne f, upd_ne e]
theorem upd_id {H : Hp} {a : Addr} {o : HO} (h : H a = some o) : upd H a o = H := by
  funext c
  by_cases e : c = a
  · rw [e, upd_same, h]
  · rw [upd_ne e]
theorem Same.seqT {K : PySem.W.Frag} {H H' : Hp} {a : Addr} {xs : List V} (e : Same H H') (h : SqT K H a xs) : SqT K H' a xs := by
  rcases h with (h | ⟨o, h⟩) | h
  · exact .inl (.inl (e _ _ h))
  · exact .inl (.inr ⟨o, e _ _ h⟩)
  · exact .inr h
mutual
theorem dp_mono {K : PySem.W.Frag} {H H' : Hp} (e : Same H H') : ∀ {v : V} {d : PyData}, Dp K H v d → Dp K H' v d
  | _, _, .non => .non
  | _, _, .bl b => .bl b
  | _, _, .int i => .int i
  | _, _, .str x => .str x
  | _, _, .lst h t => .lst (e.seq h) (dpa_mono e t)
  | _, _, .tup h t => .tup (Same.seqT e h) (dpa_mono e t)
theorem dpa_mono {K : PySem.W.Frag} {H H' : Hp} (e : Same H H') : ∀ {vs : List V} {ds : List PyData}, DpAll K H vs ds → DpAll K H' vs ds
  | _, _, .nil => .nil
  | _, _, .cons h t => .cons (dp_mono e h) (dpa_mono e t)
end
/-! ### heaps without some lists -/
def dl (H : Hp) (S : List Addr) : Hp := fun a => if a ∈ S then none else H a
theorem dl_at {H : Hp} {S : List Addr} {a : Addr} (h : a ∈ S) : dl H S a = none := by unfold dl; rw [if_pos h]
theorem dl_ne {H : Hp} {S : List Addr} {a : Addr} (h : a ∉ S) : dl H S a = H a := by unfold dl; rw [if_neg h]
theorem dl_nil {H : Hp} : dl H [] = H := by funext a; exact dl_ne (by simp)
theorem dl_some {H : Hp} {S : List Addr} {a : Addr} {o : HO} (h : dl H S a = some o) : a ∉ S ∧ H a = some o := by
  by_cases e : a ∈ S
  · rw [dl_at e] at h; cases h
  · rw [dl_ne e] at h; exact ⟨e, h⟩
theorem dl_le {H : Hp} {S : List Addr} : Same (dl H S) H := fun a o e => (dl_some e).2
theorem dl_sub {H : Hp} {S S' : List Addr} (h : ∀ a ∈ S, a ∈ S') : Same (dl H S') (dl H S) := fun a o e => by
  obtain ⟨h1, h2⟩ := dl_some e
  rw [dl_ne fun z => h1 (h a z)]
  exact h2
theorem dl_mono {H H' : Hp} {S : List Addr} (s : Same H H') : Same (dl H S) (dl H' S) := fun a o e => by
  obtain ⟨h1, h2⟩ := dl_some e
  rw [dl_ne h1]
  exact s a o h2
theorem dl_upd {H : Hp} {S : List Addr} {a : Addr} {o : HO} (h : a ∈ S) : dl (upd H a o) S = dl H S := by
  funext c
  by_cases e : c ∈ S
  · rw [dl_at e, dl_at e]
  · rw [dl_ne e, dl_ne e, upd_ne fun z => e (by rw [z]; exact h)]
theorem dl_new {H : Hp} {S : List Addr} {p : Addr} {o : HO} (h : p ∉ S) : dl (upd H p o) S = upd (dl H S) p o := by
  funext c
  by_cases e : c ∈ S
  · rw [dl_at e, upd_ne fun z => h (by rw [← z]; exact e), dl_at e]
  · rw [dl_ne e]
    by_cases f : c = p
    · rw [f, upd_same, upd_same]
    · rw [upd_ne f, upd_ne f, dl_ne e]
/-- H' with what H has at S -/
def bk (H' H : Hp) (S : List Addr) : Hp := fun a => if a ∈ S then H a else H' a
theorem bk_at {H' H : Hp} {S : List Addr} {a : Addr} (h : a ∈ S) : bk H' H S a = H a := by unfold bk; rw [if_pos h]
theorem bk_ne {H' H : Hp} {S : List Addr} {a : Addr} (h : a ∉ S) : bk H' H S a = H' a := by unfold bk; rw [if_neg h]
theorem dl_bk {H' H : Hp} {S : List Addr} (h : ∀ a ∈ S, H' a = none) : dl (bk H' H S) S = H' := by
  funext c
  by_cases e : c ∈ S
  · rw [dl_at e, h c e]
  · rw [dl_ne e, bk_ne e]
theorem same_bk {H' H : Hp} {S : List Addr} (s : Same (dl H S) H') : Same H (bk H' H S) := fun a o e => by
  by_cases z : a ∈ S
  · rw [bk_at z]; exact e
  · rw [bk_ne z]; exact s a o (by rw [dl_ne z]; exact e)
theorem bk_le {H' H : Hp} {S : List Addr} (h : ∀ a ∈ S, H' a = none) : Same H' (bk H' H S) := fun a o e => by
  by_cases z : a ∈ S
  · rw [h a z] at e; cases e
  · rw [bk_ne z]; exact e
/-! ### the frame rule: tracked lists that the callee is not told of stay as they are -/
def Lists (H : Hp) (S : List Addr) : Prop := ∀ a ∈ S, ∃ xs, H a = some (.lst xs)
theorem Lists.ne {H : Hp} {S : List Addr} (hb : Lists H S) {a : Addr} {o : HO} (h : H a = some o) (d : ∀ xs, o ≠ .lst xs) : a ∉ S := fun z => by
  obtain ⟨xs, e⟩ := hb a z
  rw [h] at e
  exact d xs (Option.some.inj e)
theorem hok_dl {P : Program} {w : World} {H : Hp} {h : Heap} {S : List Addr} (ok : HOk P w H h) (hb : Lists H S) : HOk P w (dl H S) h := fun a o e => by
  refine (ok a o (dl_le _ _ e)).stay (fun _ _ _ q => q) (fun c q => ?_) fun c ys q => ?_
  · rw [dl_ne (hb.ne q fun _ z => by cases z)]; exact q
  · rw [dl_ne (hb.ne q fun _ z => by cases z)]; exact q
theorem env_dl {P : Program} {w : World} {K : PySem.W.Frag} {mg : Str → Option Value} {base : Heap} {A : Around} {outer : List Env} {s : Shared} {H : Hp} {S : List Addr} (E0 : Env0 P w K mg base A outer s H) (hb : Lists H S) :
    Env0 P w K mg base A outer s (dl H S) :=
  ⟨E0.frames, E0.mod, fun c o e => ⟨(E0.bs c o e).1, by
      by_cases z : c ∈ S
      · rw [dl_at z]
      · rw [dl_ne z]; exact (E0.bs c o e).2⟩, E0.bsz, E0.funs, fun c hc => by
      by_cases z : c ∈ S
      · rw [dl_at z]
      · rw [dl_ne z]; exact E0.frf c hc, hok_dl E0.hok hb, E0.bare⟩
/-- the promise with some tracked lists kept aside -/
def framed (sp : Sp) : Sp := fun vs H Q E => ∃ S : List Addr, Lists H S ∧ sp vs (dl H S) (fun v H' => (∀ a ∈ S, H' a = none) → Q v (bk H' H S)) fun c d H' => (∀ a ∈ S, H' a = none) → E c d (bk H' H S)
theorem un_bk {fs : List Addr} {H H' : Hp} {h h' : Heap} {S : List Addr} (u : Un fs [] (dl H S) H' h h') (hb : Lists H S) (ex : ∀ a ∈ S, ∃ o, h.get? a = some o) : (∀ a ∈ S, H' a = none) ∧ Un fs [] H (bk H' H S) h h' := by
  have fr : ∀ a ∈ S, H' a = none := fun a ha => by
    obtain ⟨o, ho⟩ := ex a ha
    exact u.free a o ho (dl_at ha) (by simp)
  have hid : ∀ c, H c = none → dl H S c = none := fun c n => by
    by_cases z : c ∈ S
    · rw [dl_at z]
    · rw [dl_ne z]; exact n
  refine ⟨fr, ⟨fun c q e n hc hx => u.keep c q e (hid c n) hc hx, fun c q e n hc hx => u.slot c q e (hid c n) hc hx, fun c q e n hx => ?_, u.there, fun c ys e => ?_, fun c q v e => ?_, fun c ps e => ?_⟩⟩
  · have z : c ∉ S := fun z => by
      obtain ⟨xs, k⟩ := hb c z
      rw [n] at k; cases k
    rw [bk_ne z]
    exact u.free c q e (hid c n) hx
  · have z := hb.ne e fun _ z => by cases z
    rw [bk_ne z]
    exact u.tups c ys (by rw [dl_ne z]; exact e)
  · have z := hb.ne e fun _ z => by cases z
    rw [bk_ne z]
    exact u.frzs c q v (by rw [dl_ne z]; exact e)
  · have z := hb.ne e fun _ z => by cases z
    rw [bk_ne z]
    exact u.tbls c ps (by rw [dl_ne z]; exact e)
theorem hok_bk {P : Program} {w : World} {H H' : Hp} {h' : Heap} {S : List Addr} (ok : HOk P w H' h') (fr : ∀ a ∈ S, H' a = none) (nb : ∀ a ∈ S, ∀ o, H a = some o → ObjOk P w (bk H' H S) h' a o) : HOk P w (bk H' H S) h' := fun a o e => by
  by_cases z : a ∈ S
  · rw [bk_at z] at e
    exact nb a z o e
  · rw [bk_ne z] at e
    refine (ok a o e).stay (fun _ _ _ q => q) (fun c q => ?_) fun c ys q => ?_
    · rw [bk_ne fun k => by rw [fr c k] at q; cases q]; exact q
    · rw [bk_ne fun k => by rw [fr c k] at q; cases q]; exact q
theorem frame_end {P : Program} {w : World} {K : PySem.W.Frag} {mg : Str → Option Value} {base : Heap} {A : Around} {outer : List Env} {s : Shared} {H H' : Hp} {S : List Addr} {h' : Heap} (e0 : Env0 P w K mg base A outer s H) (hb : Lists H S) (un : Un (frs outer) [] (dl H S) H' s.heap h') (hk : HOk P w H' h') :
    (∀ a ∈ S, H' a = none) ∧ Un (frs outer) [] H (bk H' H S) s.heap h' ∧ HOk P w (bk H' H S) h' := by
  have nf : ∀ a ∈ S, a ∉ frs outer := fun a ha z => by
    have := e0.frf a z
    obtain ⟨xs, k⟩ := hb a ha
    rw [k] at this; cases this
  obtain ⟨fr, un'⟩ := un_bk un hb fun a ha => by
    obtain ⟨xs, k⟩ := hb a ha
    obtain ⟨_, its, n, _, ob⟩ := (show ObjOk P w H s.heap a (.lst xs) from e0.hok a _ k)
    exact ⟨_, ob⟩
  refine ⟨fr, un', hok_bk hk fr fun a ha o e => ?_⟩
  obtain ⟨xs, k⟩ := hb a ha
  rw [k] at e
  cases e
  obtain ⟨zl, its, n, rv, ob⟩ := (show ObjOk P w H s.heap a (.lst xs) from e0.hok a _ k)
  exact ⟨zl, its, n, rv, un.keep a _ ob (dl_at ha) (nf a ha) (by simp)⟩
theorem FnOk.frame {P : Program} {w : World} {K : PySem.W.Frag} {mg : Str → Option Value} {base : Heap} {k : Nat} {f : Addr} {fd : FuncData} {ps : List Str} {sp : Sp} (F : FnOk P w K mg base CX0 k f fd ps sp) : FnOk P w K mg base CX0 k f fd ps (framed sp) := by
  refine ⟨fun vs H Q E ⟨S, _, h⟩ => F.len _ _ _ _ h, fun A outer s H args us vs Q E hr e0 bd vl h => ?_⟩
  obtain ⟨S, hb, h⟩ := h
  have r := F.run A outer s (dl H S) args us vs _ _ hr (env_dl e0 hb) bd vl h
  refine PySem.codeAny_mono r fun R s' q => ?_
  unfold CR at q ⊢
  split at q
  · obtain ⟨v, H', os, ag, un, hk, rl, qq⟩ := q
    obtain ⟨fr, un', hk'⟩ := frame_end e0 hb un hk
    exact ⟨v, _, os, ag, un', hk', rl, qq fr⟩
  · exact q
  · exact q.elim
end Hr

set_option Elab.async false
set_option linter.all false
set_option maxRecDepth 100000
set_option maxHeartbeats 4000000
namespace Hr
open PySem PySem.Spec PyProof.Rows L2
/-! ### a module's constant, a call by keywords alone, a text repeated -/
def Gv (mg : Str → Option Value) (x : Str) (v : V) : Prop := ∃ u, mg x = some u ∧ RelV v u
theorem pe_gv {X : Cx} {x : Str} {pos : Pos} {v : V} (hg : Gl X x) (h : Gv X.mg x v) (hd : (x == ("__debug__" : Str)) = false := by decide) : PE X (.Name x pos) (tC v) := by
  obtain ⟨u, hm, r⟩ := h
  exact pe_glob hg hm r hd
/-- all parameters by their names, in their order -/
structure KwB (fd : FuncData) (ps ks : List Str) : Prop where
  to : ∀ (s : Shared) (us : List Value), us.length = ps.length → BindsTo s fd ⟨[], ks.zip us⟩ (ps.zip us)
def tKw (sp : Sp) (E : XK) (tk : TA) : TE := fun σ H Q => tk σ H fun vs H1 => sp vs H1 Q E
section
variable {X : Cx} {CX : CXT} {k : Nat} {f : Addr} {fd : FuncData} {ps ks : List Str} {sp : Sp} {E : XK} {x : Str} {p pos : Pos} {kws : List Keyword} {tk : TA}
theorem pe_kw (F : FnOk X.prog X.w X.K X.mg X.base CX k f fd ps sp) (hr : Room k X.A) (hg : Gl X x) (hm : X.mg x = some (.ref f)) (hk : PySem.W.keepIn X.K (.ref f) = true) (hb : KwB fd ps ks) (hx : Passes CX X E) (hkw : PK X kws tk)
    (hall : (backToKw pos (keywordEach kws X.env)).all (·.1.isSome) = true := by rfl) (hks : (backToKw pos (keywordEach kws X.env)).filterMap (·.1) = ks := by rfl) (hdb : (x == ("__debug__" : Str)) = false := by decide)
    (hpl : ((backTo pos (starEach [] X.env)).any (·.1) || (backToKw pos (keywordEach kws X.env)).any (·.1.isNone)) = false := by rfl) :
    PE X (.Call (.Name x p) [] kws pos) (tKw sp E tk) := by
  refine ⟨fun pins s σ H Q I h => ?_⟩
  refine wpAny_Call_Name_kw (ld_glob I hg hm ?_ hdb)
  refine PySem.W.callWith_KW0 (h₀ := X.base) I.ok.mod.kin hk hall ?_ hpl
  refine thn (hkw.run pos pins s σ H _ I h) fun us s1 ⟨vs, H1, I1, r, q⟩ => ⟨I1.kIn, ?_⟩
  rw [hks]
  have hl : us.length = ps.length := by rw [← r.length]; exact F.len _ _ _ _ q
  refine wpAny_call (codeAny_mono (F.run X.A X.stack s1 H1 ⟨[], ks.zip us⟩ us vs Q E hr I1.env0 (hb.to s1 us hl) r q) fun r s' hq => ?_)
  cases r with
  | error e => exact hx pins σ H1 s1 e s' I1 hq
  | ok fl =>
    cases fl with
    | ret u => exact I1.after hq
    | next => exact False.elim hq
    | brk => exact False.elim hq
    | cont => exact False.elim hq
def rRepS : R2 := fun x y H Q => ∃ z i, x = .str z ∧ y = .int i ∧ z.length ≤ 16 ∧ 0 ≤ i ∧ i ≤ 1048576 ∧ Q (.str (Txt.mul z i)) H
theorem op_repS : OpR X (binaryOp .Mult) rRepS := by
  intro pins s σ H x y v u Q I rx ry h
  obtain ⟨z, i, rfl, rfl, hz, h0, h1, q⟩ := h
  obtain ⟨t, rfl⟩ := rx
  obtain ⟨t', rfl⟩ := ry
  exact PySem.W.KXi.mul rfl hz (by omega) (by omega) fun t2 k _ _ => ⟨.str (Txt.mul z i), H, I.tok _, ⟨_, rfl⟩, q⟩
end
theorem kb_of {K : PySem.W.Frag} {x qual : Str} {st : Stmt} {f : Addr} {fd : FuncData} {ps ks : List Str} (F : Fun K x qual st f fd)
    (h : ∀ (kV doc pm : Value) (an : Option Addr) (cdv ct : Value) (us : List Value), us.length = ps.length → bindArgs (PySem.W.fnOf x qual (defArgs st) (defBody st) (defScope st) .none kV doc pm an cdv ct) ⟨[], ks.zip us⟩ = pure (ps.zip us)) : KwB fd ps ks := by
  obtain ⟨oc, od, kV, doc, pm, an, cdv, ct, osl, rfl, lk, hcd⟩ := F.ex
  exact ⟨fun s us hl => .of_eq (h kV doc pm an cdv ct us hl)⟩
/-! ### the bag that a script is drawn from: at b, its ints at l -/
def Bag (H : Hp) (b l : Addr) : Prop := ∃ (ns : List Int) (i g s : Int), H b = some (.lst [.ref l, .int i, .int g, .int s]) ∧ H l = some (.lst (ns.map V.int)) ∧ ns.length ≤ 63 ∧ 0 ≤ i ∧ 0 ≤ g ∧ 0 ≤ s ∧ s < 2147483647
theorem Bag.tracked {H : Hp} {b l : Addr} (h : Bag H b l) : ∃ xs, H b = some (.lst xs) := by
  obtain ⟨ns, i, g, s, h, _⟩ := h
  exact ⟨_, h⟩
theorem Bag.ne {H : Hp} {b l : Addr} (h : Bag H b l) : l ≠ b := by
  obtain ⟨ns, i, g, s, h1, h2, _⟩ := h
  refine ne_of h2 h1 fun e => ?_
  cases ns with
  | nil => cases e
  | cons n r => cases (List.cons.inj (HO.lst.inj e)).1
theorem Bag.ne_new {H : Hp} {b l p : Addr} (h : Bag H b l) (hp : H p = none) : p ≠ b := by
  obtain ⟨xs, e⟩ := h.tracked
  exact (ne_of_none e hp).symm
theorem Bag.ne_newl {H : Hp} {b l p : Addr} (h : Bag H b l) (hp : H p = none) : p ≠ l := by
  obtain ⟨ns, i, g, s, h1, h2, _⟩ := h
  exact (ne_of_none h2 hp).symm
theorem Bag.of {H H' : Hp} {b l : Addr} (h : Bag H b l) (h1 : H' b = H b) (h2 : H' l = H l) : Bag H' b l := by
  obtain ⟨ns, i, g, t, hb, hl, r⟩ := h
  exact ⟨ns, i, g, t, by rw [h1]; exact hb, by rw [h2]; exact hl, r⟩
/-- a step: all but the bag is kept, the bag is a bag -/
structure Bx (b l : Addr) (H H' : Hp) : Prop where
  bag : Bag H' b l
  keep : ∀ a o, a ≠ b → H a = some o → H' a = some o
theorem Bx.refl {b l : Addr} {H : Hp} (h : Bag H b l) : Bx b l H H := ⟨h, fun _ _ _ e => e⟩
theorem Bx.trans {b l : Addr} {H H1 H2 : Hp} (x : Bx b l H H1) (y : Bx b l H1 H2) : Bx b l H H2 := ⟨y.bag, fun a o n e => y.keep a o n (x.keep a o n e)⟩
theorem Bx.new {b l p : Addr} {H : Hp} {o : HO} (h : Bag H b l) (hp : H p = none) : Bx b l H (upd H p o) :=
  ⟨h.of (upd_ne (h.ne_new hp).symm) (upd_ne (h.ne_newl hp).symm), fun a u _ e => by rw [upd_ne (ne_of_none e hp)]; exact e⟩
theorem Bx.bagstep {b l : Addr} {H : Hp} {xs : List V} (h : Bag (upd H b (.lst xs)) b l) : Bx b l H (upd H b (.lst xs)) := ⟨h, fun a o n e => by rw [upd_ne n]; exact e⟩
theorem Bx.same {b l : Addr} {H H' : Hp} {S : List Addr} (x : Bx b l H H') (hb : b ∈ S) : Same (dl H S) (dl H' S) := fun a o e => by
  obtain ⟨h1, h2⟩ := dl_some e
  rw [dl_ne h1]
  exact x.keep a o (fun z => h1 (by rw [z]; exact hb)) h2
theorem Bx.free {b l p : Addr} {H H' : Hp} (x : Bx b l H H') (h : H' p = none) : H p = none := by
  cases q : H p with
  | none => rfl
  | some o =>
    rw [x.keep p o (x.bag.ne_new h) q] at h
    cases h
/-- behind a framed call -/
theorem Bx.back {b l : Addr} {H H' : Hp} {S : List Addr} (h : Bag H b l) (hb : b ∈ S) (s : Same (dl H S) H') : Bx b l H (bk H' H S) := by
  have sm := same_bk (H := H) s
  obtain ⟨ns, i, g, t, h1, h2, r⟩ := h
  exact ⟨⟨ns, i, g, t, sm _ _ h1, sm _ _ h2, r⟩, fun a o _ e => sm a o e⟩
theorem Bag.lists {H : Hp} {b l : Addr} (h : Bag H b l) : Lists H [b] := fun a ha => by
  rw [List.mem_singleton.mp ha]
  exact h.tracked
def sp_bag (K : PySem.W.Frag) : Sp := fun vs H Q _ => ∃ (a : Addr) (ns : List Int), vs = [.ref a] ∧ SqL K H a (ns.map V.int) ∧ ns.length ≤ 63 ∧ ∀ b l H', Bag H' b l → H b = none → Same H H' → Q (.ref b) H'
def sp_pull : Sp := fun vs H Q _ => ∃ (b l : Addr) (n : Int), vs = [.ref b, .int n] ∧ Bag H b l ∧ 1 ≤ n ∧ n < 1073741824 ∧ ∀ (d : Int) (H' : Hp), 0 ≤ d → d < n → Bx b l H H' → Q (.int d) H'
/-- _law_of(bag, text) -/
def sp_ofS : Sp := fun vs H Q _ => ∃ (b l : Addr) (z : Str), vs = [.ref b, .str z] ∧ Bag H b l ∧ 1 ≤ z.length ∧ z.length ≤ 100000 ∧ ∀ (c : Nat) (H' : Hp), c ∈ z.cps.toList → Bx b l H H' → Q (.str ⟨#[c]⟩) H'
/-- _law_of(bag, list or tuple) -/
def sp_ofL (K : PySem.W.Frag) : Sp := fun vs H Q _ => ∃ (b l a : Addr) (xs : List V), vs = [.ref b, .ref a] ∧ Bag H b l ∧ (∀ H', Bx b l H H' → SqL K H' a xs ∨ SqT K H' a xs) ∧ 1 ≤ xs.length ∧ xs.length ≤ 100000 ∧ ∀ (x : V) (H' : Hp), x ∈ xs → Bx b l H H' → Q x H'
/-! ### data of one depth -/
mutual
def deep : Nat → PyData → Bool
  | 0, _ => false
  | n + 1, .list ds => decide (ds.length < 50000) && deepAll n ds
  | n + 1, .tuple ds => decide (ds.length < 50000) && deepAll n ds
  | _ + 1, .dict _ => false
  | _ + 1, .str s => PySem.PyData.strOk s
  | _ + 1, _ => true
def deepAll : Nat → List PyData → Bool
  | _, [] => true
  | n, d :: ds => deep n d && deepAll n ds
end
theorem deep_list {n : Nat} {ds : List PyData} (h : deep (n + 1) (.list ds) = true) : ds.length < 50000 ∧ deepAll n ds = true := by
  unfold deep at h
  have := Bool.and_eq_true_iff.mp h
  exact ⟨of_decide_eq_true this.1, this.2⟩
theorem deep_tuple {n : Nat} {ds : List PyData} (h : deep (n + 1) (.tuple ds) = true) : ds.length < 50000 ∧ deepAll n ds = true := by
  unfold deep at h
  have := Bool.and_eq_true_iff.mp h
  exact ⟨of_decide_eq_true this.1, this.2⟩
theorem deep_zero {d : PyData} : deep 0 d = false := by unfold deep; rfl
theorem deep_cases (d : PyData) : (∃ ds, d = .list ds) ∨ (∃ ds, d = .tuple ds) ∨ (∃ ds, d = .dict ds) ∨ d = .none ∨ (∃ b, d = .bool b) ∨ (∃ i, d = .int i) ∨ (∃ x, d = .str x) := by
  cases d <;> simp
/-! ### isinstance of data -/
def tyN : PyData → String
  | .none => "NoneType"
  | .bool _ => "bool"
  | .int _ => "int"
  | .str _ => "str"
  | .list _ => "list"
  | .tuple _ => "tuple"
  | .dict _ => "dict"
theorem ty_of {K : PySem.W.Frag} {H : Hp} {x : V} {d : PyData} (h : Dp K H x d) : TyX K H x (.type (tyN d)) := by
  cases h with
  | non => exact .base .non
  | bl b => exact .base (.bl b)
  | int i => exact .base (.int i)
  | str x => exact .base (.str x)
  | lst h t =>
    rcases h with (h | ⟨o, h⟩) | ⟨o, its, n, h1, h2, _⟩
    · exact .base (.lst h)
    · exact .base (.frz h)
    · exact .kList h1 h2
  | tup h t =>
    rcases h with (h | ⟨o, h⟩) | ⟨o, its, n, h1, h2, _⟩
    · exact .base (.tup h)
    · exact .fTuple h
    · exact .kTuple h1 h2
theorem isi {K : PySem.W.Frag} {H : Hp} {x : V} {d : PyData} {n : String} {r : Bool} {Q : VK} (h : Dp K H x d) (e : kitB (tyN d) n = some r) (q : Q (.bl r) H) : rIsi K [x, .ty n] H Q := ⟨x, .ty n, _, _, r, rfl, .ty n, ty_of h, kit_ty e, q⟩
theorem kit_NoneType_bool : kitB "NoneType" "bool" = some false := by decide +kernel
theorem kit_NoneType_int : kitB "NoneType" "int" = some false := by decide +kernel
theorem kit_NoneType_str : kitB "NoneType" "str" = some false := by decide +kernel
theorem kit_NoneType_list : kitB "NoneType" "list" = some false := by decide +kernel
theorem kit_NoneType_tuple : kitB "NoneType" "tuple" = some false := by decide +kernel
theorem kit_bool_bool : kitB "bool" "bool" = some true := by decide +kernel
theorem kit_bool_int : kitB "bool" "int" = some true := by decide +kernel
theorem kit_bool_str : kitB "bool" "str" = some false := by decide +kernel
theorem kit_bool_list : kitB "bool" "list" = some false := by decide +kernel
theorem kit_bool_tuple : kitB "bool" "tuple" = some false := by decide +kernel
theorem kit_int_bool : kitB "int" "bool" = some false := by decide +kernel
theorem kit_int_int : kitB "int" "int" = some true := by decide +kernel
theorem kit_int_str : kitB "int" "str" = some false := by decide +kernel
theorem kit_int_list : kitB "int" "list" = some false := by decide +kernel
theorem kit_int_tuple : kitB "int" "tuple" = some false := by decide +kernel
theorem kit_str_bool : kitB "str" "bool" = some false := by decide +kernel
theorem kit_str_int : kitB "str" "int" = some false := by decide +kernel
theorem kit_str_str : kitB "str" "str" = some true := by decide +kernel
theorem kit_str_list : kitB "str" "list" = some false := by decide +kernel
theorem kit_str_tuple : kitB "str" "tuple" = some false := by decide +kernel
theorem kit_list_bool : kitB "list" "bool" = some false := by decide +kernel
theorem kit_list_int : kitB "list" "int" = some false := by decide +kernel
theorem kit_list_str : kitB "list" "str" = some false := by decide +kernel
theorem kit_list_list : kitB "list" "list" = some true := by decide +kernel
theorem kit_list_tuple : kitB "list" "tuple" = some false := by decide +kernel
theorem kit_tuple_bool : kitB "tuple" "bool" = some false := by decide +kernel
theorem kit_tuple_int : kitB "tuple" "int" = some false := by decide +kernel
theorem kit_tuple_str : kitB "tuple" "str" = some false := by decide +kernel
theorem kit_tuple_list : kitB "tuple" "list" = some false := by decide +kernel
theorem kit_tuple_tuple : kitB "tuple" "tuple" = some true := by decide +kernel
theorem ifT {c : Prop} [Decidable c] {A B : Prop} (hc : c) (h : A) : if decide c = true then A else B := by
  rw [decide_eq_true hc, if_pos rfl]
  exact h
theorem ifF {c : Prop} [Decidable c] {A B : Prop} (hc : ¬ c) (h : B) : if decide c = true then A else B := by
  rw [decide_eq_false hc, if_neg Bool.false_ne_true]
  exact h
theorem dpa_len {K : PySem.W.Frag} {H : Hp} : ∀ {vs : List V} {ds : List PyData}, DpAll K H vs ds → vs.length = ds.length
  | _, _, .nil => rfl
  | _, _, .cons _ t => by rw [List.length_cons, List.length_cons, dpa_len t]
theorem dpa_get {K : PySem.W.Frag} {H : Hp} : ∀ {vs : List V} {ds : List PyData} {i : Nat} {v : V}, DpAll K H vs ds → vs[i]? = some v → ∃ d, ds[i]? = some d ∧ Dp K H v d
  | _, _, _, _, .nil, e => by simp at e
  | _, _, 0, _, .cons h _, e => by
    simp at e
    subst e
    exact ⟨_, rfl, h⟩
  | _, _, i + 1, v, .cons _ t, e => by
    obtain ⟨d, h1, h2⟩ := dpa_get (i := i) (v := v) t (by simpa using e)
    exact ⟨d, by simpa using h1, h2⟩
theorem deep_get : ∀ {n : Nat} {ds : List PyData} {i : Nat} {d : PyData}, deepAll n ds = true → ds[i]? = some d → deep n d = true
  | _, [], _, _, _, e => by simp at e
  | n, a :: r, 0, d, h, e => by
    simp at e
    subst e
    unfold deepAll at h
    exact (Bool.and_eq_true_iff.mp h).1
  | n, a :: r, i + 1, d, h, e => by
    unfold deepAll at h
    exact deep_get (i := i) (Bool.and_eq_true_iff.mp h).2 (by simpa using e)
theorem walk_zipT {K : PySem.W.Frag} {a b : Addr} {xs ys : List V} {n : Nat} (hx : xs.length = n) (hy : ys.length = n) : Walk (RZ.ItzT K a b) n (fun H => SqT K H a xs ∧ SqT K H b ys) (YPair (fun i => xs[i]?) (fun i => ys[i]?)) := by
  refine ⟨fun i _ hi q => ?_, fun _ q => ⟨xs, ys, q.1, q.2, by omega⟩, fun i H v H' _ q y => ?_⟩
  · have h1 : i < xs.length := by omega
    have h2 : i < ys.length := by omega
    exact ⟨xs, ys, xs[i], ys[i], q.1, q.2, by simp [h1], by simp [h2]⟩
  · obtain ⟨T, x, z, h1, h2, h3, h4, h5⟩ := y
    exact ⟨T, x, z, h1, h2, h3, h4 xs q.1, h5 ys q.2⟩
theorem all_true {n : Nat} : (((List.range n).map fun _ => V.bl true) = ((List.replicate n true).map V.bl)) ∧ (List.replicate n true).all id = true := by
  constructor
  · rw [List.map_const', List.map_replicate, List.length_range]
  · simp
/-- _law_same(x, y), x and y the same data: True -/
def sp_same (K : PySem.W.Frag) (n : Nat) : Sp := fun vs H Q _ => ∃ (x y : V) (d : PyData), vs = [x, y] ∧ Dp K H x d ∧ Dp K H y d ∧ deep n d = true ∧ ∀ H', Same H H' → Q (.bl true) H'
def sp_law (K : PySem.W.Frag) : Sp := fun vs H Q _ => ∃ (a : Addr) (ns : List Int), vs = [.ref a] ∧ SqL K H a (ns.map V.int) ∧ ns.length ≤ 63 ∧ ∀ H', Q (.bl true) H'
end Hr
namespace Hr
open PySem PySem.Spec PyProof.Rows L2
theorem yes {te : TE} {σ : L2.St} {H : Hp} {Qe : VK} {Z : Hp → Prop} (h : te σ H Qe) : tYes σ H (fun b H3 => if b = true then te σ H3 Qe else Z H3) := by
  show (if true = true then te σ H Qe else Z H)
  rw [if_pos rfl]
  exact h
theorem szl {n : Nat} (h : n ≤ 100000) : n ≤ sizeLine := Nat.le_trans h (by decide)
theorem szt {n : Nat} (h : n < 100000) : n < sizeLine := Nat.lt_of_lt_of_le h (by decide)
/-! ### comprehensions: what is made by the elements is told of the heap without the list that grows (and without S) -/
theorem lc_bag {J : It} {n : Nat} {G : Hp → Prop} {Y : Nat → Hp → V → Hp → Prop} (w : Walk J n G Y) {g : TG} {tt : TT} {te : TE} {vs : List Nat} {σ : L2.St} {H1 : Hp} {D b l : Addr} {Qd : Hp → Prop} (S : List Addr) (hS : b ∈ S) (hb : Bag H1 b l) (hD : H1 D = none) (P : V → Hp → Prop) (hP : ∀ y H H', Same H H' → P y H → P y H') (hG : ∀ H, Bx b l H1 H → G H) (hn : n < 100000)
    (hs : ∀ i x H H' (Qe : V → Hp → Prop) (Z : Hp → Prop), i < n → Bx b l H1 H → Same (dl H1 S) (dl H (D :: S)) → (∃ xs, H D = some (.lst xs)) → (∀ y H4, Bx b l H H4 → P y (dl H4 (D :: S)) → Qe y H4) → Y i H x H' → g x (wipe σ vs) H' fun σ2 H2 => wipe σ2 vs = wipe σ vs ∧ tt σ2 H2 fun bb H3 => if bb = true then te σ2 H3 Qe else Z H3)
    (hd : ∀ H ys, Bx b l H1 H → ys.length = n → H D = some (.lst ys) → (∀ y ∈ ys, P y (dl H (D :: S))) → Qd H) :
    ∃ W : Nat → Nat → Hp → Prop, (∃ m, W 0 m (upd H1 D (.lst []))) ∧ ∀ i m H, W i m H →
      (J.stop i H ∧ Qd H) ∨ (J.go i H ∧ ∃ Nx : Hp → Prop, (∀ H', Nx H' → ∃ m', m' < m ∧ W (i + 1) m' H') ∧ ∀ x H', J.yld i H x H' → g x (wipe σ vs) H' fun σ2 H2 => wipe σ2 vs = wipe σ vs ∧ tt σ2 H2 fun b H3 =>
        if b = true then te σ2 H3 fun y H4 => ∃ acc, H4 D = some (.lst acc) ∧ acc.length < sizeLine ∧ Nx (upd H4 D (.lst (acc ++ [y]))) else Nx H3) := by
  have nD : D ≠ b := hb.ne_new hD
  have nL : D ≠ l := hb.ne_newl hD
  refine lc_it w (fun i H => Bx b l H1 H ∧ ∃ ys, H D = some (.lst ys) ∧ ys.length = i ∧ ∀ y ∈ ys, P y (dl H (D :: S))) ⟨Bx.new hb hD, [], upd_same, rfl, fun _ h => nomatch h⟩ (fun i H _ h => hG H h.1) ?_ ?_
  · rintro i x H H' hi ⟨bx, ys, hy, hl, hp⟩ y
    refine hs i x H H' _ _ hi bx (fun a o e => ?_) ⟨ys, hy⟩ (fun y H4 b4 p4 => ⟨ys, b4.keep D _ nD hy, szt (by omega), ⟨b4.bag.of (upd_ne nD.symm) (upd_ne nL.symm), fun a o n e => ?_⟩, ys ++ [y], upd_same, by simp [hl], fun z hz => ?_⟩) y
    · obtain ⟨h1, h2⟩ := dl_some e
      rw [dl_ne (fun z => (List.mem_cons.mp z).elim (fun z => ne_of_none h2 hD z) h1)]
      exact bx.keep a o (fun z => h1 (by rw [z]; exact hS)) h2
    · rw [upd_ne (ne_of_none e hD)]
      exact b4.keep a o n (bx.keep a o n e)
    · rw [dl_upd List.mem_cons_self]
      rcases List.mem_append.mp hz with hz | hz
      · exact hP z _ _ (b4.same (List.mem_cons_of_mem _ hS)) (hp z hz)
      · rw [List.mem_singleton.mp hz]; exact p4
  · rintro H ⟨bx, ys, hy, hl, hp⟩
    exact hd H ys bx hl hy hp
/-- without a bag: the i-th element's value is known -/
theorem lc_val {J : It} {n : Nat} {G : Hp → Prop} {Y : Nat → Hp → V → Hp → Prop} (w : Walk J n G Y) {g : TG} {tt : TT} {te : TE} {vs : List Nat} {σ : L2.St} {H1 : Hp} {D : Addr} {Qd : Hp → Prop} (hD : H1 D = none) (f : Nat → V) (hG : ∀ H, Same H1 H → G H) (hn : n < 100000)
    (hs : ∀ i x H H' (Qe : V → Hp → Prop) (Z : Hp → Prop), i < n → Same H1 H → (∀ H4, Same H H4 → Qe (f i) H4) → Y i H x H' → g x (wipe σ vs) H' fun σ2 H2 => wipe σ2 vs = wipe σ vs ∧ tt σ2 H2 fun bb H3 => if bb = true then te σ2 H3 Qe else Z H3)
    (hd : ∀ H, Same H1 H → H D = some (.lst ((List.range n).map f)) → Qd H) :
    ∃ W : Nat → Nat → Hp → Prop, (∃ m, W 0 m (upd H1 D (.lst []))) ∧ ∀ i m H, W i m H →
      (J.stop i H ∧ Qd H) ∨ (J.go i H ∧ ∃ Nx : Hp → Prop, (∀ H', Nx H' → ∃ m', m' < m ∧ W (i + 1) m' H') ∧ ∀ x H', J.yld i H x H' → g x (wipe σ vs) H' fun σ2 H2 => wipe σ2 vs = wipe σ vs ∧ tt σ2 H2 fun b H3 =>
        if b = true then te σ2 H3 fun y H4 => ∃ acc, H4 D = some (.lst acc) ∧ acc.length < sizeLine ∧ Nx (upd H4 D (.lst (acc ++ [y]))) else Nx H3) := by
  refine lc_it w (fun i H => Same H1 H ∧ H D = some (.lst ((List.range i).map f))) ⟨same_new hD, upd_same⟩ (fun i H _ h => hG H h.1) ?_ ?_
  · rintro i x H H' hi ⟨sm, hy⟩ y
    refine hs i x H H' _ _ hi sm (fun H4 s4 => ⟨_, s4 _ _ hy, szt (by rw [List.length_map, List.length_range]; omega), fun a o e => ?_, ?_⟩) y
    · rw [upd_ne (ne_of_none e hD)]
      exact s4 _ _ (sm _ _ e)
    · rw [upd_same, List.range_succ, List.map_append]
      rfl
  · rintro H ⟨sm, hy⟩
    exact hd H sm hy
theorem Bx.ofSame {b l : Addr} {H H' : Hp} (h : Bag H b l) (s : Same H H') : Bx b l H H' := by
  obtain ⟨ns, i, g, t, h1, h2, r⟩ := h
  exact ⟨⟨ns, i, g, t, s _ _ h1, s _ _ h2, r⟩, fun a o _ e => s a o e⟩
theorem Bag.ofSame {b l : Addr} {H H' : Hp} (h : Bag H b l) (s : Same H H') : Bag H' b l := (Bx.ofSame h s).bag
theorem strs_of {ys : List V} (h : ∀ y ∈ ys, ∃ c : Nat, y = .str ⟨#[c]⟩) : ∃ ss : List Str, ys = ss.map V.str ∧ ss.length = ys.length ∧ ∀ s ∈ ss, s.length = 1 := by
  induction ys with
  | nil => exact ⟨[], rfl, rfl, fun _ h => nomatch h⟩
  | cons y r ih =>
    obtain ⟨c, rfl⟩ := h y List.mem_cons_self
    obtain ⟨ss, e, l, k⟩ := ih fun z hz => h z (List.mem_cons_of_mem _ hz)
    refine ⟨⟨#[c]⟩ :: ss, by rw [e]; rfl, by rw [List.length_cons, l, List.length_cons], fun s hs => ?_⟩
    rcases List.mem_cons.mp hs with rfl | hs
    · rfl
    · exact k s hs
theorem sum_ones : ∀ {ss : List Str}, (∀ s ∈ ss, s.length = 1) → (ss.map (·.length)).sum = ss.length
  | [], _ => rfl
  | s :: r, h => by
    rw [List.map_cons, List.sum_cons, h s List.mem_cons_self, sum_ones fun z hz => h z (List.mem_cons_of_mem _ hz), List.length_cons]
    omega
theorem dl_bls {K : PySem.W.Frag} {H : Hp} : ∀ (bs : List Bool), DpAll K H (bs.map V.bl) (bs.map PyData.bool)
  | [] => .nil
  | b :: r => .cons (.bl b) (dl_bls r)
end Hr

set_option Elab.async false
set_option linter.all false
set_option maxRecDepth 100000
set_option maxHeartbeats 4000000
namespace Hr
open PySem PySem.Spec PyProof.Rows L2
/-! ### texts as lists of codes -/
abbrev cl (z : Str) : List Nat := z.cps.toList
theorem cl_len (z : Str) : z.length = (cl z).length := rfl
theorem cl_app (x y : Str) : cl (x ++ y) = cl x ++ cl y := cps_toList_append x y
theorem cl_ext {x y : Str} (h : cl x = cl y) : x = y := ext_toList h
theorem cl_take (z : Str) {n : Int} (h : 0 ≤ n) : cl (cutS z none (some n)) = (cl z).take n.toNat := by
  obtain ⟨k, rfl⟩ : ∃ k : Nat, n = k := ⟨n.toNat, by omega⟩
  unfold cutS cl
  rw [HT.sIx_none, HT.sIx_nat, List.drop_zero, Nat.sub_zero, Int.toNat_natCast]
  show List.take _ _ = _
  have e : z.length = z.cps.toList.length := rfl
  rw [e]
  by_cases hk : k ≤ z.cps.toList.length
  · rw [Nat.min_eq_left hk]
  · rw [Nat.min_eq_right (by omega), List.take_of_length_le (Nat.le_refl _), List.take_of_length_le (by omega)]
theorem cl_drop (z : Str) {n : Int} (h : 0 ≤ n) : cl (cutS z (some n) none) = (cl z).drop n.toNat := by
  obtain ⟨k, rfl⟩ : ∃ k : Nat, n = k := ⟨n.toNat, by omega⟩
  unfold cutS cl
  rw [HT.sIx_none, HT.sIx_nat, Int.toNat_natCast]
  show List.take _ (List.drop _ _) = _
  have e : z.length = z.cps.toList.length := rfl
  rw [e]
  by_cases hk : k ≤ z.cps.toList.length
  · rw [Nat.min_eq_left hk]
    apply List.take_of_length_le
    rw [List.length_drop]
    omega
  · rw [Nat.min_eq_right (by omega), Nat.sub_self, List.take_zero, List.drop_of_length_le (by omega)]
theorem cl_join0 : ∀ (ss : List Str), cl (Txt.join "" ss) = (ss.map cl).flatten := fun ss => by
  show cl (Builtin.Str.glued "" ss) = _
  rw [StrLaws.glued_eq_join]
  induction ss with
  | nil => rfl
  | cons x r ih =>
    cases r with
    | nil => simp [Str.join]
    | cons y r2 =>
      show cl (x ++ ("" : Str) ++ Str.join "" (y :: r2)) = _
      rw [cl_app, cl_app, ih]
      simp [show cl ("" : Str) = [] from rfl]
theorem foldl_app (x : Array Nat) : ∀ (n : Nat) (a : Array Nat), ((List.replicate n x).foldl (· ++ ·) a).toList = a.toList ++ (List.replicate n x.toList).flatten
  | 0, a => by simp
  | n + 1, a => by
    rw [List.replicate_succ, List.foldl_cons, foldl_app x n, Array.toList_append, List.replicate_succ, List.flatten_cons, List.append_assoc]
theorem cl_mul (z : Str) {n : Int} (h : 0 ≤ n) : cl (Txt.mul z n) = (List.replicate n.toNat (cl z)).flatten := by
  unfold Txt.mul
  by_cases h1 : n < 1
  · have e : n = 0 := by omega
    subst e
    rfl
  · rw [if_neg h1]
    by_cases h2 : (n == 1 || z.length == 0) = true
    · rw [if_pos h2]
      rcases Bool.or_eq_true_iff.mp h2 with e | e
      · have e' : n = 1 := by simpa using e
        subst e'
        simp
      · have e' : cl z = [] := List.eq_nil_of_length_eq_zero (by rw [← cl_len]; simpa using e)
        show cl z = _
        rw [e', List.flatten_replicate_nil]
    · rw [if_neg h2]
      show ((List.replicate n.toNat z.cps).foldl (· ++ ·) #[]).toList = _
      rw [foldl_app]
      rfl
def isNm (s : Str) : Prop := 1 ≤ (cl s).length ∧ (cl s).length ≤ 8 ∧ ∀ c ∈ cl s, c ∈ cl "abcdefghijklmnopqrstuvwxyz"
def isVl (s : Str) : Prop := 1 ≤ (cl s).length ∧ (cl s).length ≤ 8 ∧ ∀ c ∈ cl s, c ∈ cl "abcdefghijklmnopqrstuvwxyz0123456789"
/-! ### tracked sets -/
def Tr (H : Hp) (S : List Addr) : Prop := ∀ a ∈ S, ∃ o, H a = some o
theorem Tr.fresh {H : Hp} {S : List Addr} {p : Addr} (t : Tr H S) (h : H p = none) : p ∉ S := fun z => by
  obtain ⟨o, e⟩ := t p z
  rw [h] at e
  cases e
theorem Tr.bx {b l : Addr} {H H' : Hp} {S : List Addr} (t : Tr H S) (x : Bx b l H H') : Tr H' S := fun a ha => by
  obtain ⟨o, e⟩ := t a ha
  by_cases z : a = b
  · rw [z]
    obtain ⟨xs, h⟩ := x.bag.tracked
    exact ⟨_, h⟩
  · exact ⟨o, x.keep a o z e⟩
theorem Tr.cons {H : Hp} {S : List Addr} {p : Addr} {o : HO} (t : Tr H S) (h : H p = some o) : Tr H (p :: S) := fun a ha => by
  rcases List.mem_cons.mp ha with rfl | ha
  · exact ⟨o, h⟩
  · exact t a ha
theorem Tr.one {H : Hp} {b l : Addr} (h : Bag H b l) : Tr H [b] := fun a ha => by
  rw [List.mem_singleton.mp ha]
  obtain ⟨xs, e⟩ := h.tracked
  exact ⟨_, e⟩
theorem Tr.same {H H' : Hp} {S : List Addr} (t : Tr H S) (s : Same H H') : Tr H' S := fun a ha => by
  obtain ⟨o, e⟩ := t a ha
  exact ⟨o, s a o e⟩
theorem dl_free {H : Hp} {S : List Addr} {p : Addr} (t : Tr H S) (h : H p = none) : dl H S p = none := by
  rw [dl_ne (t.fresh h)]
  exact h
/-- behind a new object -/
theorem dl_same_new {H : Hp} {S : List Addr} {p : Addr} {o : HO} (t : Tr H S) (h : H p = none) : Same (dl H S) (dl (upd H p o) S) := by
  rw [dl_new (t.fresh h)]
  exact same_new (dl_free t h)
theorem dl_upd_at {H : Hp} {S : List Addr} {p : Addr} {o : HO} (t : Tr H S) (h : H p = none) : dl (upd H p o) S p = some o := by
  rw [dl_ne (t.fresh h), upd_same]
/-! ### max with a default -/
def maxI : List Int → Int → Int
  | [], d => d
  | y :: ys, _ => PySem.W.maxOf y ys
def rMaxD (K : PySem.W.Frag) : List V → List V → Hp → VK → Prop := fun vs zs H Q => ∃ (a : Addr) (ns : List Int) (d : Int), vs = [.ref a] ∧ zs = [.int d] ∧ SqL K H a (ns.map V.int) ∧ Q (.int (maxI ns d)) H
theorem dpa_ints {K : PySem.W.Frag} {H : Hp} : ∀ (ns : List Int), DpAll K H (ns.map V.int) (ns.map PyData.int)
  | [] => .nil
  | n :: r => .cons (.int n) (dpa_ints r)
theorem cr_maxD {X : Cx} (hc : X.calm = true) (hu : X.A.units + 64 < cLine) : CallRK X (.builtin "max") [Str.ofString "default"] (rMaxD X.K) := by
  intro pins s σ H vs zs us ws Q I r rz h
  obtain ⟨a, ns, d, rfl, rfl, hs, q⟩ := h
  obtain rfl := Vals.ref1 r
  obtain ⟨w1, rfl, t, rfl⟩ := vals1 rz
  obtain ⟨its, rv, hl, _⟩ := I.list hs
  obtain ⟨as, ra⟩ := Dp.readsAll I (ns.map PyData.int) _ _ (dpa_ints ns) rv
  refine PySem.W.max_list_datum_default (α := Int) (xs := ns) (I.ok.hd hc) hl.isList ⟨as, ra⟩ (by show X.A.units + 1 + 0 < cLine; omega) (fun e h' tk k => ?_) fun y ys i v h' tk e hv hh k => ?_
  · subst e
    exact ⟨.int d, H, I.kept k, ⟨t, rfl⟩, q⟩
  · subst e
    obtain ⟨bs, rd⟩ := hh
    cases rd
    exact ⟨.int _, H, I.kept k, ⟨_, rfl⟩, q⟩
theorem bx_seq {K : PySem.W.Frag} {b l a : Addr} {H H' : Hp} {xs : List V} (x : Bx b l H H') (n : a ≠ b) (h : SqL K H a xs) : SqL K H' a xs := by
  rcases h with (h | ⟨o, h⟩) | h
  · exact .inl (.inl (x.keep _ _ n h))
  · exact .inl (.inr ⟨o, x.keep _ _ n h⟩)
  · exact .inr h
theorem bx_seqT {K : PySem.W.Frag} {b l a : Addr} {H H' : Hp} {xs : List V} (x : Bx b l H H') (n : a ≠ b) (h : SqT K H a xs) : SqT K H' a xs := by
  rcases h with (h | ⟨o, h⟩) | h
  · exact .inl (.inl (x.keep _ _ n h))
  · exact .inl (.inr ⟨o, x.keep _ _ n h⟩)
  · exact .inr h
theorem stem_of {al : List Nat} {ys : List V} (h : ∀ y ∈ ys, ∃ c : Nat, y = .str ⟨#[c]⟩ ∧ c ∈ al) : ∃ ss : List Str, ys = ss.map V.str ∧ ss.length = ys.length ∧ (ss.map (·.length)).sum = ys.length ∧ (cl (Txt.join "" ss)).length = ys.length ∧ ∀ c ∈ cl (Txt.join "" ss), c ∈ al := by
  have k : ∃ cs : List Nat, ys = cs.map (fun c => V.str ⟨#[c]⟩) ∧ ∀ c ∈ cs, c ∈ al := by
    induction ys with
    | nil => exact ⟨[], rfl, fun _ h => nomatch h⟩
    | cons y r ih =>
      obtain ⟨c, rfl, hc⟩ := h y List.mem_cons_self
      obtain ⟨cs, e, k⟩ := ih fun z hz => h z (List.mem_cons_of_mem _ hz)
      refine ⟨c :: cs, by rw [e]; rfl, fun d hd => ?_⟩
      rcases List.mem_cons.mp hd with rfl | hd
      · exact hc
      · exact k d hd
  obtain ⟨cs, rfl, hc⟩ := k
  have e : cl (Txt.join "" (cs.map fun c => (⟨#[c]⟩ : Str))) = cs := by
    rw [cl_join0, List.map_map]
    clear hc h
    induction cs with
    | nil => rfl
    | cons c r ih =>
      rw [List.map_cons, List.flatten_cons, ih]
      rfl
  refine ⟨cs.map fun c => (⟨#[c]⟩ : Str), by rw [List.map_map]; rfl, by simp, ?_, by rw [e]; simp, by rw [e]; exact hc⟩
  clear e hc h
  induction cs with
  | nil => rfl
  | cons c r ih =>
    rw [List.map_cons, List.map_cons, List.sum_cons, ih]
    simp [Str.length]
    omega
theorem nodup_of_key {α β : Type} {ss : List α} (key : Nat → β) (f : α → β) (h : ∀ j s, ss[j]? = some s → f s = key j) (inj : ∀ i j, i < j → j < ss.length → key i ≠ key j) : ss.Nodup := by
  refine List.pairwise_iff_getElem.mpr fun i j hi hj lt e => ?_
  have h1 := h i _ (List.getElem?_eq_getElem hi)
  have h2 := h j _ (List.getElem?_eq_getElem hj)
  rw [e, h2] at h1
  exact inj i j lt hj h1.symm
theorem let_at : ∀ m : Nat, m < 26 → (cl "abcdefghijklmnopqrstuvwxyz")[m]? = some (97 + m) := by decide
theorem sgn_at : ∀ m : Nat, m < 36 → (cl "abcdefghijklmnopqrstuvwxyz0123456789")[m]? = some (if m < 26 then 97 + m else 22 + m) := by decide
theorem at_code {z : Str} {i : Int} {c : Nat} (h0 : 0 ≤ i) (h : (cl z)[i.toNat]? = some c) : atI z.cps.toList i = some c := by
  have q : atI z.cps.toList ((i.toNat : Nat) : Int) = some c := atI_nat h
  rwa [show ((i.toNat : Nat) : Int) = i by omega] at q
/-- a sign put into a word at a place -/
theorem put_sign {z : Str} {c : Nat} {i : Int} (h0 : 0 ≤ i) (h1 : i ≤ ((cl z).length : Int)) :
    cl (cutS z none (some i) ++ ⟨#[c]⟩ ++ cutS z (some i) none) = (cl z).take i.toNat ++ c :: (cl z).drop i.toNat := by
  rw [cl_app, cl_app, cl_take z h0, cl_drop z h0, List.append_assoc]
  rfl
theorem put_at {l : List Nat} {c i : Nat} (h : i ≤ l.length) : (l.take i ++ c :: l.drop i)[i]? = some c := by
  rw [List.getElem?_append_right (by rw [List.length_take]; omega), List.length_take, Nat.min_eq_left h, Nat.sub_self]
  rfl
theorem put_len {l : List Nat} {c i : Nat} (h : i ≤ l.length) : (l.take i ++ c :: l.drop i).length = l.length + 1 := by
  rw [List.length_append, List.length_cons, List.length_take, List.length_drop]
  omega
theorem put_mem {l al : List Nat} {c i : Nat} (hc : c ∈ al) (h : ∀ x ∈ l, x ∈ al) : ∀ x ∈ l.take i ++ c :: l.drop i, x ∈ al := fun x hx => by
  rcases List.mem_append.mp hx with hx | hx
  · exact h x (List.mem_of_mem_take hx)
  · rcases List.mem_cons.mp hx with rfl | hx
    · exact hc
    · exact h x (List.mem_of_mem_drop hx)
/-! ### comprehensions, item by item -/
theorem lc_bagI {J : It} {n : Nat} {G : Hp → Prop} {Y : Nat → Hp → V → Hp → Prop} (w : Walk J n G Y) {g : TG} {tt : TT} {te : TE} {vs : List Nat} {σ : L2.St} {H1 : Hp} {D b l : Addr} {Qd : Hp → Prop} (S : List Addr) (hS : b ∈ S) (hb : Bag H1 b l) (hD : H1 D = none) (P : Nat → V → Hp → Prop) (hP : ∀ i y H H', Same H H' → P i y H → P i y H') (hG : ∀ H, Bx b l H1 H → G H) (hn : n < 100000)
    (hs : ∀ i x H H' (Qe : V → Hp → Prop) (Z : Hp → Prop), i < n → Bx b l H1 H → Same (dl H1 S) (dl H (D :: S)) → (∃ xs, H D = some (.lst xs)) → (∀ y H4, Bx b l H H4 → P i y (dl H4 (D :: S)) → Qe y H4) → Y i H x H' → g x (wipe σ vs) H' fun σ2 H2 => wipe σ2 vs = wipe σ vs ∧ tt σ2 H2 fun bb H3 => if bb = true then te σ2 H3 Qe else Z H3)
    (hd : ∀ H ys, Bx b l H1 H → ys.length = n → H D = some (.lst ys) → (∀ (i : Nat) y, ys[i]? = some y → P i y (dl H (D :: S))) → Qd H) :
    ∃ W : Nat → Nat → Hp → Prop, (∃ m, W 0 m (upd H1 D (.lst []))) ∧ ∀ i m H, W i m H →
      (J.stop i H ∧ Qd H) ∨ (J.go i H ∧ ∃ Nx : Hp → Prop, (∀ H', Nx H' → ∃ m', m' < m ∧ W (i + 1) m' H') ∧ ∀ x H', J.yld i H x H' → g x (wipe σ vs) H' fun σ2 H2 => wipe σ2 vs = wipe σ vs ∧ tt σ2 H2 fun b H3 =>
        if b = true then te σ2 H3 fun y H4 => ∃ acc, H4 D = some (.lst acc) ∧ acc.length < sizeLine ∧ Nx (upd H4 D (.lst (acc ++ [y]))) else Nx H3) := by
  have nD : D ≠ b := hb.ne_new hD
  have nL : D ≠ l := hb.ne_newl hD
  refine lc_it w (fun i H => Bx b l H1 H ∧ ∃ ys, H D = some (.lst ys) ∧ ys.length = i ∧ ∀ (i : Nat) y, ys[i]? = some y → P i y (dl H (D :: S))) ⟨Bx.new hb hD, [], upd_same, rfl, fun _ _ h => by simp at h⟩ (fun i H _ h => hG H h.1) ?_ ?_
  · rintro i x H H' hi ⟨bx, ys, hy, hl, hp⟩ y
    refine hs i x H H' _ _ hi bx (fun a o e => ?_) ⟨ys, hy⟩ (fun y H4 b4 p4 => ⟨ys, b4.keep D _ nD hy, szt (by omega), ⟨b4.bag.of (upd_ne nD.symm) (upd_ne nL.symm), fun a o n e => ?_⟩, ys ++ [y], upd_same, by simp [hl], fun j z hz => ?_⟩) y
    · obtain ⟨h1, h2⟩ := dl_some e
      rw [dl_ne (fun z => (List.mem_cons.mp z).elim (fun z => ne_of_none h2 hD z) h1)]
      exact bx.keep a o (fun z => h1 (by rw [z]; exact hS)) h2
    · rw [upd_ne (ne_of_none e hD)]
      exact b4.keep a o n (bx.keep a o n e)
    · rw [dl_upd List.mem_cons_self]
      by_cases hj : j < ys.length
      · rw [List.getElem?_append_left hj] at hz
        exact hP j z _ _ (b4.same (List.mem_cons_of_mem _ hS)) (hp j z hz)
      · have ej : j = i := by
          have := (List.getElem?_eq_some_iff.mp hz).1
          rw [List.length_append, List.length_singleton] at this
          omega
        subst ej
        rw [List.getElem?_append_right (by omega), hl, Nat.sub_self] at hz
        cases hz
        exact p4
  · rintro H ⟨bx, ys, hy, hl, hp⟩
    exact hd H ys bx hl hy hp
theorem lc_filt {J : It} {G : Hp → Prop} {xs : List V} (w : Walk J xs.length G (YAt xs)) {g : TG} {tt : TT} {te : TE} {vs : List Nat} {σ : L2.St} {H1 : Hp} {D : Addr} {Qd : Hp → Prop} (hD : H1 D = none) (f : V → V) (p : V → Bool) (hG : ∀ H, Same H1 H → G H) (hn : xs.length < 100000)
    (hs : ∀ (i : Nat) x H (R : V → Hp → Prop) (Z : Hp → Prop), xs[i]? = some x → Same H1 H → (p x = true → ∀ H4, Same H H4 → R (f x) H4) → (p x = false → ∀ H4, Same H H4 → Z H4) → g x (wipe σ vs) H fun σ2 H2 => wipe σ2 vs = wipe σ vs ∧ tt σ2 H2 fun b H3 => if b = true then te σ2 H3 R else Z H3)
    (hd : ∀ H, Same H1 H → H D = some (.lst ((xs.filter p).map f)) → Qd H) :
    ∃ W : Nat → Nat → Hp → Prop, (∃ m, W 0 m (upd H1 D (.lst []))) ∧ ∀ i m H, W i m H →
      (J.stop i H ∧ Qd H) ∨ (J.go i H ∧ ∃ Nx : Hp → Prop, (∀ H', Nx H' → ∃ m', m' < m ∧ W (i + 1) m' H') ∧ ∀ x H', J.yld i H x H' → g x (wipe σ vs) H' fun σ2 H2 => wipe σ2 vs = wipe σ vs ∧ tt σ2 H2 fun b H3 =>
        if b = true then te σ2 H3 fun y H4 => ∃ acc, H4 D = some (.lst acc) ∧ acc.length < sizeLine ∧ Nx (upd H4 D (.lst (acc ++ [y]))) else Nx H3) := by
  refine lc_it w (fun i H => Same H1 H ∧ H D = some (.lst (((xs.take i).filter p).map f))) ⟨same_new hD, by rw [upd_same]; rfl⟩ (fun i H _ h => hG H h.1) ?_ ?_
  · rintro i x H H' hi ⟨sm, hy⟩ ⟨rfl, hx⟩
    have et : xs.take (i + 1) = xs.take i ++ [x] := by rw [List.take_add_one, hx]; rfl
    refine hs i x H' _ _ hx sm (fun hp H4 s4 => ⟨_, s4 _ _ hy, szt ?_, fun a o e => ?_, ?_⟩) fun hp H4 s4 => ⟨sm.trans s4, ?_⟩
    · rw [List.length_map]
      refine Nat.lt_of_le_of_lt (List.length_filter_le _ _) ?_
      rw [List.length_take]
      omega
    · rw [upd_ne (ne_of_none e hD)]
      exact s4 _ _ (sm _ _ e)
    · rw [upd_same, et, List.filter_append, List.map_append, List.filter_cons, hp]
      rfl
    · rw [s4 _ _ hy, et, List.filter_append, List.filter_cons, hp]
      simp
  · rintro H ⟨sm, hy⟩
    rw [List.take_length] at hy
    exact hd H sm hy
theorem eqv_nil (ds : List PyData) : PyData.eqv (.list ds) (.list []) = ds.isEmpty := by
  cases ds <;> simp [PyData.eqv, PyData.eqvAll]
/-! ### fields as data -/
abbrev Fld := Str × List Str
def fldD (f : Fld) : PyData := .tuple [.str f.1, .list (f.2.map PyData.str)]
def fldsD (fs : List Fld) : PyData := .list (fs.map fldD)
theorem dpa_strs {K : PySem.W.Frag} {H : Hp} : ∀ (ss : List Str), DpAll K H (ss.map V.str) (ss.map PyData.str)
  | [] => .nil
  | s :: r => .cons (.str s) (dpa_strs r)
theorem dpa_of {K : PySem.W.Frag} {H : Hp} : ∀ {vs : List V} {ds : List PyData}, vs.length = ds.length → (∀ (i : Nat) v d, vs[i]? = some v → ds[i]? = some d → Dp K H v d) → DpAll K H vs ds
  | [], [], _, _ => .nil
  | v :: vs, d :: ds, hl, h => .cons (h 0 v d rfl rfl) (dpa_of (by simpa using hl) fun i x y h1 h2 => h (i + 1) x y h1 h2)
  | [], _ :: _, hl, _ => by simp at hl
  | _ :: _, [], hl, _ => by simp at hl
/-! ### the rules that speak of the written part, by its own letter -/
def rLenSeq (K : PySem.W.Frag) : List V → Hp → VK → Prop := fun xs H Q => ∃ p ys, xs = [.ref p] ∧ (SqL K H p ys ∨ SqT K H p ys) ∧ Q (.int ys.length) H
def rListOf (K : PySem.W.Frag) : List V → Hp → VK → Prop := fun xs H Q => ∃ p ys, xs = [.ref p] ∧ (SqL K H p ys ∨ SqT K H p ys) ∧ ∀ l, H l = none → Q (.ref l) (upd H l (.lst ys))
def rTupleOf (K : PySem.W.Frag) : List V → Hp → VK → Prop := fun xs H Q => ∃ p ys, xs = [.ref p] ∧ ((SqL K H p ys ∧ ∀ l, H l = none → Q (.ref l) (upd H l (.tup ys))) ∨ (SqT K H p ys ∧ Q (.ref p) H))
section
variable {X : Cx} {K : PySem.W.Frag} {tg l : Expr} {tl : TE}
theorem ix_listK (e : X.K = K := by rfl) : IxR X (rIxL K) := e ▸ ix_list
theorem ix_tupK (e : X.K = K := by rfl) : IxR X (rIxT K) := e ▸ ix_tup
theorem ix_seqK (e : X.K = K := by rfl) : IxR X (rIx K) := e ▸ ix_seq
theorem sl_listK (e : X.K = K := by rfl) : SlR X (rSlL K) := e ▸ sl_list
theorem sl_tupK (e : X.K = K := by rfl) : SlR X (rSlA K) := e ▸ sl_tupA
theorem op_in_seqK (e : X.K = K := by rfl) : OpR X (compareOp .In) (rIn K false) := e ▸ op_in_seq
theorem op_notIn_seqK (e : X.K = K := by rfl) : OpR X (compareOp .NotIn) (rIn K true) := e ▸ op_notIn_seq
theorem op_eqDK (hu : X.A.units + 64 < cLine) (e : X.K = K := by rfl) : OpR X (compareOp .Eq) (rEqD K) := e ▸ op_eqD hu
theorem op_neDK (hu : X.A.units + 64 < cLine) (e : X.K = K := by rfl) : OpR X (compareOp .NotEq) (rNeD K) := e ▸ op_neD hu
theorem op_inDK (hu : X.A.units + 65 < cLine) (e : X.K = K := by rfl) : OpR X (compareOp .In) (rInD K) := e ▸ op_inD hu
theorem op_notInDK (hu : X.A.units + 65 < cLine) (e : X.K = K := by rfl) : OpR X (compareOp .NotIn) (rNotInD K) := e ▸ op_notInD hu
theorem op_catTK (e : X.K = K := by rfl) : OpR X (binaryOp .Add) (rCatT K) := e ▸ op_catT
theorem call_len_seqK (e : X.K = K := by rfl) : CallR X (.builtin "len") (rLenSeq K) := e ▸ call_len_seq
theorem call_list_ofK (e : X.K = K := by rfl) : CallR X (.type "list") (rListOf K) := e ▸ call_list_of
theorem call_tuple_ofK (e : X.K = K := by rfl) : CallR X (.type "tuple") (rTupleOf K) := e ▸ call_tuple_of
theorem call_isiK' (e : X.K = K := by rfl) : CallR X (.builtin "isinstance") (rIsi K) := e ▸ call_isi
theorem call_isiTK (e : X.K = K := by rfl) : CallR X (.builtin "isinstance") (rIsiT K) := e ▸ call_isiT
theorem cr_allK (hc : X.calm = true) (e : X.K = K := by rfl) : CallR X (.builtin "all") (rAll K) := e ▸ cr_all hc
theorem cr_anyK (hc : X.calm = true) (e : X.K = K := by rfl) : CallR X (.builtin "any") (rAny K) := e ▸ cr_any hc
theorem cr_sumK (hc : X.calm = true) (e : X.K = K := by rfl) : CallR X (.builtin "sum") (rSum K) := e ▸ cr_sum hc
theorem cr_maxDK (hc : X.calm = true) (hu : X.A.units + 64 < cLine) (e : X.K = K := by rfl) : CallRK X (.builtin "max") [Str.ofString "default"] (rMaxD K) := e ▸ cr_maxD hc hu
theorem pi_listK (hl : PE X l tl) (e : X.K = K := by rfl) : PI X tg l (iList K tl) := e ▸ pi_list hl
theorem pi_tupK (hl : PE X l tl) (e : X.K = K := by rfl) : PI X tg l (iTup K tl) := e ▸ pi_tup hl
end
theorem un65 {k : Nat} {A : Around} (r : Room k A) : A.units + 65 < cLine := by
  have := r.un
  omega
theorem choose_list {α β : Type} : ∀ {xs : List α} {R : Nat → α → β → Prop}, (∀ (i : Nat) x, xs[i]? = some x → ∃ y, R i x y) → ∃ ys : List β, ys.length = xs.length ∧ ∀ (i : Nat) x y, xs[i]? = some x → ys[i]? = some y → R i x y
  | [], _, _ => ⟨[], rfl, fun i x y h => by simp at h⟩
  | a :: r, R, h => by
    obtain ⟨b, hb⟩ := h 0 a rfl
    obtain ⟨ys, hl, k⟩ := choose_list (xs := r) (R := fun i => R (i + 1)) fun i x e => h (i + 1) x e
    refine ⟨b :: ys, by rw [List.length_cons, hl, List.length_cons], fun i x y h1 h2 => ?_⟩
    cases i with
    | zero =>
      cases h1
      cases h2
      exact hb
    | succ i => exact k i x y h1 h2
theorem str_at {ss : List Str} {i : Nat} {x : V} (h : (ss.map V.str)[i]? = some x) : ∃ s, ss[i]? = some s ∧ x = .str s := by
  rw [List.getElem?_map] at h
  cases e : ss[i]? with
  | none => rw [e] at h; cases h
  | some s => rw [e] at h; exact ⟨s, rfl, (Option.some.inj h).symm⟩
def notW (s : Str) : Bool := !inV (.str s) [.str "any", .str "none"]
theorem notW_iff {s : Str} : notW s = true ↔ s ≠ "any" ∧ s ≠ "none" := by
  unfold notW inV
  simp [eqV]
  constructor
  · rintro ⟨h1, h2⟩
    exact ⟨fun e => h1 e.symm, fun e => h2 e.symm⟩
  · rintro ⟨h1, h2⟩
    exact ⟨fun e => h1 e.symm, fun e => h2 e.symm⟩
/-! ### data of a bounded depth can be compared -/
mutual
theorem deep_lay : ∀ (n : Nat) (d : PyData), deep n d = true → d.canLay0 = true ∧ d.depth ≤ n
  | 0, d, h => by rw [deep_zero] at h; cases h
  | n + 1, .list ds, h => by
    have k := deepAll_lay n ds (deep_list h).2
    unfold PyData.canLay0 PyData.depth
    exact ⟨k.1, by have := k.2; omega⟩
  | n + 1, .tuple ds, h => by
    have k := deepAll_lay n ds (deep_tuple h).2
    unfold PyData.canLay0 PyData.depth
    exact ⟨k.1, by have := k.2; omega⟩
  | n + 1, .dict _, h => by unfold deep at h; cases h
  | n + 1, .str s, h => by
    unfold deep at h
    unfold PyData.canLay0 PyData.depth
    exact ⟨h, by omega⟩
  | n + 1, .none, _ => by unfold PyData.canLay0 PyData.depth; exact ⟨rfl, by omega⟩
  | n + 1, .bool _, _ => by unfold PyData.canLay0 PyData.depth; exact ⟨rfl, by omega⟩
  | n + 1, .int _, _ => by unfold PyData.canLay0 PyData.depth; exact ⟨rfl, by omega⟩
theorem deepAll_lay : ∀ (n : Nat) (ds : List PyData), deepAll n ds = true → PyData.canLayAll0 ds = true ∧ PyData.depthAll ds ≤ n
  | n, [], _ => by unfold PyData.canLayAll0 PyData.depthAll; exact ⟨rfl, by omega⟩
  | n, d :: ds, h => by
    unfold deepAll at h
    have h' := Bool.and_eq_true_iff.mp h
    have k1 := deep_lay n d h'.1
    have k2 := deepAll_lay n ds h'.2
    unfold PyData.canLayAll0 PyData.depthAll
    exact ⟨by rw [k1.1, k2.1]; rfl, Nat.max_le.mpr ⟨k1.2, k2.2⟩⟩
end
theorem deep_shaped {n : Nat} {d : PyData} (h : deep n d = true) (hn : n ≤ 64) : SeqAt.shaped d = true := by
  have k := deep_lay n d h
  unfold SeqAt.shaped
  rw [k.1, decide_eq_true (by omega)]
  rfl
theorem deepAll_of {n : Nat} : ∀ {ds : List PyData}, (∀ d ∈ ds, deep n d = true) → deepAll n ds = true
  | [], _ => by unfold deepAll; rfl
  | d :: ds, h => by
    unfold deepAll
    rw [h d List.mem_cons_self, deepAll_of fun x hx => h x (List.mem_cons_of_mem _ hx)]
    rfl
theorem deep_list_of {n : Nat} {ds : List PyData} (hl : ds.length < 50000) (h : ∀ d ∈ ds, deep n d = true) : deep (n + 1) (.list ds) = true := by
  unfold deep
  rw [decide_eq_true hl, deepAll_of h]
  rfl
theorem deep_tuple_of {n : Nat} {ds : List PyData} (hl : ds.length < 50000) (h : ∀ d ∈ ds, deep n d = true) : deep (n + 1) (.tuple ds) = true := by
  unfold deep
  rw [decide_eq_true hl, deepAll_of h]
  rfl
theorem deep_str {n : Nat} {s : Str} (h : PySem.PyData.strOk s = true) : deep (n + 1) (.str s) = true := by
  unfold deep
  exact h
theorem strOk_of {s : Str} (h : ∀ c ∈ cl s, c < 1000) : PySem.PyData.strOk s = true := by
  unfold PySem.PyData.strOk
  rw [Array.all_eq_true_iff_forall_mem]
  intro c hc
  have := h c (by simpa using hc)
  exact decide_eq_true (by omega)
theorem small_letter : ∀ c ∈ cl "abcdefghijklmnopqrstuvwxyz0123456789", c < 1000 := by decide
theorem small_letter' : ∀ c ∈ cl "abcdefghijklmnopqrstuvwxyz", c < 1000 := by decide
theorem isNm.ok {s : Str} (h : isNm s) : PySem.PyData.strOk s = true := strOk_of fun c hc => small_letter' c (h.2.2 c hc)
theorem isVl.ok {s : Str} (h : isVl s) : PySem.PyData.strOk s = true := strOk_of fun c hc => small_letter c (h.2.2 c hc)
theorem shaped_strs {ss : List Str} (h : ∀ s ∈ ss, PySem.PyData.strOk s = true) (hl : ss.length < 50000) : SeqAt.shaped (.list (ss.map PyData.str)) = true :=
  deep_shaped (n := 2) (deep_list_of (by rw [List.length_map]; exact hl) fun d hd => by
    obtain ⟨s, hs, rfl⟩ := List.mem_map.mp hd
    exact deep_str (h s hs)) (by decide)
theorem of_seq {K : PySem.W.Frag} {b l a : Addr} {H : Hp} {S : List Addr} {xs : List V} (hb : b ∈ S) (h : SqL K (dl H S) a xs) : ∀ H', Bx b l H H' → SqL K H' a xs ∨ SqT K H' a xs := fun H' bx => .inl (dl_le.seq ((bx.same hb).seq h))
theorem of_new {K : PySem.W.Frag} {b l p : Addr} {H : Hp} {xs : List V} (hb : Bag H b l) (hp : H p = none) : ∀ H', Bx b l (upd H p (.lst xs)) H' → SqL K H' p xs ∨ SqT K H' p xs := fun H' bx => .inl (SqL.of (bx.keep p _ (hb.ne_new hp) upd_same))
end Hr

set_option Elab.async false
set_option linter.all false
set_option maxRecDepth 100000
set_option maxHeartbeats 4000000
namespace Hr
open PySem PySem.Spec PyProof.Rows L2
/-! ### conditions -/
inductive Cd where
  | any
  | test (f v : Str)
  | node (k : Str) (cs : List Cd)
mutual
def toD : Cd → PyData
  | .any => .tuple [.str "any"]
  | .test f v => .tuple [.str "test", .str f, .str v]
  | .node k cs => .tuple (.str k :: toDs cs)
def toDs : List Cd → List PyData
  | [] => []
  | c :: r => toD c :: toDs r
end
theorem toDs_map : ∀ cs, toDs cs = cs.map toD
  | [] => by unfold toDs; rfl
  | c :: r => by unfold toDs; rw [toDs_map r]; rfl
def parts : Cd → List Cd
  | .node _ cs => cs
  | _ => []
mutual
def size : Cd → Nat
  | .any => 1
  | .test _ _ => 1
  | .node _ cs => 1 + sizes cs
def sizes : List Cd → Nat
  | [] => 0
  | c :: r => size c + sizes r
end
mutual
def dep : Cd → Int
  | .any => 1
  | .test _ _ => 1
  | .node _ cs => 1 + maxI (deps cs) 0
def deps : List Cd → List Int
  | [] => []
  | c :: r => dep c :: deps r
end
theorem deps_map : ∀ cs, deps cs = cs.map dep
  | [] => by unfold deps; rfl
  | c :: r => by unfold deps; rw [deps_map r]; rfl
mutual
def allp : Cd → List Cd
  | .any => [.any]
  | .test f v => [.test f v]
  | .node k cs => .node k cs :: allps cs
def allps : List Cd → List Cd
  | [] => []
  | c :: r => allp c ++ allps r
end
mutual
theorem allp_len : ∀ c, (allp c).length = size c
  | .any => by unfold allp size; rfl
  | .test _ _ => by unfold allp size; rfl
  | .node k cs => by unfold allp size; rw [List.length_cons, allps_len cs]; omega
theorem allps_len : ∀ cs, (allps cs).length = sizes cs
  | [] => by unfold allps sizes; rfl
  | c :: r => by unfold allps sizes; rw [List.length_append, allp_len c, allps_len r]
end
theorem sizes_sum : ∀ cs, ((cs.map fun c => (size c : Int)).sum) = (sizes cs : Int)
  | [] => by unfold sizes; rfl
  | c :: r => by unfold sizes; rw [List.map_cons, List.sum_cons, sizes_sum r]; omega
theorem allps_flat : ∀ cs, allps cs = cs.flatMap allp
  | [] => by unfold allps; rfl
  | c :: r => by unfold allps; rw [allps_flat r, List.flatMap_cons]
theorem allp_eq (c : Cd) : allp c = c :: (parts c).flatMap allp := by
  cases c with
  | any => unfold allp parts; rfl
  | test => unfold allp parts; rfl
  | node k cs => unfold allp; rw [allps_flat]; rfl
theorem size_eq (c : Cd) : (size c : Int) = 1 + ((parts c).map fun c => (size c : Int)).sum := by
  cases c with
  | any => unfold size parts; rfl
  | test => unfold size parts; rfl
  | node k cs =>
    rw [show parts (.node k cs) = cs from rfl, sizes_sum, show size (.node k cs) = 1 + sizes cs by rw [size]]
    omega
theorem dep_eq (c : Cd) : dep c = 1 + maxI ((parts c).map dep) 0 := by
  cases c with
  | any => unfold dep parts; rfl
  | test => unfold dep parts; rfl
  | node k cs => unfold dep; rw [deps_map]; rfl
/-- the depth is at most n, nothing is too wide, the kinds are told apart -/
def Wn : Nat → Cd → Prop
  | 0, _ => False
  | _ + 1, .any => True
  | _ + 1, .test f v => PyData.strOk f = true ∧ PyData.strOk v = true
  | n + 1, .node k cs => PyData.strOk k = true ∧ k ≠ "any" ∧ k ≠ "test" ∧ cs.length < 1000 ∧ ∀ c ∈ cs, Wn n c
theorem Wn.parts {n : Nat} {c : Cd} (h : Wn (n + 1) c) : (parts c).length < 1000 ∧ ∀ p ∈ parts c, Wn n p := by
  cases c with
  | any => exact ⟨by decide, fun _ h => nomatch h⟩
  | test => exact ⟨by show 0 < 1000; decide, fun _ h => nomatch h⟩
  | node k cs => exact ⟨h.2.2.2.1, h.2.2.2.2⟩
theorem Wn.deep : ∀ {n : Nat} {c : Cd}, Wn n c → deep (n + 1) (toD c) = true
  | n + 1, .any, _ => by
    unfold toD
    exact deep_tuple_of (by show 1 < 50000; decide) fun d hd => by
      rw [List.mem_singleton.mp hd]
      exact deep_str (by decide +kernel)
  | n + 1, .test f v, h => by
    unfold toD
    refine deep_tuple_of (by show 3 < 50000; decide) fun d hd => ?_
    rcases List.mem_cons.mp hd with rfl | hd
    · exact deep_str (by decide +kernel)
    · rcases List.mem_cons.mp hd with rfl | hd
      · exact deep_str h.1
      · rw [List.mem_singleton.mp hd]
        exact deep_str h.2
  | n + 1, .node k cs, h => by
    unfold toD
    refine deep_tuple_of (by rw [List.length_cons, toDs_map, List.length_map]; have := h.2.2.2.1; omega) fun d hd => ?_
    rcases List.mem_cons.mp hd with rfl | hd
    · exact deep_str h.1
    · rw [toDs_map] at hd
      obtain ⟨c, hc, rfl⟩ := List.mem_map.mp hd
      exact Wn.deep (h.2.2.2.2 c hc)
/-- a drawn condition over some fields, its depth at most n -/
def Gd (fs : List Fld) : Nat → Cd → Prop
  | 0, _ => False
  | _ + 1, .any => True
  | _ + 1, .test f v => ∃ fl ∈ fs, fl.1 = f ∧ v ∈ fl.2
  | n + 1, .node k cs => (k = "not" ∧ cs.length = 1 ∨ (k = "and" ∨ k = "or") ∧ 2 ≤ cs.length ∧ cs.length ≤ 3) ∧ ∀ c ∈ cs, Gd fs n c
/-! ### tests without duplicates -/
section
variable {α : Type} [DecidableEq α]
def addN (acc : List α) (x : α) : List α := if x ∈ acc then acc else acc ++ [x]
def dd (l : List α) : List α := l.foldl addN []
theorem mem_addN {acc : List α} {x y : α} : y ∈ addN acc x ↔ y ∈ acc ∨ y = x := by
  unfold addN
  by_cases h : x ∈ acc
  · rw [if_pos h]
    constructor
    · exact .inl
    · rintro (k | rfl)
      · exact k
      · exact h
  · rw [if_neg h, List.mem_append, List.mem_singleton]
theorem mem_foldN {y : α} : ∀ (l acc : List α), y ∈ l.foldl addN acc ↔ y ∈ acc ∨ y ∈ l
  | [], acc => by simp
  | x :: r, acc => by
    rw [List.foldl_cons, mem_foldN r, mem_addN, List.mem_cons, or_assoc]
theorem fold_snoc (l acc : List α) (x : α) : (l ++ [x]).foldl addN acc = addN (l.foldl addN acc) x := by rw [List.foldl_append]; rfl
theorem fold_dd (l : List α) : ∀ acc : List α, (dd l).foldl addN acc = l.foldl addN acc := by
  have key : ∀ (n : Nat) (l : List α), l.length = n → ∀ acc : List α, (dd l).foldl addN acc = l.foldl addN acc := by
    intro n
    induction n with
    | zero =>
      intro l hl acc
      rw [List.eq_nil_of_length_eq_zero hl]
      rfl
    | succ n ih =>
      intro l hl acc
      obtain ⟨r, x, rfl⟩ : ∃ r x, l = r ++ [x] := ⟨l.dropLast, l.getLast (by intro e; rw [e] at hl; cases hl), (List.dropLast_concat_getLast _).symm⟩
      have hr : r.length = n := by simpa using hl
      rw [fold_snoc, show dd (r ++ [x]) = addN (dd r) x from fold_snoc r [] x]
      by_cases h : x ∈ dd r
      · have hx : x ∈ r.foldl addN acc := (mem_foldN r acc).mpr (.inr (by
          have := (mem_foldN r []).mp h
          simpa using this))
        rw [show addN (dd r) x = dd r from if_pos h, show addN (r.foldl addN acc) x = _ from if_pos hx]
        exact ih r hr acc
      · rw [show addN (dd r) x = dd r ++ [x] from if_neg h, fold_snoc, ih r hr acc]
  exact key l.length l rfl
end
abbrev Pr := Str × Str
def prD (p : Pr) : PyData := .tuple [.str p.1, .str p.2]
def own (c : Cd) : List Pr := match c with
  | .test f v => [(f, v)]
  | _ => []
def tl (c : Cd) : List Pr := (allp c).flatMap own
def tests (c : Cd) : List Pr := dd (tl c)
theorem tl_eq (c : Cd) : tl c = own c ++ (parts c).flatMap tl := by
  unfold tl
  rw [allp_eq, List.flatMap_cons, List.flatMap_assoc]
theorem fold_flat (g : Cd → List Pr) : ∀ (cs : List Cd) (acc : List Pr), (cs.flatMap fun c => dd (g c)).foldl addN acc = (cs.flatMap g).foldl addN acc
  | [], acc => rfl
  | c :: r, acc => by rw [List.flatMap_cons, List.flatMap_cons, List.foldl_append, List.foldl_append, fold_dd, fold_flat g r]
/-- the law's own way, level by level -/
theorem tests_node {c : Cd} (h : own c = []) : tests c = ((parts c).flatMap tests).foldl addN [] := by
  unfold tests
  rw [fold_flat tl, tl_eq, h]
  rfl
theorem eqv_pr (p q : Pr) : PyData.eqv (prD p) (prD q) = decide (p = q) := by
  unfold prD
  obtain ⟨a, b⟩ := p
  obtain ⟨c, d⟩ := q
  simp only [PyData.eqv, PyData.eqvAll, Bool.and_true]
  rw [Bool.eq_iff_iff]
  simp
theorem any_pr (acc : List Pr) (x : Pr) : ((acc.map prD).any fun z => PyData.eqv z (prD x)) = decide (x ∈ acc) := by
  rw [List.any_map, Bool.eq_iff_iff, List.any_eq_true]
  simp only [Function.comp, eqv_pr, decide_eq_true_eq]
  constructor
  · rintro ⟨y, hy, rfl⟩
    exact hy
  · exact fun h => ⟨x, h, rfl⟩
/-! ### more of trees -/
theorem cut_tail (x : V) (xs : List V) : cutV (x :: xs) (some 1) none = xs := by
  unfold cutV
  rw [show HT.sIx (x :: xs).length 0 (some 1) = min 1 (x :: xs).length from HT.sIx_nat _ 0 1, HT.sIx_none, show min 1 (x :: xs).length = 1 by rw [List.length_cons]; omega]
  show List.take ((x :: xs).length - 1) xs = xs
  rw [List.length_cons, Nat.add_sub_cancel]
  exact List.take_length
theorem cut_tail_ne (x : V) (xs : List V) : ¬ (HT.sIx (x :: xs).length 0 (some 1) = 0 ∧ HT.sIx (x :: xs).length (x :: xs).length none = (x :: xs).length) := by
  rintro ⟨h, _⟩
  rw [show HT.sIx (x :: xs).length 0 (some 1) = min 1 (x :: xs).length from HT.sIx_nat _ 0 1, List.length_cons] at h
  omega
def leafW (k : Str) : Bool := inV (.str k) [.str "any", .str "test"]
theorem leafW_no {k : Str} (h1 : k ≠ "any") (h2 : k ≠ "test") : leafW k = false := by
  unfold leafW inV
  simp [eqV]
  exact ⟨fun e => h1 e.symm, fun e => h2 e.symm⟩
theorem tree_open {K : PySem.W.Frag} {H : Hp} {v : V} {c : Cd} {n : Nat} (h : Dp K H v (toD c)) (w : Wn (n + 1) c) :
    ∃ (a : Addr) (k : Str) (xs : List V), v = .ref a ∧ SqT K H a (.str k :: xs) ∧ (leafW k = true → parts c = []) ∧ (leafW k = false → DpAll K H xs ((parts c).map toD)) ∧ (k = "test" → ∃ f g, c = .test f g ∧ xs = [.str f, .str g]) ∧ (k ≠ "test" → own c = []) := by
  cases c with
  | any =>
    unfold toD at h
    cases h with
    | tup hs ha =>
      cases ha with
      | cons h1 h2 =>
        cases h1
        cases h2
        exact ⟨_, _, _, rfl, hs, fun _ => rfl, fun e => absurd e (by decide), fun e => absurd e (by decide), fun _ => rfl⟩
  | test f g =>
    unfold toD at h
    cases h with
    | tup hs ha =>
      cases ha with
      | cons h1 h2 =>
        cases h1
        cases h2 with
        | cons h3 h4 =>
          cases h3
          cases h4 with
          | cons h5 h6 =>
            cases h5
            cases h6
            exact ⟨_, _, _, rfl, hs, fun _ => rfl, fun e => absurd e (by decide), fun _ => ⟨f, g, rfl, rfl⟩, fun e => absurd rfl e⟩
  | node k cs =>
    unfold toD at h
    rw [toDs_map] at h
    cases h with
    | tup hs ha =>
      cases ha with
      | cons h1 h2 =>
        cases h1
        have lw := leafW_no w.2.1 w.2.2.1
        exact ⟨_, _, _, rfl, hs, fun e => by rw [lw] at e; (cases e), fun _ => h2, fun e => absurd e w.2.2.1, fun _ => rfl⟩
theorem Wn.some {n : Nat} {c : Cd} (h : Wn n c) : ∃ m, n = m + 1 := by
  cases n with
  | zero => exact h.elim
  | succ m => exact ⟨m, rfl⟩
theorem size_part {c p : Cd} (h : p ∈ parts c) : size p < size c := by
  have e := size_eq c
  have : (size p : Int) ≤ ((parts c).map fun c => (size c : Int)).sum := by
    generalize parts c = l at h
    clear e
    induction l with
    | nil => cases h
    | cons x r ih =>
      rw [List.map_cons, List.sum_cons]
      have hr : (0 : Int) ≤ (r.map fun c => (size c : Int)).sum := by
        clear ih h
        induction r with
        | nil => exact Int.le_refl 0
        | cons y s ih => rw [List.map_cons, List.sum_cons]; omega
      rcases List.mem_cons.mp h with rfl | h
      · omega
      · have := ih h
        omega
  omega
/-- what is drawn is well formed -/
theorem Gd.wn {fs : List Fld} (hf : ∀ f ∈ fs, PyData.strOk f.1 = true ∧ ∀ m ∈ f.2, PyData.strOk m = true) : ∀ {n : Nat} {c : Cd}, Gd fs n c → Wn n c
  | n + 1, .any, _ => trivial
  | n + 1, .test f v, h => by
    obtain ⟨fl, hfl, rfl, hv⟩ := h
    exact ⟨(hf fl hfl).1, (hf fl hfl).2 v hv⟩
  | n + 1, .node k cs, h => by
    refine ⟨?_, ?_, ?_, ?_, fun c hc => Gd.wn hf (h.2 c hc)⟩
    · rcases h.1 with ⟨rfl, _⟩ | ⟨rfl | rfl, _⟩ <;> decide +kernel
    · rcases h.1 with ⟨rfl, _⟩ | ⟨rfl | rfl, _⟩ <;> decide
    · rcases h.1 with ⟨rfl, _⟩ | ⟨rfl | rfl, _⟩ <;> decide
    · rcases h.1 with ⟨_, h⟩ | ⟨_, _, h⟩ <;> omega
theorem Gd.up {fs : List Fld} : ∀ {n : Nat} {c : Cd}, Gd fs n c → Gd fs (n + 1) c
  | n + 1, .any, _ => trivial
  | n + 1, .test f v, h => h
  | n + 1, .node k cs, h => ⟨h.1, fun c hc => Gd.up (h.2 c hc)⟩
theorem Gd.ups {fs : List Fld} {n m : Nat} {c : Cd} (h : Gd fs n c) (hm : n ≤ m) : Gd fs m c := by
  induction hm with
  | refl => exact h
  | step _ ih => exact ih.up
theorem gd_size {fs : List Fld} : ∀ {n : Nat} {c : Cd}, Gd fs n c → 2 * size c + 1 ≤ 3 ^ n
  | n + 1, .any, _ => by
    have : 0 < 3 ^ n := Nat.pow_pos (by decide)
    show 2 * size .any + 1 ≤ _
    rw [Nat.pow_succ, show size .any = 1 by rw [size]]
    omega
  | n + 1, .test f v, _ => by
    have : 0 < 3 ^ n := Nat.pow_pos (by decide)
    rw [Nat.pow_succ, show size (.test f v) = 1 by rw [size]]
    omega
  | n + 1, .node k cs, h => by
    have hl : cs.length ≤ 3 := by rcases h.1 with ⟨_, h⟩ | ⟨_, _, h⟩ <;> omega
    have hs : ∀ (l : List Cd), (∀ c ∈ l, 2 * size c + 1 ≤ 3 ^ n) → 2 * sizes l + l.length ≤ l.length * 3 ^ n := by
      intro l
      induction l with
      | nil => intro _; rw [sizes]; simp
      | cons x r ih =>
        intro hx
        have h1 := hx x List.mem_cons_self
        have h2 := ih fun c hc => hx c (List.mem_cons_of_mem _ hc)
        rw [sizes, List.length_cons, Nat.add_mul, Nat.one_mul]
        omega
    have k1 := hs cs fun c hc => gd_size (h.2 c hc)
    have k2 : cs.length * 3 ^ n ≤ 3 * 3 ^ n := Nat.mul_le_mul_right _ hl
    have h1 : 1 ≤ cs.length := by rcases h.1 with ⟨_, h⟩ | ⟨_, h, _⟩ <;> omega
    rw [Nat.pow_succ, show size (.node k cs) = 1 + sizes cs by rw [size]]
    by_cases hc : cs.length = 3
    · omega
    · have k3 : cs.length * 3 ^ n ≤ 2 * 3 ^ n := Nat.mul_le_mul_right _ (by omega)
      have : 0 < 3 ^ n := Nat.pow_pos (by decide)
      have g : n ≠ 0 := by
        rintro rfl
        obtain ⟨c, hc⟩ := List.exists_mem_of_length_pos (show 0 < cs.length by omega)
        exact h.2 c hc
      have : 3 ≤ 3 ^ n := by
        cases n with
        | zero => exact absurd rfl g
        | succ m =>
          have : 0 < 3 ^ m := Nat.pow_pos (by decide)
          rw [Nat.pow_succ]
          omega
      omega
theorem tests_ok : ∀ {n : Nat} {c : Cd}, Wn n c → ∀ p ∈ tl c, PyData.strOk p.1 = true ∧ PyData.strOk p.2 = true
  | n + 1, c, h, p, hp => by
    rw [tl_eq, List.mem_append] at hp
    rcases hp with hp | hp
    · cases c with
      | any => cases hp
      | test f v =>
        rw [List.mem_singleton.mp hp]
        exact h
      | node k cs => cases hp
    · obtain ⟨q, hq, hp⟩ := List.mem_flatMap.mp hp
      exact tests_ok (h.parts.2 q hq) p hp
theorem mem_dd {l : List Pr} {p : Pr} : p ∈ dd l ↔ p ∈ l := by
  unfold dd
  rw [mem_foldN]
  simp
theorem prs_deep {l : List Pr} {n : Nat} (hl : l.length < 50000) (h : ∀ p ∈ l, PyData.strOk p.1 = true ∧ PyData.strOk p.2 = true) : deep (n + 3) (.list (l.map prD)) = true := by
  refine deep_list_of (by rw [List.length_map]; exact hl) fun d hd => ?_
  obtain ⟨p, hp, rfl⟩ := List.mem_map.mp hd
  have k := h p hp
  unfold prD
  refine deep_tuple_of (by show 2 < 50000; decide) fun d hd => ?_
  rcases List.mem_cons.mp hd with rfl | hd
  · exact deep_str k.1
  · rw [List.mem_singleton.mp hd]
    exact deep_str k.2
theorem pr_deep {p : Pr} {n : Nat} (k : PyData.strOk p.1 = true ∧ PyData.strOk p.2 = true) : deep (n + 2) (prD p) = true := by
  unfold prD
  refine deep_tuple_of (by show 2 < 50000; decide) fun d hd => ?_
  rcases List.mem_cons.mp hd with rfl | hd
  · exact deep_str k.1
  · rw [List.mem_singleton.mp hd]
    exact deep_str k.2
theorem dd_le (l : List Pr) : (dd l).length ≤ l.length := by
  have key : ∀ (l acc : List Pr), (l.foldl addN acc).length ≤ acc.length + l.length := by
    intro l
    induction l with
    | nil => intro acc; simp
    | cons x r ih =>
      intro acc
      rw [List.foldl_cons, List.length_cons]
      refine Nat.le_trans (ih _) ?_
      unfold addN
      split
      · omega
      · rw [List.length_append, List.length_singleton]; omega
  have := key l []
  simpa [dd] using this
theorem tl_le (c : Cd) : (tl c).length ≤ size c := by
  unfold tl
  rw [← allp_len]
  generalize allp c = l
  induction l with
  | nil => exact Nat.le_refl _
  | cons x r ih =>
    rw [List.flatMap_cons, List.length_append, List.length_cons]
    have : (own x).length ≤ 1 := by cases x <;> simp [own]
    omega
/-! ### a comprehension over a list whose items stand for things -/
theorem lc_each {β : Type} {J : It} {G : Hp → Prop} {xs : List V} (bs : List β) (hl : xs.length = bs.length) (w : Walk J xs.length G (YAt xs)) {g : TG} {tt : TT} {te : TE} {vs : List Nat} {σ : L2.St} {H1 : Hp} {D : Addr} {Qd : Hp → Prop} (hD : H1 D = none) (f : β → V) (hG : ∀ H, Same H1 H → G H) (hn : xs.length < 100000)
    (hs : ∀ (i : Nat) x bb H (Qe : V → Hp → Prop) (Z : Hp → Prop), xs[i]? = some x → bs[i]? = some bb → Same H1 H → (∀ H4, Same H H4 → Qe (f bb) H4) → g x (wipe σ vs) H fun σ2 H2 => wipe σ2 vs = wipe σ vs ∧ tt σ2 H2 fun b H3 => if b = true then te σ2 H3 Qe else Z H3)
    (hd : ∀ H, Same H1 H → H D = some (.lst (bs.map f)) → Qd H) :
    ∃ W : Nat → Nat → Hp → Prop, (∃ m, W 0 m (upd H1 D (.lst []))) ∧ ∀ i m H, W i m H →
      (J.stop i H ∧ Qd H) ∨ (J.go i H ∧ ∃ Nx : Hp → Prop, (∀ H', Nx H' → ∃ m', m' < m ∧ W (i + 1) m' H') ∧ ∀ x H', J.yld i H x H' → g x (wipe σ vs) H' fun σ2 H2 => wipe σ2 vs = wipe σ vs ∧ tt σ2 H2 fun b H3 =>
        if b = true then te σ2 H3 fun y H4 => ∃ acc, H4 D = some (.lst acc) ∧ acc.length < sizeLine ∧ Nx (upd H4 D (.lst (acc ++ [y]))) else Nx H3) := by
  refine lc_it w (fun i H => Same H1 H ∧ H D = some (.lst ((bs.take i).map f))) ⟨same_new hD, by rw [upd_same]; rfl⟩ (fun i H _ h => hG H h.1) ?_ ?_
  · rintro i x H H' hi ⟨sm, hy⟩ ⟨rfl, hx⟩
    have hib : i < bs.length := by omega
    have hb := List.getElem?_eq_getElem hib
    refine hs i x _ H' _ _ hx hb sm fun H4 s4 => ⟨_, s4 _ _ hy, szt ?_, fun a o e => ?_, ?_⟩
    · rw [List.length_map, List.length_take]
      omega
    · rw [upd_ne (ne_of_none e hD)]
      exact s4 _ _ (sm _ _ e)
    · rw [upd_same, List.take_add_one, hb, List.map_append]
      rfl
  · rintro H ⟨sm, hy⟩
    rw [hl, List.take_length] at hy
    exact hd H sm hy
theorem dpa_len' {K : PySem.W.Frag} {H : Hp} {β : Type} {vs : List V} {bs : List β} {f : β → PyData} (h : DpAll K H vs (bs.map f)) : vs.length = bs.length := by rw [dpa_len h, List.length_map]
theorem dpa_get' {K : PySem.W.Frag} {H : Hp} {β : Type} {vs : List V} {bs : List β} {f : β → PyData} {i : Nat} {v : V} {x : β} (h : DpAll K H vs (bs.map f)) (hv : vs[i]? = some v) (hb : bs[i]? = some x) : Dp K H v (f x) := by
  obtain ⟨d, h1, h2⟩ := dpa_get h hv
  rw [List.getElem?_map, hb] at h1
  cases h1
  exact h2
theorem dpa_app {K : PySem.W.Frag} {H : Hp} : ∀ {vs ws : List V} {ds es : List PyData}, DpAll K H vs ds → DpAll K H ws es → DpAll K H (vs ++ ws) (ds ++ es)
  | _, _, _, _, .nil, h => h
  | _, _, _, _, .cons h t, k => .cons h (dpa_app t k)
theorem at0 {α : Type} (x : α) (xs : List α) : atI (x :: xs) 0 = some x := atI_nat (j := 0) rfl
theorem take_allp (l : List Cd) (k : Nat) : ((l.take k).flatMap allp).length ≤ (l.flatMap allp).length := by
  have e : l.flatMap allp = (l.take k).flatMap allp ++ (l.drop k).flatMap allp := by rw [← List.flatMap_append, List.take_append_drop]
  rw [e, List.length_append]
  omega
theorem wn_all : ∀ {n : Nat} {c : Cd}, Wn n c → ∀ p ∈ allp c, ∃ m, Wn (m + 1) p
  | n + 1, c, h, p, hp => by
    rw [allp_eq, List.mem_cons] at hp
    rcases hp with rfl | hp
    · exact ⟨n, h⟩
    · obtain ⟨q, hq, hp⟩ := List.mem_flatMap.mp hp
      exact wn_all (h.parts.2 q hq) p hp
theorem own_sub {c : Cd} {i : Nat} {p : Pr} (h : p ∈ dd (((allp c).take i).flatMap own)) : p ∈ tl c := by
  rw [mem_dd] at h
  obtain ⟨q, hq, hp⟩ := List.mem_flatMap.mp h
  exact List.mem_flatMap.mpr ⟨q, List.mem_of_mem_take hq, hp⟩
theorem own_le {c : Cd} {i : Nat} : (dd (((allp c).take i).flatMap own)).length ≤ size c := by
  refine Nat.le_trans (dd_le _) ?_
  rw [← allp_len]
  generalize allp c = l
  have : ∀ l : List Cd, (l.flatMap own).length ≤ l.length := by
    intro l
    induction l with
    | nil => exact Nat.le_refl _
    | cons x r ih =>
      rw [List.flatMap_cons, List.length_append, List.length_cons]
      have : (own x).length ≤ 1 := by cases x <;> simp [own]
      omega
  refine Nat.le_trans (this _) ?_
  rw [List.length_take]
  omega
theorem own_step {c pc : Cd} {i : Nat} (h : (allp c)[i]? = some pc) : ((allp c).take (i + 1)).flatMap own = ((allp c).take i).flatMap own ++ own pc := by
  rw [List.take_add_one, h, List.flatMap_append]
  simp
theorem dd_same {l : List Pr} {x : Pr} (h : x ∈ dd l) : dd (l ++ [x]) = dd l := by
  rw [show dd (l ++ [x]) = addN (dd l) x from fold_snoc l [] x]
  exact if_pos h
theorem dd_more {l : List Pr} {x : Pr} (h : x ∉ dd l) : dd (l ++ [x]) = dd l ++ [x] := by
  rw [show dd (l ++ [x]) = addN (dd l) x from fold_snoc l [] x]
  exact if_neg h
/-- a new object ahead of a hidden list -/
theorem dl1_new {H : Hp} {D p : Addr} {o : HO} (hD : ∃ u, H D = some u) (hp : H p = none) : dl (upd H p o) [D] = upd (dl H [D]) p o := dl_new fun z => by
  rw [List.mem_singleton.mp z] at hp
  obtain ⟨u, e⟩ := hD
  rw [e] at hp
  cases hp
theorem dl1_free {H : Hp} {D p : Addr} (hp : H p = none) : dl H [D] p = none := by
  by_cases z : p ∈ [D]
  · exact dl_at z
  · rw [dl_ne z]; exact hp
theorem tests_le (c : Cd) : (tests c).length ≤ size c := Nat.le_trans (dd_le _) (tl_le c)
theorem tests_sub {c : Cd} {p : Pr} (h : p ∈ tests c) : p ∈ tl c := mem_dd.mp h
theorem tl_part {c q : Cd} {p : Pr} (hq : q ∈ parts c) (h : p ∈ tl q) : p ∈ tl c := by
  rw [tl_eq, List.mem_append]
  exact .inr (List.mem_flatMap.mpr ⟨q, hq, h⟩)
theorem ft_le (c : Cd) (k : Nat) : (((parts c).take k).flatMap tests).length ≤ size c := by
  have h : ∀ l : List Cd, (l.flatMap tests).length ≤ (l.flatMap allp).length := by
    intro l
    induction l with
    | nil => exact Nat.le_refl _
    | cons x r ih =>
      rw [List.flatMap_cons, List.flatMap_cons, List.length_append, List.length_append, allp_len]
      have := tests_le x
      omega
  have h2 := take_allp (parts c) k
  have h3 := allp_len c
  rw [allp_eq, List.length_cons] at h3
  have := h ((parts c).take k)
  omega
theorem fold_le {l acc : List Pr} : (l.foldl addN acc).length ≤ acc.length + l.length := by
  induction l generalizing acc with
  | nil => simp
  | cons x r ih =>
    rw [List.foldl_cons, List.length_cons]
    refine Nat.le_trans ih ?_
    unfold addN
    split
    · omega
    · rw [List.length_append, List.length_singleton]; omega
theorem strs_deep {ss : List Str} {n : Nat} (hl : ss.length < 50000) (h : ∀ s ∈ ss, PyData.strOk s = true) : deep (n + 2) (.list (ss.map PyData.str)) = true := by
  refine deep_list_of (by rw [List.length_map]; exact hl) fun d hd => ?_
  obtain ⟨p, hp, rfl⟩ := List.mem_map.mp hd
  exact deep_str (h p hp)
end Hr

set_option Elab.async false
set_option linter.all false
set_option maxRecDepth 100000
set_option maxHeartbeats 4000000
namespace Hr
open PySem PySem.Spec PyProof.Rows L2
theorem len_le (t : Str) {n : Nat} (h : t.length ≤ n) : t.cps.size ≤ n := h
theorem sign_at {t : Str} {i c : Nat} (h : t.cps[i]? = some c) : t.cps.toList.getD i 0 = c := by
  rw [List.getD_eq_getElem?_getD, Array.getElem?_toList, h]
  rfl
theorem range_getD {α β : Type} (l : List α) (d : α) (f : α → β) : (List.range l.length).map (fun i => f (l.getD i d)) = l.map f := by
  apply List.ext_getElem
  · simp
  · intro i h1 h2
    simp at h1
    simp [List.getD_eq_getElem?_getD, h1]
def allIn (t cs : Str) : Bool := t.cps.toList.all fun c => decide (c ∈ cs.cps.toList)
def consists (t cs : Str) : Bool := decide (1 ≤ (t.length : Int)) && (decide ((t.length : Int) ≤ 8) && allIn t cs)
theorem all_end {K : PySem.W.Frag} {t cs : Str} {H : Hp} {D : Addr} {Q : VK} {n : Nat} (hn : n = t.cps.toList.length) (c1 : decide (1 ≤ (t.length : Int)) = true) (c2 : decide ((t.length : Int) ≤ 8) = true) (hL : H D = some (.lst ((List.range n).map fun i => V.bl (decide (t.cps.toList.getD i 0 ∈ cs.cps.toList))))) (q : Q (.bl (consists t cs)) H) :
    ∃ (a : Addr) (bs : List Bool), [V.ref D] = [V.ref a] ∧ SqL K H a (bs.map V.bl) ∧ Q (.bl (bs.all id)) H := by
  subst hn
  refine ⟨D, (t.cps.toList.map fun c => decide (c ∈ cs.cps.toList)), rfl, .inl (.inl ?_), ?_⟩
  · rw [hL, List.map_map]
    exact congrArg (fun l => some (HO.lst l)) (range_getD t.cps.toList 0 (fun c => V.bl (decide (c ∈ cs.cps.toList))))
  · have e : consists t cs = (t.cps.toList.map fun c => decide (c ∈ cs.cps.toList)).all id := by
      unfold consists allIn
      rw [c1, c2, List.all_map]
      rfl
    exact e ▸ q
def sp_consists : Sp := fun vs H Q _ => ∃ t cs, vs = [.str t, .str cs] ∧ t.length ≤ 50000 ∧ ∀ H', Same H H' → Q (.bl (consists t cs)) H'
def sp_word (cs : Str) : Sp := fun vs H Q _ => ∃ t, vs = [.str t] ∧ t.length ≤ 50000 ∧ ∀ H', Same H H' → Q (.bl (consists t cs)) H'
abbrev nameC : Str := "abcdefghijklmnopqrstuvwxyz"
abbrev valueC : Str := "abcdefghijklmnopqrstuvwxyz0123456789"
theorem bT {c : Bool} {A B : Prop} (h : c = true) (a : A) : if c = true then A else B := by
  rw [if_pos h]
  exact a
theorem bF {c : Bool} {A B : Prop} (h : c = false) (b : B) : if c = true then A else B := by
  rw [h, if_neg Bool.false_ne_true]
  exact b
theorem dec_v {i j : Int} {p : Prop} [Decidable p] (h : i = j ↔ p) : decide (V.int i = V.int j) = decide p := by
  by_cases hp : p
  · rw [decide_eq_true hp, decide_eq_true (congrArg V.int (h.mpr hp))]
  · rw [decide_eq_false hp, decide_eq_false fun e => hp (h.mp (V.int.inj e))]
theorem dec_p {p q : Prop} [Decidable p] [Decidable q] (h : p ↔ q) : decide p = decide q := by
  by_cases hq : q
  · rw [decide_eq_true hq, decide_eq_true (h.mpr hq)]
  · rw [decide_eq_false hq, decide_eq_false fun e => hq (h.mp e)]
theorem two_of {α : Type} {xs : List α} (h : xs.length = 2) : ∃ a b, xs = [a, b] := by
  match xs, h with
  | [a, b], _ => exact ⟨a, b, rfl⟩
theorem one_of {α : Type} {xs : List α} (h : xs.length = 1) : ∃ a, xs = [a] := by
  match xs, h with
  | [a], _ => exact ⟨a, rfl⟩
theorem beq_dec (a k : Str) : (a == k) = decide (k = a) := by
  rw [Bool.eq_iff_iff, beq_iff_eq, decide_eq_true_eq]
  exact eq_comm
theorem in_two (k a b : Str) : inV (.str k) [.str a, .str b] = (decide (k = a) || decide (k = b)) := by
  show ((a == k) || ((b == k) || false)) = _
  rw [beq_dec, beq_dec, Bool.or_false]
/-! ### things: nested tuples of texts whose first item, if any, is a text -/
inductive Th where
  | str (s : Str)
  | nil
  | tup (k : Str) (xs : List Th)
mutual
def toT : Th → PyData
  | .str s => .str s
  | .nil => .tuple []
  | .tup k xs => .tuple (.str k :: toTs xs)
def toTs : List Th → List PyData
  | [] => []
  | t :: r => toT t :: toTs r
end
theorem toTs_map : ∀ ts, toTs ts = ts.map toT
  | [] => by unfold toTs; rfl
  | t :: r => by unfold toTs; rw [toTs_map r]; rfl
def kids : Th → List Th
  | .tup k xs => if leafW k = true then [] else xs
  | _ => []
mutual
def cnt : Th → Nat
  | .str _ => 1
  | .nil => 1
  | .tup k xs => 1 + (if leafW k = true then 0 else cnts xs)
def cnts : List Th → Nat
  | [] => 0
  | t :: r => cnt t + cnts r
end
theorem cnts_sum : ∀ ts, cnts ts = (ts.map cnt).sum
  | [] => by unfold cnts; rfl
  | t :: r => by unfold cnts; rw [cnts_sum r, List.map_cons, List.sum_cons]
theorem cnt_eq (t : Th) : cnt t = 1 + ((kids t).map cnt).sum := by
  cases t with
  | str s => unfold cnt kids; rfl
  | nil => unfold cnt kids; rfl
  | tup k xs =>
    rw [show cnt (.tup k xs) = 1 + (if leafW k = true then 0 else cnts xs) by rw [cnt]]
    rw [show kids (.tup k xs) = if leafW k = true then [] else xs from rfl]
    by_cases h : leafW k = true
    · rw [if_pos h, if_pos h]; rfl
    · rw [if_neg h, if_neg h, cnts_sum]
def fieldOk (f : Str) : Bool := consists f nameC && !decide (f = "any")
def testOk : List Th → Bool
  | [.str f, .str v] => fieldOk f && consists v valueC
  | _ => false
/-- is it a condition if its parts are? -/
def form : Th → Bool
  | .tup k xs => if k = "any" then decide (xs.length = 0) else if k = "test" then testOk xs else if k = "not" then decide (xs.length = 1) else (decide (k = "and") || decide (k = "or")) && decide (2 ≤ xs.length)
  | _ => false
def isT : Nat → Th → Bool
  | 0, _ => false
  | n + 1, t => form t && (kids t).all (isT n)
/-- bounded things -/
def WT : Nat → Th → Prop
  | 0, _ => False
  | _ + 1, .str s => PyData.strOk s = true ∧ s.length ≤ 1000
  | _ + 1, .nil => True
  | n + 1, .tup k xs => (PyData.strOk k = true ∧ k.length ≤ 1000) ∧ xs.length < 1000 ∧ ∀ x ∈ xs, WT n x
theorem WT.deep : ∀ {n : Nat} {t : Th}, WT n t → deep (n + 1) (toT t) = true
  | n + 1, .str s, h => by unfold toT; exact deep_str h.1
  | n + 1, .nil, _ => by unfold toT; exact deep_tuple_of (by show 0 < 50000; decide) fun d hd => nomatch hd
  | n + 1, .tup k xs, h => by
    unfold toT
    refine deep_tuple_of (by rw [List.length_cons, toTs_map, List.length_map]; have := h.2.1; omega) fun d hd => ?_
    rcases List.mem_cons.mp hd with rfl | hd
    · exact deep_str h.1.1
    · rw [toTs_map] at hd
      obtain ⟨c, hc, rfl⟩ := List.mem_map.mp hd
      exact WT.deep (h.2.2 c hc)
theorem WT.up : ∀ {n : Nat} {t : Th}, WT n t → WT (n + 1) t
  | n + 1, .str s, h => h
  | n + 1, .nil, _ => trivial
  | n + 1, .tup k xs, h => ⟨h.1, h.2.1, fun x hx => WT.up (h.2.2 x hx)⟩
theorem WT.ups {n m : Nat} {t : Th} (h : WT n t) (hm : n ≤ m) : WT m t := by
  induction hm with
  | refl => exact h
  | step _ ih => exact ih.up
theorem WT.kids {n : Nat} {t : Th} (h : WT (n + 1) t) : (kids t).length < 1000 ∧ ∀ x ∈ kids t, WT n x := by
  cases t with
  | str s => exact ⟨by show 0 < 1000; decide, fun _ h => nomatch h⟩
  | nil => exact ⟨by show 0 < 1000; decide, fun _ h => nomatch h⟩
  | tup k xs =>
    show (if leafW k = true then [] else xs).length < 1000 ∧ ∀ x ∈ (if leafW k = true then [] else xs), WT n x
    split
    · exact ⟨by show 0 < 1000; decide, fun _ h => nomatch h⟩
    · exact h.2
mutual
def th : Cd → Th
  | .any => .tup "any" []
  | .test f v => .tup "test" [.str f, .str v]
  | .node k cs => .tup k (ths cs)
def ths : List Cd → List Th
  | [] => []
  | c :: r => th c :: ths r
end
theorem ths_map : ∀ cs, ths cs = cs.map th
  | [] => by unfold ths; rfl
  | c :: r => by unfold ths; rw [ths_map r]; rfl
theorem th_toD : ∀ {n : Nat} {c : Cd}, Wn n c → toT (th c) = toD c
  | n + 1, .any, _ => by unfold th toT toTs toD; rfl
  | n + 1, .test f v, _ => by unfold th toT toTs toTs toTs toT toD; rfl
  | n + 1, .node k cs, h => by
    unfold th toT toD
    rw [toTs_map, ths_map, toDs_map, List.map_map]
    congr 2
    exact List.map_congr_left fun c hc => th_toD (h.2.2.2.2 c hc)
/-- what passes is a condition in the narrow sense -/
theorem isT_cd : ∀ (n : Nat) (m : Nat) (t : Th), isT n t = true → WT m t → ∃ c, toD c = toT t ∧ Wn n c ∧ size c = cnt t
  | 0, _, _, h, _ => by cases h
  | _ + 1, 0, _, _, hw => hw.elim
  | n + 1, m + 1, t, h, hw => by
    have h' := Bool.and_eq_true_iff.mp h
    cases t with
    | str s => cases h'.1
    | nil => cases h'.1
    | tup k xs =>
      have hf : (if k = "any" then decide (xs.length = 0) else if k = "test" then testOk xs else if k = "not" then decide (xs.length = 1) else (decide (k = "and") || decide (k = "or")) && decide (2 ≤ xs.length)) = true := h'.1
      have hk := List.all_eq_true.mp h'.2
      by_cases e1 : k = "any"
      · subst e1
        rw [if_pos rfl] at hf
        have e0 : xs = [] := List.eq_nil_of_length_eq_zero (of_decide_eq_true hf)
        subst e0
        exact ⟨.any, by unfold toD toT toTs; rfl, trivial, by rw [size, cnt]; rfl⟩
      · rw [if_neg e1] at hf
        by_cases e2 : k = "test"
        · subst e2
          rw [if_pos rfl] at hf
          match xs, hf, hw with
          | [.str f, .str v], hf, hw =>
            have w1 := hw.2.2 (.str f) (by simp)
            have w2 := hw.2.2 (.str v) (by simp)
            cases m with
            | zero => exact w1.elim
            | succ m => exact ⟨.test f v, by unfold toD toT toTs toTs toTs toT; rfl, ⟨w1.1, w2.1⟩, by rw [size, cnt]; rfl⟩
        · rw [if_neg e2] at hf
          have lw := leafW_no e1 e2
          have ek : kids (.tup k xs) = xs := if_neg (by rw [lw]; decide)
          rw [ek] at hk
          have hcs : ∃ cs : List Cd, cs.map toD = xs.map toT ∧ (∀ c ∈ cs, Wn n c) ∧ sizes cs = cnts xs ∧ cs.length = xs.length := by
            have hx := hw.2.2
            clear hf ek h h' hw
            induction xs with
            | nil => exact ⟨[], rfl, fun _ h => (nomatch h), by rw [sizes, cnts], rfl⟩
            | cons x r ih =>
              obtain ⟨c, c1, c2, c3⟩ := isT_cd n m x (hk x List.mem_cons_self) (hx x List.mem_cons_self)
              obtain ⟨cs, d1, d2, d3, d4⟩ := ih (fun y hy => hk y (List.mem_cons_of_mem _ hy)) fun y hy => hx y (List.mem_cons_of_mem _ hy)
              refine ⟨c :: cs, by rw [List.map_cons, List.map_cons, c1, d1], fun y hy => ?_, by rw [sizes, cnts, c3, d3], by rw [List.length_cons, List.length_cons, d4]⟩
              rcases List.mem_cons.mp hy with rfl | hy
              · exact c2
              · exact d2 y hy
          obtain ⟨cs, d1, d2, d3, d4⟩ := hcs
          refine ⟨.node k cs, ?_, ⟨hw.1.1, e1, e2, by have := hw.2.1; omega, d2⟩, ?_⟩
          · unfold toD toT
            rw [toDs_map, toTs_map, d1]
          · rw [size, cnt, if_neg (by rw [lw]; decide), d3]
theorem Wn.wt : ∀ {n : Nat} {c : Cd}, Wn n c → (∀ p ∈ tl c, p.1.length ≤ 1000 ∧ p.2.length ≤ 1000) → (∀ q ∈ allp c, ∀ k cs, q = .node k cs → k.length ≤ 1000) → WT (n + 1) (th c)
  | n + 1, .any, _, _, _ => by unfold th; exact ⟨⟨by decide +kernel, by decide⟩, by decide, fun _ h => nomatch h⟩
  | n + 1, .test f v, h, hl, _ => by
    unfold th
    have k := hl (f, v) (by rw [tl_eq]; exact List.mem_append_left _ List.mem_cons_self)
    refine ⟨⟨by decide +kernel, by decide⟩, by show 2 < 1000; decide, fun x hx => ?_⟩
    rcases List.mem_cons.mp hx with rfl | hx
    · exact ⟨h.1, k.1⟩
    · rw [List.mem_singleton.mp hx]
      exact ⟨h.2, k.2⟩
  | n + 1, .node k cs, h, hl, hk => by
    unfold th
    rw [ths_map]
    refine ⟨⟨h.1, hk _ (by rw [allp_eq]; exact List.mem_cons_self) k cs rfl⟩, by rw [List.length_map]; exact h.2.2.2.1, fun x hx => ?_⟩
    obtain ⟨c, hc, rfl⟩ := List.mem_map.mp hx
    refine Wn.wt (h.2.2.2.2 c hc) (fun p hp => hl p (tl_part (c := .node k cs) hc hp)) fun q hq => hk q ?_
    rw [allp_eq]
    exact List.mem_cons_of_mem _ (List.mem_flatMap.mpr ⟨c, hc, hq⟩)
/-! ### comprehensions that make data (no bag) -/
theorem lc_dat {J : It} {n : Nat} {G : Hp → Prop} {Y : Nat → Hp → V → Hp → Prop} (w : Walk J n G Y) {g : TG} {tt : TT} {te : TE} {vs : List Nat} {σ : L2.St} {H1 : Hp} {D : Addr} {Qd : Hp → Prop} (S : List Addr) (hD : H1 D = none) (P : Nat → V → Hp → Prop) (hP : ∀ i y H H', Same H H' → P i y H → P i y H') (hG : ∀ H, Same H1 H → G H) (hn : n < 100000)
    (hs : ∀ i x H H' (Qe : V → Hp → Prop) (Z : Hp → Prop), i < n → Same H1 H → Same (dl H1 S) (dl H (D :: S)) → (∃ xs, H D = some (.lst xs)) → (∀ y H4, Same H H4 → P i y (dl H4 (D :: S)) → Qe y H4) → Y i H x H' → g x (wipe σ vs) H' fun σ2 H2 => wipe σ2 vs = wipe σ vs ∧ tt σ2 H2 fun bb H3 => if bb = true then te σ2 H3 Qe else Z H3)
    (hd : ∀ H ys, Same H1 H → ys.length = n → H D = some (.lst ys) → (∀ (i : Nat) y, ys[i]? = some y → P i y (dl H (D :: S))) → Qd H) :
    ∃ W : Nat → Nat → Hp → Prop, (∃ m, W 0 m (upd H1 D (.lst []))) ∧ ∀ i m H, W i m H →
      (J.stop i H ∧ Qd H) ∨ (J.go i H ∧ ∃ Nx : Hp → Prop, (∀ H', Nx H' → ∃ m', m' < m ∧ W (i + 1) m' H') ∧ ∀ x H', J.yld i H x H' → g x (wipe σ vs) H' fun σ2 H2 => wipe σ2 vs = wipe σ vs ∧ tt σ2 H2 fun b H3 =>
        if b = true then te σ2 H3 fun y H4 => ∃ acc, H4 D = some (.lst acc) ∧ acc.length < sizeLine ∧ Nx (upd H4 D (.lst (acc ++ [y]))) else Nx H3) := by
  refine lc_it w (fun i H => Same H1 H ∧ ∃ ys, H D = some (.lst ys) ∧ ys.length = i ∧ ∀ (i : Nat) y, ys[i]? = some y → P i y (dl H (D :: S))) ⟨same_new hD, [], upd_same, rfl, fun _ _ h => by simp at h⟩ (fun i H _ h => hG H h.1) ?_ ?_
  · rintro i x H H' hi ⟨sm, ys, hy, hl, hp⟩ y
    refine hs i x H H' _ _ hi sm (fun a o e => ?_) ⟨ys, hy⟩ (fun y H4 s4 p4 => ⟨ys, s4 D _ hy, szt (by omega), fun a o e => ?_, ys ++ [y], upd_same, by simp [hl], fun j z hz => ?_⟩) y
    · obtain ⟨h1, h2⟩ := dl_some e
      rw [dl_ne (fun z => (List.mem_cons.mp z).elim (fun z => ne_of_none h2 hD z) h1)]
      exact sm a o h2
    · rw [upd_ne (ne_of_none e hD)]
      exact s4 a o (sm a o e)
    · rw [dl_upd List.mem_cons_self]
      by_cases hj : j < ys.length
      · rw [List.getElem?_append_left hj] at hz
        exact hP j z _ _ (dl_mono s4) (hp j z hz)
      · have ej : j = i := by
          have := (List.getElem?_eq_some_iff.mp hz).1
          rw [List.length_append, List.length_singleton] at this
          omega
        subst ej
        rw [List.getElem?_append_right (by omega), hl, Nat.sub_self] at hz
        cases hz
        exact p4
  · rintro H ⟨sm, ys, hy, hl, hp⟩
    exact hd H ys sm hl hy hp
/-! ### the stack of is_condition -/
abbrev It2 := Th × Nat
def itD (p : It2) : PyData := .tuple [toT p.1, .int p.2]
def okW (W : List It2) : Bool := W.all fun p => isT (9 - p.2) p.1
def cntW (W : List It2) : Nat := (W.map fun p => cnt p.1).sum
theorem cnt_pos (t : Th) : 1 ≤ cnt t := by rw [cnt_eq]; omega
theorem okW_app (A B : List It2) : okW (A ++ B) = (okW A && okW B) := by unfold okW; rw [List.all_append]
theorem cntW_app (A B : List It2) : cntW (A ++ B) = cntW A + cntW B := by unfold cntW; rw [List.map_append, List.sum_append]
theorem okW_kids (t : Th) (d : Nat) : okW ((kids t).map fun c => (c, d + 1)) = (kids t).all (isT (8 - d)) := by
  unfold okW
  rw [List.all_map]
  congr 1
  funext c
  show isT (9 - (d + 1)) c = _
  rw [show 9 - (d + 1) = 8 - d by omega]
theorem cntW_kids (t : Th) (d : Nat) : 1 + cntW ((kids t).map fun c => (c, d + 1)) = cnt t := by
  unfold cntW
  rw [List.map_map, cnt_eq]
  rfl
theorem isT_open {t : Th} {d : Nat} (h : d ≤ 8) : isT (9 - d) t = (form t && (kids t).all (isT (8 - d))) := by
  rw [show 9 - d = (8 - d) + 1 by omega]
  rfl
theorem form_tup {t : Th} (h : form t = true) : ∃ k xs, t = .tup k xs := by
  cases t with
  | str s => cases h
  | nil => cases h
  | tup k xs => exact ⟨k, xs, rfl⟩
theorem dpa_snoc {K : PySem.W.Frag} {H : Hp} : ∀ {ds : List PyData} {e : PyData} {ws : List V}, DpAll K H ws (ds ++ [e]) → ∃ ws0 w, ws = ws0 ++ [w] ∧ DpAll K H ws0 ds ∧ Dp K H w e
  | [], e, ws, h => by
    cases h with
    | cons h1 h2 =>
      cases h2
      exact ⟨[], _, rfl, .nil, h1⟩
  | d :: ds, e, ws, h => by
    cases h with
    | cons h1 h2 =>
      obtain ⟨ws0, w, rfl, k1, k2⟩ := dpa_snoc h2
      exact ⟨_ :: ws0, w, rfl, .cons h1 k1, k2⟩
theorem last_at' {α : Type} (xs : List α) (x : α) : (xs ++ [x])[(xs ++ [x]).length - 1]? = some x := by
  rw [List.length_append, List.length_singleton, Nat.add_sub_cancel, List.getElem?_append_right (Nat.le_refl _), Nat.sub_self]
  rfl
/-! ### expressions that make data -/
section
variable {K : PySem.W.Frag} {S : List Addr} {σ : L2.St} {H : Hp}
def EvD (K : PySem.W.Frag) (S : List Addr) (σ : L2.St) (H : Hp) (te : TE) (d : PyData) : Prop := ∀ H1, Same H H1 → ∀ Q : VK, (∀ v H2, Same H1 H2 → Dp K (dl H2 S) v d → Q v H2) → te σ H1 Q
def EvDs (K : PySem.W.Frag) (S : List Addr) (σ : L2.St) (H : Hp) (ta : TA) (ds : List PyData) : Prop := ∀ H1, Same H H1 → ∀ Q : List V → Hp → Prop, (∀ vs H2, Same H1 H2 → DpAll K (dl H2 S) vs ds → Q vs H2) → ta σ H1 Q
theorem evd_str {s : Str} : EvD K S σ H (tC (.str s)) (.str s) := fun H1 _ _ q => q _ H1 (Same.refl _) (.str _)
theorem evd_int {i : Int} : EvD K S σ H (tC (.int i)) (.int i) := fun H1 _ _ q => q _ H1 (Same.refl _) (.int _)
theorem evd_bl {b : Bool} : EvD K S σ H (tC (.bl b)) (.bool b) := fun H1 _ _ q => q _ H1 (Same.refl _) (.bl _)
theorem evd_var {i : Nat} {v : V} {d : PyData} (h : σ[i]? = some (some v)) (hd : Dp K (dl H S) v d) : EvD K S σ H (tVar i) d := fun H1 s1 _ q => ⟨v, h, q v H1 (Same.refl _) (dp_mono (dl_mono s1) hd)⟩
theorem evds_nil : EvDs K S σ H tNil [] := fun H1 _ _ q => q [] H1 (Same.refl _) .nil
theorem evds_cons {te : TE} {ta : TA} {d : PyData} {ds : List PyData} (h : EvD K S σ H te d) (hs : EvDs K S σ H ta ds) : EvDs K S σ H (tCons te ta) (d :: ds) := fun H1 s1 Q q =>
  h H1 s1 _ fun v H2 s2 hv => hs H2 (s1.trans s2) _ fun vs H3 s3 hvs => q (v :: vs) H3 (s2.trans s3) (.cons (dp_mono (dl_mono s3) hv) hvs)
theorem evd_tup {ta : TA} {ds : List PyData} (tr : Tr H S) (h : EvDs K S σ H ta ds) (hl : ds.length ≤ 1000) : EvD K S σ H (tTup ta) (.tuple ds) := fun H1 s1 Q q =>
  h H1 s1 _ fun vs H2 s2 hvs => ⟨szl (by rw [dpa_len hvs]; omega), fun p hp => by
    have tr2 : Tr H2 S := tr.same (s1.trans s2)
    exact q _ _ (s2.trans (same_new hp)) (.tup (SqT.of (dl_upd_at tr2 hp)) (dpa_mono (dl_same_new tr2 hp) hvs))⟩
/-- a new list of data -/
theorem evd_lst {ta : TA} {ds : List PyData} {Q : VK} (h : EvDs K S σ H ta ds) (hl : ds.length ≤ 1000) (q : ∀ (p : Addr) (xs : List V) (H2 : Hp), Same H H2 → H2 p = none → DpAll K (dl H2 S) xs ds → Q (.ref p) (upd H2 p (.lst xs))) : tLst ta σ H Q :=
  h H (Same.refl _) _ fun vs H2 s2 hvs => ⟨szl (by rw [dpa_len hvs]; omega), fun p hp => q p vs H2 s2 hp hvs⟩
end
theorem walk_rangeL {lo : Int} {n : Nat} : Walk (Itr lo n) ((List.range n).map fun i => V.int (lo + (i : Nat))).length (fun _ => True) (YAt ((List.range n).map fun i => V.int (lo + (i : Nat)))) := by
  rw [List.length_map, List.length_range]
  refine walk_range.mono (fun _ h => h) fun i H x H' hi _ ⟨h1, h2⟩ => ⟨h1, ?_⟩
  rw [List.getElem?_map, List.getElem?_range hi, h2]
  rfl
theorem cut_take {x : List V} {i : Int} (h0 : 0 ≤ i) (h1 : i < (x.length : Int)) : cutV x none (some i) = x.take i.toNat ∧ ¬ (HT.sIx x.length 0 none = 0 ∧ HT.sIx x.length x.length (some i) = x.length) := by
  obtain ⟨k, rfl⟩ : ∃ k : Nat, i = k := ⟨i.toNat, by omega⟩
  have hk : k < x.length := by omega
  constructor
  · unfold cutV
    rw [HT.sIx_none, HT.sIx_nat, List.drop_zero, Nat.sub_zero, Int.toNat_natCast, Nat.min_eq_left (by omega)]
  · rintro ⟨_, h⟩
    rw [HT.sIx_nat, Nat.min_eq_left (by omega)] at h
    omega
theorem cut_drop {x : List V} {i : Int} (h0 : 1 ≤ i) (hx : 1 ≤ x.length) : cutV x (some i) none = x.drop i.toNat ∧ ¬ (HT.sIx x.length 0 (some i) = 0 ∧ HT.sIx x.length x.length none = x.length) := by
  obtain ⟨k, rfl⟩ : ∃ k : Nat, i = k := ⟨i.toNat, by omega⟩
  constructor
  · unfold cutV
    rw [HT.sIx_none, HT.sIx_nat, Int.toNat_natCast]
    by_cases hk : k ≤ x.length
    · rw [Nat.min_eq_left hk]
      apply List.take_of_length_le
      rw [List.length_drop]
      omega
    · rw [Nat.min_eq_right (by omega), Nat.sub_self, List.take_zero, List.drop_of_length_le (by omega)]
  · rintro ⟨h, _⟩
    rw [HT.sIx_nat] at h
    omega
theorem eqv_nilT : PyData.eqv (toT .nil) (.tuple []) = true := by unfold toT; simp [PyData.eqv, PyData.eqvAll]
theorem eqv_tupT (k : Str) (xs : List Th) : PyData.eqv (toT (.tup k xs)) (.tuple []) = false := by unfold toT; simp [PyData.eqv, PyData.eqvAll]
theorem eqv_rest (ds : List PyData) : PyData.eqv (.tuple ds) (.tuple []) = ds.isEmpty := by
  cases ds <;> simp [PyData.eqv, PyData.eqvAll]
def isTup : Th → Bool
  | .tup _ _ => true
  | _ => false
theorem ints_deep {zs : List Int} {n : Nat} (hl : zs.length < 50000) : deep (n + 2) (.list (zs.map PyData.int)) = true :=
  deep_list_of (by rw [List.length_map]; exact hl) fun d hd => by
    obtain ⟨z, _, rfl⟩ := List.mem_map.mp hd
    unfold deep
    rfl
theorem places_of {n : Nat} (p : V → Bool) : ∃ zs : List Int, (((List.range n).map fun i => V.int (1 + (i : Nat))).filter p).map (fun v => v) = zs.map V.int ∧ zs.length ≤ n ∧ ∀ z ∈ zs, ∃ i : Nat, i < n ∧ z = 1 + (i : Int) ∧ p (.int z) = true := by
  refine ⟨((List.range n).filter fun i => p (.int (1 + (i : Nat)))).map fun i => 1 + ((i : Nat) : Int), ?_, ?_, fun z hz => ?_⟩
  · rw [List.map_id', List.filter_map, List.map_map]
    rfl
  · rw [List.length_map]
    refine Nat.le_trans (List.length_filter_le _ _) ?_
    rw [List.length_range]
    exact Nat.le_refl _
  · obtain ⟨i, hi, rfl⟩ := List.mem_map.mp hz
    obtain ⟨h1, h2⟩ := List.mem_filter.mp hi
    exact ⟨i, List.mem_range.mp h1, rfl, h2⟩
theorem wt_s {n : Nat} {s : Str} (h : PyData.strOk s = true ∧ s.length ≤ 1000) : WT (n + 1) (.str s) := h
theorem wt_t {n : Nat} {k : Str} {xs : List Th} (h : PyData.strOk k = true ∧ k.length ≤ 1000) (hl : xs.length < 1000) (hx : ∀ x ∈ xs, WT n x) : WT (n + 1) (.tup k xs) := ⟨h, hl, hx⟩
theorem wta_nil {n : Nat} : ∀ x ∈ ([] : List Th), WT n x := fun _ h => nomatch h
theorem wta_cons {n : Nat} {t : Th} {ts : List Th} (h : WT n t) (hs : ∀ x ∈ ts, WT n x) : ∀ x ∈ t :: ts, WT n x := fun x hx => by
  rcases List.mem_cons.mp hx with rfl | hx
  · exact h
  · exact hs x hx
def isTh : Th → Bool
  | .str _ => false
  | _ => true
def sOk (s : Str) : Prop := PyData.strOk s = true ∧ s.length ≤ 1000
theorem Gd.wt {fs : List Fld} (hf : ∀ f ∈ fs, sOk f.1 ∧ ∀ m ∈ f.2, sOk m) : ∀ {n : Nat} {c : Cd}, Gd fs n c → WT (n + 1) (th c) ∧ isTh (th c) = true
  | n + 1, .any, _ => by unfold th; exact ⟨wt_t ⟨by decide +kernel, by decide⟩ (by decide) wta_nil, rfl⟩
  | n + 1, .test f v, h => by
    obtain ⟨fl, hfl, rfl, hv⟩ := h
    unfold th
    exact ⟨wt_t ⟨by decide +kernel, by decide⟩ (by show 2 < 1000; decide) (wta_cons (wt_s (hf fl hfl).1) (wta_cons (wt_s ((hf fl hfl).2 v hv)) wta_nil)), rfl⟩
  | n + 1, .node k cs, h => by
    unfold th
    rw [ths_map]
    refine ⟨wt_t ?_ ?_ fun x hx => ?_, rfl⟩
    · rcases h.1 with ⟨rfl, _⟩ | ⟨rfl | rfl, _⟩ <;> exact ⟨by decide +kernel, by decide⟩
    · rw [List.length_map]
      rcases h.1 with ⟨_, h⟩ | ⟨_, _, h⟩ <;> omega
    · obtain ⟨c, hc, rfl⟩ := List.mem_map.mp hx
      exact (Gd.wt hf (h.2 c hc)).1
theorem FnOk.some {ι : Type} {P : Program} {w : World} {K : PySem.W.Frag} {mg : Str → Option Value} {base : Heap} {CX : CXT} {k : Nat} {f : Addr} {fd : FuncData} {ps : List Str} {sp : ι → Sp} (F : ∀ i, FnOk P w K mg base CX k f fd ps (sp i)) : FnOk P w K mg base CX k f fd ps (fun vs H Q E => ∃ i, sp i vs H Q E) :=
  ⟨fun vs H Q E ⟨i, h⟩ => (F i).len vs H Q E h, fun A outer s H args us vs Q E hr e0 bd vl ⟨i, h⟩ => (F i).run A outer s H args us vs Q E hr e0 bd vl h⟩
theorem consists_nm {s : Str} (h : isNm s) : consists s nameC = true := by
  unfold consists allIn
  have hl : s.length = (cl s).length := rfl
  rw [decide_eq_true (by have := h.1; omega), decide_eq_true (by have := h.2.1; omega)]
  show (true && (true && _)) = true
  rw [Bool.true_and, Bool.true_and, List.all_eq_true]
  exact fun c hc => decide_eq_true (h.2.2 c hc)
theorem consists_vl {s : Str} (h : isVl s) : consists s valueC = true := by
  unfold consists allIn
  have hl : s.length = (cl s).length := rfl
  rw [decide_eq_true (by have := h.1; omega), decide_eq_true (by have := h.2.1; omega)]
  show (true && (true && _)) = true
  rw [Bool.true_and, Bool.true_and, List.all_eq_true]
  exact fun c hc => decide_eq_true (h.2.2 c hc)
/-- a test under i negations -/
def chain (f v : Str) : Nat → Th
  | 0 => .tup "test" [.str f, .str v]
  | i + 1 => .tup "not" [chain f v i]
theorem chain_isT {f v : Str} (h : testOk [.str f, .str v] = true) : ∀ (i n : Nat), isT n (chain f v i) = decide (i < n)
  | i, 0 => by rw [decide_eq_false (by omega)]; rfl
  | 0, n + 1 => by
    rw [decide_eq_true (by omega)]
    show (testOk [.str f, .str v] && ([] : List Th).all (isT n)) = true
    rw [h]
    rfl
  | i + 1, n + 1 => by
    show (true && ([chain f v i].all (isT n))) = _
    rw [Bool.true_and, List.all_cons, chain_isT h i n, List.all_nil, Bool.and_true]
    exact dec_p (by omega)
theorem chain_cnt (f v : Str) : ∀ i, cnt (chain f v i) = i + 1
  | 0 => by rw [cnt_eq]; rfl
  | i + 1 => by
    rw [cnt_eq]
    show 1 + (([chain f v i]).map cnt).sum = _
    rw [List.map_cons, List.map_nil, List.sum_cons, List.sum_nil, chain_cnt f v i]
    omega
theorem chain_wt {f v : Str} (hf : sOk f) (hv : sOk v) : ∀ i, WT (i + 2) (chain f v i)
  | 0 => wt_t ⟨by decide +kernel, by decide⟩ (by show 2 < 1000; decide) (wta_cons (wt_s hf) (wta_cons (wt_s hv) wta_nil))
  | i + 1 => wt_t ⟨by decide +kernel, by decide⟩ (by show 1 < 1000; decide) (wta_cons (chain_wt hf hv i) wta_nil)
/-- many times any -/
def wideT (m : Nat) : Th := .tup "or" (List.replicate m (.tup "any" []))
theorem wide_isT (m : Nat) : isT 8 (wideT m) = decide (2 ≤ m) := by
  show (decide (2 ≤ (List.replicate m (Th.tup "any" [])).length) && (List.replicate m (Th.tup "any" [])).all (isT 7)) = _
  rw [List.length_replicate]
  have : (List.replicate m (Th.tup "any" [])).all (isT 7) = true := List.all_eq_true.mpr fun x hx => by
    rw [List.eq_of_mem_replicate hx]
    rfl
  rw [this, Bool.and_true]
theorem wide_cnt (m : Nat) : cnt (wideT m) = m + 1 := by
  rw [cnt_eq]
  show 1 + ((List.replicate m (Th.tup "any" [])).map cnt).sum = _
  rw [List.map_replicate, show cnt (.tup "any" []) = 1 by rw [cnt_eq]; rfl, List.sum_replicate_nat]
  omega
theorem wide_wt {m : Nat} (h : m < 1000) : WT 2 (wideT m) := wt_t ⟨by decide +kernel, by decide⟩ (by rw [List.length_replicate]; exact h) fun x hx => by
  rw [List.eq_of_mem_replicate hx]
  exact wt_t ⟨by decide +kernel, by decide⟩ (by decide) wta_nil
end Hr

set_option Elab.async false
set_option linter.all false
set_option maxRecDepth 100000
set_option maxHeartbeats 4000000
namespace Hr
open PySem PySem.Spec PyProof.Rows L2
/-- the address that a global name holds -/
def adr : Option Value → Addr
  | some (.ref a) => a
  | _ => 0
/-! tuple(d), tuple(d.values()) of a dict -/
section
variable {pr : Program} {wd : World} {Ar : Around} {Er : Value → Shared → Prop} {st : Shared} {Ty : String} {ra da : Addr} {n : Nat} {P : Nat → Value → Prop} {Ok : Heap → Prop}
theorem gather_src {Q : List Value → Shared → Prop} (S : PySem.W.KdlSrc pr wd Ty ra da n P Ok) (hh : Ar.handled = none) (ok : Ok st.heap) (hn : n ≤ sizeLine)
    (hQ : ∀ (g : Heap) (tk : Nat) (got : Array Value), (∀ b o, st.heap.get? b = some o → g.get? b = some o) → ItemsOf P got n → Q got.toList { st with heap := g, toks := tk }) :
    wpAny (model pr wd) Ar (collect (.ref ra)) Q Er st := by
  unfold collect
  refine wpAny_bind (wpAny_runValue (codeAny_builtin PySem.F.entry_proto_collect ?_))
  rw [Around.under_plainId PySem.F.plain_proto_collect _]
  show wpAny _ Ar.in1 (newList [] >>= fun nl => again (.builtin "list.__iadd__" ⟨[nl, .ref ra], []⟩)) _ _ st
  refine wpAny_bind (wpAny_newObj_type ?_)
  refine wpAny_pure ⟨plainId_quiet PySem.F.plain_list_iadd _, codeAny_builtin PySem.F.entry_list_iadd ?_⟩
  rw [Around.under_plainId PySem.F.plain_list_iadd _]
  show wpAny _ Ar.in1 (Builtin.List.listExtendWith (.ref st.heap.objs.size) (.ref ra) (.ref st.heap.objs.size)) _ _ _
  have new : (st.heap.push { cls := .type "list", data := .seq ([] : List Value).toArray }).get? st.heap.objs.size = some { cls := .type "list", data := .seq #[] 0 } := Heap.get?_push_size _ rfl
  have lt := S.there _ ok
  refine wpAny_mono (PySem.W.kdl_extend (A := Ar) (s := { st with heap := st.heap.push { cls := .type "list", data := .seq ([] : List Value).toArray } }) (R := fun rr s' => rr = .ok (.ret (.ref st.heap.objs.size)) ∧ ∃ (g : Heap) (tk : Nat) (got : Array Value) (k : Nat), s' = { st with heap := g, toks := tk } ∧
      (∀ b o, st.heap.get? b = some o → g.get? b = some o) ∧ g.get? st.heap.objs.size = some { cls := .type "list", dict := none, data := .seq got k, slots := #[] } ∧ ItemsOf P got n)
    S hh (S.keep _ _ ok fun b _ o e => Heap.get?_push_of_some _ e) _ (Nat.ne_of_gt lt.1) (Nat.ne_of_gt lt.2) _ 0 new
    (fun g tk got k kp e hi => ⟨rfl, g, tk, got, k, rfl, fun b o q => kp b o (Nat.ne_of_lt (Heap.lt_size q)) (Heap.get?_push_of_some _ q), e, hi⟩) hn) (fun fin s' h => ?_) (fun e s' h => ?_)
  · cases fin with
    | done f =>
      obtain ⟨e, g, tk, got, k, rfl, kp, at', hi⟩ := h
      cases e
      show wpAny _ Ar (load st.heap.objs.size >>= _) _ _ _
      exact wpAny_bind (wpAny_load at' (wpAny_pure (hQ g tk got kp hi)))
    | again c =>
      refine ⟨h.1, codeAny_mono h.2 fun rr s'' hr => ?_⟩
      obtain ⟨rfl, g, tk, got, k, rfl, kp, at', hi⟩ := hr
      show wpAny _ Ar (load st.heap.objs.size >>= _) _ _ _
      exact wpAny_bind (wpAny_load at' (wpAny_pure (hQ g tk got kp hi)))
  · exact absurd h.1 (by simp)
theorem new_src {Q : Value → Shared → Prop} (S : PySem.W.KdlSrc pr wd Ty ra da n P Ok) (which : Ty = "dict" ∨ Ty = "dict_values") (hh : Ar.handled = none) (ok : Ok st.heap) (hn : n ≤ sizeLine)
    (hQ : ∀ (g : Heap) (tk : Nat) (got : Array Value), (∀ b o, st.heap.get? b = some o → g.get? b = some o) → ItemsOf P got n → Q (.ref g.objs.size) { st with heap := g.push { cls := .type "tuple", data := .seq got }, toks := tk }) :
    codeAny (model pr wd) Ar (.call (.builtin "tuple.__new__") ⟨[.type "tuple", .ref ra], []⟩) (wants Q Er) st := by
  refine codeAny_of_tree ?_
  show wpAny _ Ar.in1 (do checkBuiltinCall "tuple.__new__" ⟨[.type "tuple", .ref ra], []⟩; again (.builtin "tuple.__new__" ⟨[.type "tuple", .ref ra], []⟩)) _ _ st
  refine wpAny_bind (wpAny_of_eq (PySem.F.newCall_tuple_1 _) (wpAny_pure ⟨plainId_quiet PySem.F.plain_tuple_new _, codeAny_builtin PySem.F.entry_tuple_new ?_⟩))
  rw [Around.under_plainId PySem.F.plain_tuple_new _]
  have hsub := sub_tuple_self
  have hinit := init_tuple_lookup
  have hmh := madeHere_tuple
  have ty : st.TypeIs (.ref ra) Ty := S.type st ok
  have h1 : Ar.in1.handled = none := hh
  rcases which with rfl | rfl
  · wp_walk using wpAny_typeOf ty, gather_src (Ar := Ar.in1) S h1 ok hn
    intro g tk got kp hi
    show wpAny _ _ (Builtin.Tuple.tupleExact got.toList.toArray >>= fun v => ret v) _ _ _
    unfold Builtin.Tuple.tupleExact
    refine wpAny_bind (wpAny_newObj_type ?_ (by show got.toList.toArray.size ≤ sizeLine; rw [Array.toArray_toList, hi.1]; exact hn))
    refine wpAny_pure ?_
    rw [Array.toArray_toList]
    exact hQ g tk got kp hi
  · wp_walk using wpAny_typeOf ty, gather_src (Ar := Ar.in1) S h1 ok hn
    intro g tk got kp hi
    show wpAny _ _ (Builtin.Tuple.tupleExact got.toList.toArray >>= fun v => ret v) _ _ _
    unfold Builtin.Tuple.tupleExact
    refine wpAny_bind (wpAny_newObj_type ?_ (by show got.toList.toArray.size ≤ sizeLine; rw [Array.toArray_toList, hi.1]; exact hn))
    refine wpAny_pure ?_
    rw [Array.toArray_toList]
    exact hQ g tk got kp hi
theorem tuple_src {Q : Value → Shared → Prop} (S : PySem.W.KdlSrc pr wd Ty ra da n P Ok) (which : Ty = "dict" ∨ Ty = "dict_values") (hh : Ar.handled = none) (ok : Ok st.heap) (hn : n ≤ sizeLine)
    (hQ : ∀ (g : Heap) (tk : Nat) (got : Array Value), (∀ b o, st.heap.get? b = some o → g.get? b = some o) → ItemsOf P got n → Q (.ref g.objs.size) { st with heap := g.push { cls := .type "tuple", data := .seq got }, toks := tk }) :
    wpAny (model pr wd) Ar (call (.type "tuple") [.ref ra]) Q Er st := by
  refine callType_codes (Q₁ := fun ob s1 => s1.TypeIs ob "tuple" ∧ Q ob s1) PySem.F.called_tuple (PySem.F.typeCall_tuple_1 _) PySem.F.entry_object_init
    (new_src (Ar := Ar.in1) S which hh ok hn fun g tk got kp hi => ⟨⟨_, Heap.get?_push_size _ rfl, rfl⟩, hQ g tk got kp hi⟩) fun ob s1 h1 => ?_
  exact ⟨h1.1, PySem.F.args_object_init_2 ob _, object_init_meets PySem.F.called_tuple.init.lookup PySem.F.called_tuple.made (by decide) pr wd Ar.in1 _ s1 ⟨h1.1, rfl, h1.2⟩⟩
end
section
variable {X : Cx}
theorem vals_by : ∀ {xs : List V} {us : List Value}, xs.length = us.length → (∀ (j : Nat) (x : V) (u : Value), xs[j]? = some x → us[j]? = some u → RelV x u) → Vals xs us
  | [], [], _, _ => .nil
  | [], _ :: _, h, _ => by simp at h
  | _ :: _, [], h, _ => by simp at h
  | x :: xs, u :: us, h, f => .cons (f 0 x u rfl rfl) (vals_by (Nat.succ.inj h) fun j y v h1 h2 => f (j + 1) y v h1 h2)
/-- tuple(d): its keys -/
def rTupD : List V → Hp → VK → Prop := fun xs H Q => ∃ (p : Addr) (kvs : List (Key × V)), xs = [.ref p] ∧ H p = some (.dK kvs) ∧ ∀ (q : Addr) (o : Obj), H q = none → o.dict = none → Q (.ref q) (upd H q (.frz o (.tup (kvs.map fun kv => kV kv.1))))
theorem call_tupD (hc : X.calm = true) : CallR X (.type "tuple") rTupD := by
  intro pins s σ H xs us Q I r h
  obtain ⟨p, kvs, rfl, hk, q⟩ := h
  obtain ⟨u, rfl, rx⟩ := vals1 r
  obtain rfl : u = Value.ref p := rx
  obtain ⟨z, lo, vs, rk, hd⟩ := dk_of I.hok hk
  obtain ⟨ep, hat⟩ := hd.dictAt
  have hl : kvs.length = vs.length := KV.length rk
  refine tuple_src (PySem.W.kdl_dict (knd := mixKind X.prog X.w) (kvs := vs) (ep := ep) lo) (.inl rfl) (I.ok.hd hc) hat (by rw [← hl]; exact z) fun g tk got kp hi => ?_
  have I1 : Inv X pins σ H { s with heap := g, toks := tk } := I.kept (t' := tk) kp
  have rv : Vals (kvs.map fun kv => kV kv.1) got.toList := by
    refine vals_by ((List.length_map _).trans (hl.trans (hi.1.symm.trans Array.length_toList.symm))) fun j x u h1 h2 => ?_
    obtain ⟨k, y, hky, hks⟩ := hi.2 j u (by rw [← Array.getElem?_toList]; exact h2)
    obtain ⟨x', e1, _⟩ := KV.at' rk hky
    rw [List.getElem?_map, e1] at h1
    cases h1
    exact keyIs_rel hks
  have I2 : Inv X pins σ (upd H g.objs.size (.frz { cls := .type "tuple", data := .seq got } (.tup (kvs.map fun kv => kV kv.1)))) { s with heap := g.push { cls := .type "tuple", data := .seq got }, toks := tk } :=
    I1.laid (t' := tk) (fun b o e => Heap.get?_push_of_some _ e) (Nat.le_refl _) (show ObjOk X.prog X.w _ _ _ (.frz _ (.tup _)) from ⟨Heap.get?_push_size _ rfl, by rw [List.length_map]; exact z, got.toList, rv, by rw [Array.toArray_toList]; exact IsTup.new _ _⟩)
  exact ⟨.ref g.objs.size, _, I2, rfl, q _ _ (I1.hok.fresh (Nat.le_refl _)) rfl⟩
/-- tuple(d.values()): its values -/
def tTupVals (td : TE) : TE := fun σ H Q => td σ H fun x H1 => ∃ a kvs, x = V.ref a ∧ H1 a = some (.dK kvs) ∧ ∀ q, H1 q = none → Q (.ref q) (upd H1 q (.tup (kvs.map (·.2))))
variable {o : Expr} {p pos apos mpos : Pos} {td : TE}
/-- t.index(x), t a tuple of texts whose object is known -/
def tTupIx (to : TE) (t : TA) : TE := fun σ H Q => to σ H fun x H1 => ∃ (p : Addr) (ys : List Str) (ob : Obj), x = .ref p ∧ H1 p = some (.frz ob (.tup (ys.map V.str))) ∧ ob.dict = none ∧ t σ H1 fun xs H2 => ∃ (z : Str) (j : Nat), xs = [.str z] ∧ H2 p = some (.frz ob (.tup (ys.map V.str))) ∧ ys[j]? = some z ∧ (∀ m, m < j → ys[m]? ≠ some z) ∧ Q (.int (j : Nat)) H2
theorem pe_tupIx {e : Expr} {t : TA} {apos cpos : Pos} (ho : PE X o td) (ha : PA X [e] t) (hbase : attributeBase o "index" X.env (eval o X.env) = eval o X.env := by rfl)
    (hfew : ((backTo cpos (starEach [e] X.env)).all (fun x => !x.1) && (backToKw cpos (keywordEach [] X.env)).all (fun x => x.1.isSome)
      && decide ([e].length + ([] : List Keyword).length + (if ([] : List Keyword).isEmpty then 0 else 1) < 30)) = true := by rfl)
    (hline : (apos.endLine == cpos.line) = true := by rfl) (hs : starEach [e] X.env = (false, eval e X.env) :: starEach [] X.env := by rfl) :
    PE X (.Call (.Attribute o "index" apos) [e] [] cpos) (tTupIx td t) := by
  refine ⟨fun pins s σ H Q I h => ?_⟩
  refine wpAny_Call_method_late hbase hfew hline rfl (thn (ho.run pins s σ H _ I h) fun v s1 ⟨x, H1, I1, r1, pp, ys, ob, ex, hp, hdn, q1⟩ => ?_)
  subst ex
  obtain rfl : v = Value.ref pp := r1
  obtain ⟨hob, _, its, _, pl⟩ := (show ObjOk X.prog X.w H1 s1.heap pp (.frz ob (.tup (ys.map V.str))) from I1.hok pp _ hp)
  have hty : s1.TypeIs (.ref pp) "tuple" := let ⟨o', ho', hc', _⟩ := pl; ⟨o', ho', hc'⟩
  refine ⟨"tuple", "tuple.index", PySem.F.plainAttrs_tuple, PySem.F.slot_tuple_index, PySem.F.type_tuple_index, hty, fun b eb => ?_, ?_⟩
  · cases eb
    exact ⟨ob, hob, hdn⟩
  have hA := ha.run cpos pins s1 σ H1 _ I1 q1
  rw [hs] at hA ⊢
  refine Calls.callWith_builtin rfl (Calls.evalArgs_plain ?_)
  refine thn hA fun us s2 ⟨vs, H2, I2, r2, z, j, ey, hp2, hj, hno, q2⟩ => ?_
  subst ey
  exact mt_tup_index pins s2 σ H2 (.ref pp) [.str z] (.ref pp) us Q I2 rfl r2 ⟨pp, ys, z, j, rfl, rfl, .inl (.inr ⟨ob, hp2⟩), hj, hno, q2⟩
theorem pe_tupVals (hc : X.calm = true) (hg : Gl X "tuple") (hm : X.mg "tuple" = none) (hd : PE X o td) (hbase : attributeBase o "values" X.env (eval o X.env) = eval o X.env := by rfl) (hline : (apos.endLine == mpos.line) = true := by rfl)
    (na : starEach [Expr.Call (.Attribute o "values" apos) [] [] mpos] X.env = (false, eval (Expr.Call (.Attribute o "values" apos) [] [] mpos) X.env) :: starEach [] X.env := by rfl) :
    PE X (.Call (.Name "tuple" p) [.Call (.Attribute o "values" apos) [] [] mpos] [] pos) (tTupVals td) := by
  refine ⟨fun pins s σ H Q I h => ?_⟩
  refine Call_ (ld_blt I hg hm boot_tuple (PyProof.Rows.callWith_type1 (args_cons ?_ na) na))
  refine wpAny_Call_method0_late hbase hline (thn (hd.run pins s σ H _ I h) fun v s1 ⟨x, H1, I1, r1, a, kvs, ex, ha, q⟩ => ?_)
  subst ex
  obtain rfl : v = Value.ref a := r1
  obtain ⟨z, lo, vs, rk, dof⟩ := dk_of I1.hok ha
  obtain ⟨ep, dat⟩ := dof.dictAt
  have dat' := dat
  obtain ⟨ob, es, ho, ex, hdat, hko, hpr, hnd⟩ := dat'
  have hl : kvs.length = vs.length := KV.length rk
  refine ⟨"dict", "dict.values", PySem.F.plainAttrs_dict, PySem.F.slot_dict_values, PySem.F.type_dict_values, ⟨ob, ho, ex.1⟩, fun b e => ?_, Calls.callWith_builtin rfl (PySem.evalArgs_none ?_)⟩
  · cases e
    exact ⟨ob, ho, ex.2.1⟩
  refine call_meetsIn PySem.F.slot_dict_values ⟨ob, ho, ex.1⟩ PySem.F.entry_dict_values (PySem.F.args_dict_values_1 _) (meets_dict_values (mixKind X.prog X.w) a lo) ⟨⟨vs, dof⟩, ?_⟩
  have k1 : ∀ b u, s1.heap.get? b = some u → (s1.heap.push { cls := .type "dict_values", data := .fields #[.ref a] }).get? b = some u := fun b u e => Heap.get?_push_of_some _ e
  refine args_nil ?_
  refine tuple_src (PySem.W.kdl_values (r := s1.heap.objs.size) (knd := mixKind X.prog X.w) (kvs := vs) (ep := ep)) (.inr rfl) (I1.ok.hd hc) ⟨⟨_, Heap.get?_push_size _ rfl, rfl, rfl⟩, dat.keep k1⟩ (by rw [← hl]; exact z) fun g tk got kp hi => ?_
  have I2 : Inv X pins σ H1 { s1 with heap := g, toks := tk } := I1.kept (t' := tk) fun b u e => kp b u (k1 b u e)
  have rv : Vals (kvs.map (·.2)) got.toList := by
    refine vals_by ((List.length_map _).trans (hl.trans (hi.1.symm.trans Array.length_toList.symm))) fun j x u h1 h2 => ?_
    obtain ⟨k, hky⟩ := hi.2 j u (by rw [← Array.getElem?_toList]; exact h2)
    obtain ⟨x', e1, e2⟩ := KV.at' rk hky
    rw [List.getElem?_map, e1] at h1
    cases h1
    exact e2
  have I3 : Inv X pins σ (upd H1 g.objs.size (.tup (kvs.map (·.2)))) { s1 with heap := g.push { cls := .type "tuple", data := .seq got }, toks := tk } :=
    I2.laid (t' := tk) (fun b o e => Heap.get?_push_of_some _ e) (Nat.le_refl _) (show ObjOk X.prog X.w _ _ _ (.tup _) from ⟨by rw [List.length_map]; exact z, got.toList, rv, by rw [Array.toArray_toList]; exact IsTup.new _ _⟩)
  exact ⟨.ref g.objs.size, _, I3, rfl, q _ (I2.hok.fresh (Nat.le_refl _))⟩
end
end Hr

set_option Elab.async false
set_option linter.all false
set_option maxRecDepth 100000
set_option maxHeartbeats 4000000
namespace Hr
open PySem PySem.Spec PyProof.Rows L2
/-! schemas -/
theorem strs_inv {K : PySem.W.Frag} {H : Hp} : ∀ {vs : List V} {ss : List Str}, DpAll K H vs (ss.map PyData.str) → vs = ss.map V.str
  | _, [], h => by cases h; rfl
  | _, s :: r, h => by
    cases h with
    | cons a t =>
      cases a
      rw [List.map_cons, ← strs_inv t]
theorem inV_str (s : Str) (ss : List Str) : inV (.str s) (ss.map V.str) = decide (s ∈ ss) := by
  induction ss with
  | nil => rfl
  | cons x r ih =>
    have e : inV (.str s) ((x :: r).map V.str) = (eqV (.str x) (.str s) || inV (.str s) (r.map V.str)) := rfl
    rw [e, ih]
    have e2 : eqV (.str x) (.str s) = decide (s = x) := beq_dec x s
    rw [e2, Bool.eq_iff_iff]
    simp
theorem flat_strs (ss : List Str) : (ss.map V.str).all flatV = true := by
  rw [List.all_map, List.all_eq_true]
  intro x _
  rfl
theorem take_step {α : Type} {l : List α} {i : Nat} {x : α} (h : l[i]? = some x) : l.take (i + 1) = l.take i ++ [x] := by
  rw [List.take_add_one, h]
  rfl
theorem nodup_take {α : Type} {l : List α} {i : Nat} {x : α} (n : l.Nodup) (h : l[i]? = some x) : x ∉ l.take i := by
  intro m
  obtain ⟨j, hj⟩ := List.mem_iff_getElem?.mp m
  have hji : j < i := by
    have h1 := (List.getElem?_eq_some_iff.mp hj).1
    rw [List.length_take] at h1
    omega
  rw [List.getElem?_take_of_lt hji] at hj
  have h1 := (List.getElem?_eq_some_iff.mp hj).1
  exact absurd ((List.getElem?_inj h1 n).mp (hj.trans h.symm)) (Nat.ne_of_lt hji)
/-- p holds no list and no tuple -/
def NoSq (H : Hp) (p : Addr) : Prop := (∀ xs, H p ≠ some (.lst xs)) ∧ (∀ xs, H p ≠ some (.tup xs)) ∧ ∀ o u, H p ≠ some (.frz o u)
theorem noSq_ins {H : Hp} {p C dx : Addr} {fs : List (Str × V)} (h : H p = some (.ins C dx fs)) : NoSq H p := by
  refine ⟨fun _ z => ?_, fun _ z => ?_, fun _ _ z => ?_⟩ <;> (rw [h] at z; cases z)
theorem noSq_dk {H : Hp} {p : Addr} {kvs : List (Key × V)} (h : H p = some (.dK kvs)) : NoSq H p := by
  refine ⟨fun _ z => ?_, fun _ z => ?_, fun _ _ z => ?_⟩ <;> (rw [h] at z; cases z)
theorem rd_off {H H' : Hp} {p a : Addr} {u : HO} (n : H p ≠ some u) (nf : ∀ o u, H p ≠ some (.frz o u)) (e : ∀ b o, b ≠ p → H b = some o → H' b = some o) (h : Rd H a u) : Rd H' a u := by
  rcases h with h | ⟨o, h⟩
  · exact .inl (e _ _ (fun z => n (by rw [← z]; exact h)) h)
  · exact .inr ⟨o, e _ _ (fun z => nf o u (by rw [← z]; exact h)) h⟩
mutual
theorem dp_off {K : PySem.W.Frag} {H H' : Hp} {p : Addr} (n : NoSq H p) (e : ∀ b o, b ≠ p → H b = some o → H' b = some o) : ∀ {v : V} {d : PyData}, Dp K H v d → Dp K H' v d
  | _, _, .non => .non
  | _, _, .bl b => .bl b
  | _, _, .int i => .int i
  | _, _, .str x => .str x
  | _, _, .lst h t => .lst (h.elim (fun h => .inl (rd_off (n.1 _) n.2.2 e h)) .inr) (dpa_off n e t)
  | _, _, .tup h t => .tup (h.elim (fun h => .inl (rd_off (n.2.1 _) n.2.2 e h)) .inr) (dpa_off n e t)
theorem dpa_off {K : PySem.W.Frag} {H H' : Hp} {p : Addr} (n : NoSq H p) (e : ∀ b o, b ≠ p → H b = some o → H' b = some o) : ∀ {vs : List V} {ds : List PyData}, DpAll K H vs ds → DpAll K H' vs ds
  | _, _, .nil => .nil
  | _, _, .cons h t => .cons (dp_off n e h) (dpa_off n e t)
end
/-- how many requests a schema of these fields has -/
def tot : List Fld → Nat
  | [] => 1
  | f :: r => f.2.length * tot r
theorem tot_snoc (l : List Fld) (f : Fld) : tot (l ++ [f]) = tot l * f.2.length := by
  induction l with
  | nil => simp [tot]
  | cons x r ih =>
    show x.2.length * tot (r ++ [f]) = x.2.length * tot r * f.2.length
    rw [ih, Nat.mul_assoc]
theorem valV_none {kvs : List (Key × V)} {k : Key} (h : k ∉ kvs.map (·.1)) : valV kvs k = none := by
  unfold valV
  rw [Option.map_eq_none_iff, List.find?_eq_none]
  intro x hx z
  exact h (List.mem_map.mpr ⟨x, hx, of_decide_eq_true z⟩)
theorem fieldOk_nm {s : Str} (h : isNm s) (h2 : s ≠ "any") : fieldOk s = true := by
  unfold fieldOk
  rw [consists_nm h]
  simp [h2]
def labD (fs : List Fld) : PyData := .tuple (fs.map fun f => .str f.1)
def valD (f : Fld) : PyData := .tuple (f.2.map PyData.str)
def choD (fs : List Fld) : PyData := .tuple (fs.map valD)
def sch (a c : V) (n : Int) : List (Str × V) := putF "total" (.int n) (putF "choices" c (putF "labels" a []))
theorem sch_labels (a c : V) (n : Int) : (sch a c n).lookup ("labels" : Str) = some a := by
  unfold sch
  rw [lookup_putF, if_neg (by decide +kernel), lookup_putF, if_neg (by decide +kernel), lookup_putF, if_pos rfl]
theorem sch_choices (a c : V) (n : Int) : (sch a c n).lookup ("choices" : Str) = some c := by
  unfold sch
  rw [lookup_putF, if_neg (by decide +kernel), lookup_putF, if_pos rfl]
theorem sch_total (a c : V) (n : Int) : (sch a c n).lookup ("total" : Str) = some (.int n) := by
  unfold sch
  rw [lookup_putF, if_pos rfl]
theorem sch_no (a c : V) (n : Int) {m : Str} (h1 : ¬ m = "total") (h2 : ¬ m = "choices") (h3 : ¬ m = "labels") : (sch a c n).lookup m = none := by
  unfold sch
  rw [lookup_putF, if_neg h1, lookup_putF, if_neg h2, lookup_putF, if_neg h3]
  rfl
theorem putF_len (k : Str) (v : V) : ∀ l : List (Str × V), (putF k v l).length ≤ l.length + 1
  | [] => Nat.le_refl _
  | (a, b) :: r => by
    show (if a = k then (a, v) :: r else (a, b) :: putF k v r).length ≤ r.length + 2
    have := putF_len k v r
    split
    · show r.length + 1 ≤ r.length + 2
      omega
    · show (putF k v r).length + 1 ≤ r.length + 2
      omega
theorem keys_str {kvs : List (Key × V)} {fs : List Fld} (h : kvs.map (·.1) = fs.map fun f => (Sum.inr f.1 : Key)) : (kvs.map fun kv => kV kv.1) = (fs.map (·.1)).map V.str := by
  have e : (kvs.map fun kv => kV kv.1) = (kvs.map (·.1)).map kV := by rw [List.map_map]; rfl
  rw [e, h, List.map_map, List.map_map]
  rfl
/-- the names of the fields as a tuple whose object is known -/
def LabAt (H : Hp) (v : V) (fs : List Fld) : Prop := ∃ (a : Addr) (o : Obj), v = .ref a ∧ o.dict = none ∧ H a = some (.frz o (.tup ((fs.map (·.1)).map V.str)))
/-- a tuple whose object is known -/
def FTup (H : Hp) (a : Addr) (ys : List V) : Prop := ∃ o : Obj, o.dict = none ∧ H a = some (.frz o (.tup ys))
theorem FTup.sq {K : PySem.W.Frag} {H : Hp} {a : Addr} {ys : List V} (h : FTup H a ys) : SqT K H a ys := by
  obtain ⟨o, _, h⟩ := h
  exact .inl (.inr ⟨o, h⟩)
theorem FTup.same {H H' : Hp} {a : Addr} {ys : List V} (h : FTup H a ys) (s : Same H H') : FTup H' a ys := by
  obtain ⟨o, e, h⟩ := h
  exact ⟨o, e, s _ _ h⟩
theorem FTup.new {H : Hp} {a : Addr} {o : Obj} {ys : List V} (h : o.dict = none) : FTup (upd H a (.frz o (.tup ys))) a ys := ⟨o, h, upd_same⟩
/-- the tuples of the values: each one's object is known -/
def FrzAll (H : Hp) (xs : List V) (fs : List Fld) : Prop := xs.length = fs.length ∧ ∀ (i : Nat) x f, xs[i]? = some x → fs[i]? = some f → ∃ b, x = .ref b ∧ FTup H b (f.2.map V.str)
theorem FrzAll.same {H H' : Hp} {xs : List V} {fs : List Fld} (h : FrzAll H xs fs) (s : Same H H') : FrzAll H' xs fs := ⟨h.1, fun i x f hx hf => by
  obtain ⟨b, e, k⟩ := h.2 i x f hx hf
  exact ⟨b, e, k.same s⟩⟩
theorem FrzAll.off {H H' : Hp} {p : Addr} {xs : List V} {fs : List Fld} (h : FrzAll H xs fs) (n : NoSq H p) (e : ∀ b o, b ≠ p → H b = some o → H' b = some o) : FrzAll H' xs fs := ⟨h.1, fun i x f hx hf => by
  obtain ⟨b, e1, o, e2, e3⟩ := h.2 i x f hx hf
  exact ⟨b, e1, o, e2, e _ _ (fun z => n.2.2 o _ (by rw [← z]; exact e3)) e3⟩⟩
theorem FrzAll.nil {H : Hp} : FrzAll H [] [] := ⟨rfl, fun i x f hx _ => by simp at hx⟩
theorem FrzAll.snoc {H : Hp} {xs : List V} {fs : List Fld} {b : Addr} {f : Fld} (h : FrzAll H xs fs) (k : FTup H b (f.2.map V.str)) : FrzAll H (xs ++ [.ref b]) (fs ++ [f]) := by
  refine ⟨by rw [List.length_append, List.length_append, h.1]; rfl, fun i x g hx hg => ?_⟩
  have hl := h.1
  by_cases hi : i < xs.length
  · rw [List.getElem?_append_left hi] at hx
    rw [List.getElem?_append_left (by omega)] at hg
    exact h.2 i x g hx hg
  · have hi' : i = xs.length := by
      have := (List.getElem?_eq_some_iff.mp hx).1
      rw [List.length_append, List.length_singleton] at this
      omega
    subst hi'
    rw [List.getElem?_append_right (Nat.le_refl _), Nat.sub_self] at hx
    rw [hl, List.getElem?_append_right (Nat.le_refl _), Nat.sub_self] at hg
    cases hx
    cases hg
    exact ⟨b, rfl, k⟩
def ChoAt (H : Hp) (c : V) (fs : List Fld) : Prop := ∃ (ca : Addr) (xs : List V), c = .ref ca ∧ H ca = some (.tup xs) ∧ FrzAll H xs fs
theorem ChoAt.same {H H' : Hp} {c : V} {fs : List Fld} (h : ChoAt H c fs) (s : Same H H') : ChoAt H' c fs := by
  obtain ⟨ca, xs, e1, e2, e3⟩ := h
  exact ⟨ca, xs, e1, s _ _ e2, e3.same s⟩
theorem sch_inj {a c a' c' : V} {n n' : Int} (h : sch a c n = sch a' c' n') : c = c' := by
  have h1 := sch_choices a c n
  rw [h, sch_choices] at h1
  exact (Option.some.inj h1).symm
/-- a Schema of the fields fs stands at p -/
structure SchAt (K : PySem.W.Frag) (C : Addr) (H : Hp) (p : Addr) (fs : List Fld) : Prop where
  ob : ∃ (dx : Addr) (a c : V), H p = some (.ins C dx (sch a c (tot fs))) ∧ LabAt H a fs ∧ Dp K H c (choD fs)
  ch : ∀ (dx : Addr) (a c : V), H p = some (.ins C dx (sch a c (tot fs))) → ChoAt H c fs
theorem SchAt.same {K : PySem.W.Frag} {C : Addr} {H H' : Hp} {p : Addr} {fs : List Fld} (h : SchAt K C H p fs) (s : Same H H') : SchAt K C H' p fs := by
  obtain ⟨dx, a, c, h1, h2, h3⟩ := h.ob
  obtain ⟨b, o, e1, e2, e3⟩ := h2
  refine ⟨⟨dx, a, c, s _ _ h1, ⟨b, o, e1, e2, s _ _ e3⟩, dp_mono s h3⟩, fun dx' a' c' h' => ?_⟩
  rw [s _ _ h1] at h'
  injection h' with h'
  injection h' with _ _ h'
  rw [← sch_inj h']
  exact (h.ch dx a c h1).same s
/-- the digits of a number, the last field first -/
def digs : List Fld → Nat → List Str
  | [], _ => []
  | f :: r, n => f.2.getD (n % f.2.length) "" :: digs r (n / f.2.length)
def req (fs : List Fld) (n : Nat) : List Str := (digs fs.reverse n).reverse
theorem digs_len : ∀ (l : List Fld) (n : Nat), (digs l n).length = l.length
  | [], _ => rfl
  | f :: r, n => by
    show (digs r _).length + 1 = r.length + 1
    rw [digs_len r]
/-- what is left of the number behind the first fields of l -/
def left : List Fld → Nat → Nat
  | [], n => n
  | f :: r, n => left r (n / f.2.length)
theorem left_snoc : ∀ (l : List Fld) (f : Fld) (n : Nat), left (l ++ [f]) n = left l n / f.2.length
  | [], _, _ => rfl
  | g :: r, f, n => left_snoc r f (n / g.2.length)
theorem digs_snoc : ∀ (l : List Fld) (f : Fld) (n : Nat), digs (l ++ [f]) n = digs l n ++ [f.2.getD (left l n % f.2.length) ""]
  | [], _, _ => rfl
  | g :: r, f, n => by
    show _ :: digs (r ++ [f]) _ = _ :: (digs r _ ++ _)
    rw [digs_snoc r f]
    rfl
end Hr

set_option Elab.async false
set_option linter.all false
set_option maxRecDepth 100000
set_option maxHeartbeats 4000000
namespace Hr
open PySem PySem.Spec PyProof.Rows L2
/-! what a condition says of a request -/
section
variable (fs : List Fld) (rq : List Str)
mutual
def ev : Cd → Bool
  | .any => true
  | .test f g => decide (V.str (rq.getD ((fs.map (·.1)).idxOf f) "") = V.str g)
  | .node k cs => if k = "not" then !((evs cs).headD false) else if k = "and" then (evs cs).all id else (evs cs).any id
def evs : List Cd → List Bool
  | [] => []
  | c :: r => ev c :: evs r
end
theorem evs_map : ∀ cs, evs fs rq cs = cs.map (ev fs rq)
  | [] => by unfold evs; rfl
  | c :: r => by unfold evs; rw [evs_map r]; rfl
theorem ev_any : ev fs rq .any = true := by unfold ev; rfl
theorem ev_test (f g : Str) : ev fs rq (.test f g) = decide (V.str (rq.getD ((fs.map (·.1)).idxOf f) "") = V.str g) := by unfold ev; rfl
theorem ev_node (k : Str) (cs : List Cd) : ev fs rq (.node k cs) = if k = "not" then !((cs.map (ev fs rq)).headD false) else if k = "and" then (cs.map (ev fs rq)).all id else (cs.map (ev fs rq)).any id := by
  rw [← evs_map]
  conv => lhs; unfold ev
end
theorem idx_first {x : Str} : ∀ {l : List Str} {m : Nat}, m < l.idxOf x → l[m]? ≠ some x
  | [], m, _ => by simp
  | y :: r, m, h => by
    rw [List.idxOf_cons] at h
    by_cases e : (y == x) = true
    · rw [e] at h
      exact absurd h (Nat.not_lt_zero _)
    · rw [Bool.eq_false_iff.mpr e] at h
      cases m with
      | zero =>
        intro z
        exact e (beq_iff_eq.mpr (Option.some.inj z))
      | succ m => exact idx_first (l := r) (m := m) (Nat.lt_of_succ_lt_succ h)
/-- a comprehension with a test over any walk: the i-th element f i is kept where p i -/
theorem lc_pick {J : It} {n : Nat} {G : Hp → Prop} {Y : Nat → Hp → V → Hp → Prop} (w : Walk J n G Y) {g : TG} {tt : TT} {te : TE} {vs : List Nat} {σ : L2.St} {H1 : Hp} {D : Addr} {Qd : Hp → Prop} (hD : H1 D = none) (f : Nat → V) (p : Nat → Bool) (hG : ∀ H, Same H1 H → G H) (hn : n < 100000)
    (hs : ∀ (i : Nat) x H H' (R : V → Hp → Prop) (Z : Hp → Prop), i < n → Same H1 H → Y i H x H' → (p i = true → ∀ H4, Same H H4 → R (f i) H4) → (p i = false → ∀ H4, Same H H4 → Z H4) → g x (wipe σ vs) H' fun σ2 H2 => wipe σ2 vs = wipe σ vs ∧ tt σ2 H2 fun b H3 => if b = true then te σ2 H3 R else Z H3)
    (hd : ∀ H, Same H1 H → H D = some (.lst (((List.range n).filter p).map f)) → Qd H) :
    ∃ W : Nat → Nat → Hp → Prop, (∃ m, W 0 m (upd H1 D (.lst []))) ∧ ∀ i m H, W i m H →
      (J.stop i H ∧ Qd H) ∨ (J.go i H ∧ ∃ Nx : Hp → Prop, (∀ H', Nx H' → ∃ m', m' < m ∧ W (i + 1) m' H') ∧ ∀ x H', J.yld i H x H' → g x (wipe σ vs) H' fun σ2 H2 => wipe σ2 vs = wipe σ vs ∧ tt σ2 H2 fun b H3 =>
        if b = true then te σ2 H3 fun y H4 => ∃ acc, H4 D = some (.lst acc) ∧ acc.length < sizeLine ∧ Nx (upd H4 D (.lst (acc ++ [y]))) else Nx H3) := by
  refine lc_it w (fun i H => Same H1 H ∧ H D = some (.lst (((List.range i).filter p).map f))) ⟨same_new hD, by rw [upd_same]; rfl⟩ (fun i H _ h => hG H h.1) ?_ ?_
  · rintro i x H H' hi ⟨sm, hy⟩ hY
    refine hs i x H H' _ _ hi sm hY (fun hp H4 s4 => ⟨_, s4 _ _ hy, szt ?_, fun a o e => ?_, ?_⟩) fun hp H4 s4 => ⟨sm.trans s4, ?_⟩
    · rw [List.length_map]
      refine Nat.lt_of_le_of_lt (List.length_filter_le _ _) ?_
      rw [List.length_range]
      omega
    · rw [upd_ne (ne_of_none e hD)]
      exact s4 _ _ (sm _ _ e)
    · rw [upd_same, List.range_succ, List.filter_append, List.map_append, List.filter_cons, hp]
      rfl
    · rw [s4 _ _ hy, List.range_succ, List.filter_append, List.filter_cons, hp]
      simp
  · rintro H ⟨sm, hy⟩
    exact hd H sm hy
/-- each test of the condition is one of the schema -/
theorem gd_tests {fs : List Fld} : ∀ {n : Nat} {c : Cd}, Gd fs n c → ∀ p ∈ tl c, ∃ f ∈ fs, f.1 = p.1 ∧ p.2 ∈ f.2
  | n + 1, c, h, p, hp => by
    rw [tl_eq, List.mem_append] at hp
    rcases hp with hp | hp
    · cases c with
      | any => cases hp
      | test f g =>
        obtain rfl := List.mem_singleton.mp hp
        obtain ⟨fl, h1, h2, h3⟩ := h
        exact ⟨fl, h1, h2, h3⟩
      | node k cs => cases hp
    · obtain ⟨c', h1, h2⟩ := List.mem_flatMap.mp hp
      cases c with
      | any => cases h1
      | test f g => cases h1
      | node k cs => exact gd_tests (h.2 c' h1) p h2
end Hr

set_option Elab.async false
set_option linter.all false
set_option maxRecDepth 100000
set_option maxHeartbeats 4000000
/-! list(zip(xs, ys)) of two lists: the pairs are new tuples -/
namespace Hr
open PySem PySem.Calls PySem.Spec PyProof.Rows L2
theorem zip_nolen : typeLookup (.type "zip") "__len__" = pure none := by rw [typeLookup_type, builtinLookup_eq_fast]; kernel_rfl
theorem zip_nohint : typeLookup (.type "zip") "__length_hint__" = pure none := by rw [typeLookup_type, builtinLookup_eq_fast]; kernel_rfl
/-- the pairs made so far -/
structure ZlG (xs ys : Array Value) (lo : Nat) (h : Heap) (as : List Addr) : Prop where
  rise : as.Pairwise (· < ·)
  above : ∀ a ∈ as, lo ≤ a
  pairs : ∀ (j : Nat) (a : Addr), as[j]? = some a → ∃ x y, xs[j]? = some x ∧ ys[j]? = some y ∧ IsPair h a x y
theorem ZlG.there {xs ys : Array Value} {lo : Nat} {h : Heap} {as : List Addr} (g : ZlG xs ys lo h as) {a : Addr} (ha : a ∈ as) : a < h.objs.size := by
  obtain ⟨j, hj⟩ := List.mem_iff_getElem?.mp ha
  obtain ⟨_, _, _, _, e⟩ := g.pairs j a hj
  exact Heap.lt_size e
structure ZOff (S z TI TO i1 i2 l1 l2 : Addr) : Prop where
  z : z ≠ S
  TI : TI ≠ S
  TO : TO ≠ S
  i1 : i1 ≠ S
  i2 : i2 ≠ S
  l1 : l1 ≠ S
  l2 : l2 ≠ S
def ZSt (S z TI TO i1 i2 l1 l2 : Addr) (xs ys : Array Value) (i : Nat) (h : Heap) : Prop :=
  IsPair h TI (.ref i1) (.ref i2) ∧ h.IsListIter i1 l1 i ∧ h.IsListIter i2 l2 i ∧ h.IsList l1 xs ∧ h.IsList l2 ys ∧
    ((IsZip h z TI TO .none ∧ ∃ a b, IsPair h TO a b) ∨ ∃ T f oT, IsZipHeld h z TI TO T f ∧ h.get? T = some oT ∧ T ≠ z ∧ T ≠ i1 ∧ T ≠ i2 ∧ T ≠ S)
theorem ZSt.keep {S z TI TO i1 i2 l1 l2 : Addr} {xs ys : Array Value} {i : Nat} {h h' : Heap} (o : ZOff S z TI TO i1 i2 l1 l2) (st : ZSt S z TI TO i1 i2 l1 l2 xs ys i h) (hk : ∀ b o, b ≠ S → h.get? b = some o → h'.get? b = some o) : ZSt S z TI TO i1 i2 l1 l2 xs ys i h' := by
  obtain ⟨hTI, h1, h2, hl1, hl2, hz⟩ := st
  refine ⟨hk _ _ o.TI hTI, h1.at fun u e => hk _ u o.i1 e, h2.at fun u e => hk _ u o.i2 e, hl1.at fun u e => hk _ u o.l1 e, hl2.at fun u e => hk _ u o.l2 e, ?_⟩
  rcases hz with ⟨hz, a, b, hTO⟩ | ⟨T, f, oT, hz, hT, r1, r2, r3, r4⟩
  · exact .inl ⟨hk _ _ o.z hz, a, b, hk _ _ o.TO hTO⟩
  · exact .inr ⟨T, f, oT, hk _ _ o.z hz, hk _ _ r4 hT, r1, r2, r3, r4⟩
section
variable {prog : Program} {w : World} {A : Around} {E : Value → Shared → Prop} {s : Shared} {S z TI TO i1 i2 l1 l2 : Addr} {xs ys : Array Value}
theorem zl_item {i : Nat} {Q : Option Value → Shared → Prop} (D : ZipApart z TI TO i1 i2 l1 l2) (hS : S < s.heap.objs.size) (st : ZSt S z TI TO i1 i2 l1 l2 xs ys i s.heap) (hx : i < xs.size) (hy : i < ys.size)
    (hQ : ∀ h' x y, ZSt S z TI TO i1 i2 l1 l2 xs ys (i + 1) h' → xs[i]? = some x → ys[i]? = some y → IsPair h' s.heap.objs.size x y → h'.objs.size = s.heap.objs.size + 1 →
      (∀ c o, c ≠ z → c ≠ TO → c ≠ i1 → c ≠ i2 → s.heap.get? c = some o → h'.get? c = some o) → Q (some (.ref s.heap.objs.size)) { s with heap := h' }) :
    wpAny (model prog w) A (pyNext (.ref z)) Q E s := by
  obtain ⟨hTI, h1, h2, hl1, hl2, hz⟩ := st
  have ex := Array.getElem?_eq_getElem hx
  have ey := Array.getElem?_eq_getElem hy
  have lt : ∀ {c o}, s.heap.get? c = some o → s.heap.objs.size ≠ c := fun e => Nat.ne_of_gt (Heap.lt_size e)
  have n1 : s.heap.objs.size ≠ i1 := let ⟨_, e, _⟩ := h1; lt e
  have n2 : s.heap.objs.size ≠ i2 := let ⟨_, e, _⟩ := h2; lt e
  rcases hz with ⟨hz, a, b, hTO⟩ | ⟨T, f, oT, hz, hT, r1, r2, r3, r4⟩
  · refine wpAny_pyNext_zip_item D hz hTI hTO h1 h2 hl1 hl2 ex ey fun h' a1 a2 a3 a4 a5 a6 hk => ?_
    exact hQ h' _ _ ⟨hk _ _ D.TIz D.TITO D.TIi1 D.TIi2 hTI, a3, a4, hl1.at fun o e => hk _ o D.l1z D.l1TO D.l1i1 D.l1i2 e, hl2.at fun o e => hk _ o D.l2z D.l2TO D.l2i1 D.l2i2 e,
      .inr ⟨s.heap.objs.size, false, _, a1, a5, lt hz, n1, n2, Nat.ne_of_gt hS⟩⟩ ex ey a5 a6 hk
  · refine wpAny_pyNext_zip_item_held D hz hT hTI h1 h2 hl1 hl2 ex ey fun h' a1 a3 a4 a5 a6 hk => ?_
    exact hQ h' _ _ ⟨hk _ _ D.TIz D.TIi1 D.TIi2 hTI, a3, a4, hl1.at fun o e => hk _ o D.l1z D.l1i1 D.l1i2 e, hl2.at fun o e => hk _ o D.l2z D.l2i1 D.l2i2 e,
      .inr ⟨T, true, oT, a1, hk _ _ r1 r2 r3 hT, r1, r2, r3, r4⟩⟩ ex ey a5 a6 fun c o c1 _ c3 c4 e => hk c o c1 c3 c4 e
theorem zl_done {i : Nat} {Q : Option Value → Shared → Prop} (hh : A.handled = none) (D : ZipApart z TI TO i1 i2 l1 l2) (st : ZSt S z TI TO i1 i2 l1 l2 xs ys i s.heap) (hend : xs.size ≤ i ∨ ys.size ≤ i)
    (hQ : ∀ h', (∀ c o, c ≠ z → c ≠ TO → c ≠ i1 → c ≠ i2 → s.heap.get? c = some o → h'.get? c = some o) → Q none { s with heap := h' }) :
    wpAny (model prog w) A (pyNext (.ref z)) Q E s := by
  obtain ⟨hTI, h1, h2, hl1, hl2, hz⟩ := st
  have hend' : xs[i]? = none ∨ ys[i]? = none := hend.imp Array.getElem?_eq_none Array.getElem?_eq_none
  rcases hz with ⟨hz, a, b, hTO⟩ | ⟨T, f, oT, hz, hT, r1, r2, r3, r4⟩
  · exact wpAny_pyNext_zip_end hh D hz hTI hTO h1 h2 hl1 hl2 hend' fun h' hk => hQ h' hk
  · exact wpAny_pyNext_zip_end_held hh D hz hT hTI h1 h2 hl1 hl2 hend' fun h' hk => hQ h' fun c o c1 _ c3 c4 e => hk c o c1 c3 c4 e
theorem zl_loop {R : Result → Shared → Prop} {lo : Nat} (hh : A.handled = none) (D : ZipApart z TI TO i1 i2 l1 l2) (O : ZOff S z TI TO i1 i2 l1 l2) (hSl : S < lo) (hzl : z < lo) (hTl : TO < lo) (h1l : i1 < lo) (h2l : i2 < lo) (hxy : xs.size = ys.size) (hn : xs.size ≤ sizeLine) (res : Value) {h₁ : Heap}
    (hR : ∀ h' tk acc c as, (∀ b o, b ≠ S → b ≠ z → b ≠ TO → b ≠ i1 → b ≠ i2 → h₁.get? b = some o → h'.get? b = some o) → h'.get? S = some { cls := .type "list", dict := none, data := .seq acc c, slots := #[] } → as.length = xs.size → ZlG xs ys lo h' as →
      acc.toList = as.map Value.ref → R (.ok (.ret res)) { s with heap := h', toks := tk }) :
    ∀ (k i : Nat) (h : Heap) (tk c : Nat) (acc : Array Value) (as : List Addr), xs.size - i = k → i ≤ xs.size → ZSt S z TI TO i1 i2 l1 l2 xs ys i h → (∀ b o, b ≠ S → b ≠ z → b ≠ TO → b ≠ i1 → b ≠ i2 → h₁.get? b = some o → h.get? b = some o) →
      h.get? S = some { cls := .type "list", dict := none, data := .seq acc c, slots := #[] } → acc.toList = as.map Value.ref → as.length = i → ZlG xs ys lo h as → lo ≤ h.objs.size →
      codeAny (model prog w) A (.builtin "list.extend.loop" ⟨[.ref S, .ref z, res], []⟩) R { s with heap := h, toks := tk } := by
  intro k
  induction k with
  | zero =>
    intro i h tk c acc as hk hi hst hkeep hS hacc hal hG hlo
    refine codeAny_builtin PySem.F.entry_extend_loop ?_
    rw [Around.under_plainId PySem.F.plain_extend_loop _]
    show wpAny _ A.in1 (pyNext (.ref z) >>= _) _ _ _
    refine wpAny_bind (zl_done (s := { s with heap := h, toks := tk }) (A := A.in1) hh D hst (.inl (by omega)) fun h' he => ?_)
    have off : ∀ a ∈ as, a ≠ z ∧ a ≠ TO ∧ a ≠ i1 ∧ a ≠ i2 := fun a ha => by
      have := hG.above a ha
      refine ⟨?_, ?_, ?_, ?_⟩ <;> (refine Nat.ne_of_gt (Nat.lt_of_lt_of_le ?_ this); assumption)
    refine wpAny_pure (hR h' tk acc c as (fun b o b1 b2 b3 b4 b5 e => he b o b2 b3 b4 b5 (hkeep b o b1 b2 b3 b4 b5 e)) (he S _ (Ne.symm O.z) (Ne.symm O.TO) (Ne.symm O.i1) (Ne.symm O.i2) hS) (by omega) ⟨hG.rise, hG.above, fun j a hj => ?_⟩ hacc)
    obtain ⟨x, y, e1, e2, e3⟩ := hG.pairs j a hj
    obtain ⟨o1, o2, o3, o4⟩ := off a (List.mem_of_getElem? hj)
    exact ⟨x, y, e1, e2, he a _ o1 o2 o3 o4 e3⟩
  | succ k ih =>
    intro i h tk c acc as hk hi hst hkeep hS hacc hal hG hlo
    have hlt : i < xs.size := by omega
    have hsz : acc.size = i := by rw [← Array.length_toList, hacc, List.length_map, hal]
    refine codeAny_builtin PySem.F.entry_extend_loop ?_
    rw [Around.under_plainId PySem.F.plain_extend_loop _]
    show wpAny _ A.in1 (pyNext (.ref z) >>= _) _ _ _
    refine wpAny_bind (zl_item (s := { s with heap := h, toks := tk }) D (Heap.lt_size hS) hst hlt (by omega) fun h' x y hst' ex ey ht hz hkp => ?_)
    dsimp only at ht hz hkp ⊢
    have hS' := hkp S _ (Ne.symm O.z) (Ne.symm O.TO) (Ne.symm O.i1) (Ne.symm O.i2) hS
    have up : ∀ b o, b ≠ S → h'.get? b = some o → (h'.update S (Obj.mapSeq (·.push (Value.ref h.objs.size)))).get? b = some o := fun b o hb e => (Heap.get?_update_other _ _ (Ne.symm hb)).trans e
    have hSn : S < h.objs.size := Heap.lt_size hS
    show wpAny _ A.in1 (updateSeq S (·.push (Value.ref h.objs.size)) >>= _) _ _ _
    refine wpAny_bind ?_
    refine wpAny_updateSeq hS' rfl (wpAny_pure ⟨plainId_quiet PySem.F.plain_extend_loop _, ih (i + 1) _ tk _ (acc.push (Value.ref h.objs.size)) (as ++ [h.objs.size]) (by omega) hlt (hst'.keep O up)
      (fun b o b1 b2 b3 b4 b5 e => up b o b1 (hkp b o b2 b3 b4 b5 (hkeep b o b1 b2 b3 b4 b5 e))) (Heap.get?_update_self _ hS' rfl) (by rw [Array.toList_push, hacc, List.map_append]; rfl) (by rw [List.length_append, hal]; rfl) ⟨?_, ?_, ?_⟩ ?_⟩) (by rw [hsz]; omega) (by show (acc.push (Value.ref h.objs.size)).size ≤ sizeLine + 1; rw [Array.size_push, hsz]; omega)
    · refine List.pairwise_append.mpr ⟨hG.rise, List.pairwise_singleton _ _, fun a ha b hb => ?_⟩
      rw [List.mem_singleton.mp hb]
      exact hG.there ha
    · intro a ha
      rcases List.mem_append.mp ha with ha | ha
      · exact hG.above a ha
      · rw [List.mem_singleton.mp ha]; exact hlo
    · intro j b hj
      rcases Nat.lt_trichotomy j as.length with h1 | h1 | h1
      · rw [List.getElem?_append_left h1] at hj
        obtain ⟨x', y', e1, e2, e3⟩ := hG.pairs j b hj
        have hb := hG.above b (List.mem_of_getElem? hj)
        exact ⟨x', y', e1, e2, up b _ (Nat.ne_of_gt (Nat.lt_of_lt_of_le hSl hb)) (hkp b _ (Nat.ne_of_gt (Nat.lt_of_lt_of_le hzl hb)) (Nat.ne_of_gt (Nat.lt_of_lt_of_le hTl hb)) (Nat.ne_of_gt (Nat.lt_of_lt_of_le h1l hb)) (Nat.ne_of_gt (Nat.lt_of_lt_of_le h2l hb)) e3)⟩
      · subst h1
        have hb : h.objs.size = b := by simpa using hj
        subst hb
        exact ⟨x, y, by rw [hal]; exact ex, by rw [hal]; exact ey, up _ _ (Nat.ne_of_gt hSn) ht⟩
      · have hnone : (as ++ [h.objs.size])[j]? = none := List.getElem?_eq_none (by rw [List.length_append, List.length_singleton]; omega)
        rw [hnone] at hj; cases hj
    · have e : (h'.update S (Obj.mapSeq (·.push (Value.ref h.objs.size)))).get? h.objs.size = _ := up _ _ (Nat.ne_of_gt hSn) ht
      exact Nat.le_of_lt (Nat.lt_of_le_of_lt hlo (Heap.lt_size e))
/-- the zip as it is made -/
def ZNew (z TI TO i1 i2 l1 l2 : Addr) (xs ys : Array Value) (h : Heap) : Prop :=
  IsPair h TI (.ref i1) (.ref i2) ∧ h.IsListIter i1 l1 0 ∧ h.IsListIter i2 l2 0 ∧ h.IsList l1 xs ∧ h.IsList l2 ys ∧ IsZip h z TI TO .none ∧ ∃ a b, IsPair h TO a b
theorem ZNew.st {h : Heap} (n : ZNew z TI TO i1 i2 l1 l2 xs ys h) : ZSt S z TI TO i1 i2 l1 l2 xs ys 0 h := ⟨n.1, n.2.1, n.2.2.1, n.2.2.2.1, n.2.2.2.2.1, .inl n.2.2.2.2.2⟩
theorem ZNew.keep {h h' : Heap} (n : ZNew z TI TO i1 i2 l1 l2 xs ys h) (O : ZOff S z TI TO i1 i2 l1 l2) (hk : ∀ b o, b ≠ S → h.get? b = some o → h'.get? b = some o) : ZNew z TI TO i1 i2 l1 l2 xs ys h' := by
  obtain ⟨hTI, h1, h2, hl1, hl2, hz, a, b, hTO⟩ := n
  exact ⟨hk _ _ O.TI hTI, h1.at fun u e => hk _ u O.i1 e, h2.at fun u e => hk _ u O.i2 e, hl1.at fun u e => hk _ u O.l1 e, hl2.at fun u e => hk _ u O.l2 e, hk _ _ O.z hz, a, b, hk _ _ O.TO hTO⟩
theorem ZNew.lt {h : Heap} (n : ZNew z TI TO i1 i2 l1 l2 xs ys h) : z < h.objs.size ∧ TI < h.objs.size ∧ TO < h.objs.size ∧ i1 < h.objs.size ∧ i2 < h.objs.size ∧ l1 < h.objs.size ∧ l2 < h.objs.size := by
  obtain ⟨hTI, ⟨_, h1, _⟩, ⟨_, h2, _⟩, ⟨_, hl1, _⟩, ⟨_, hl2, _⟩, hz, a, b, hTO⟩ := n
  exact ⟨Heap.lt_size hz, Heap.lt_size hTI, Heap.lt_size hTO, Heap.lt_size h1, Heap.lt_size h2, Heap.lt_size hl1, Heap.lt_size hl2⟩
theorem zl_extend {R : Result → Shared → Prop} (hh : A.handled = none) (D : ZipApart z TI TO i1 i2 l1 l2) (O : ZOff S z TI TO i1 i2 l1 l2) (n : ZNew z TI TO i1 i2 l1 l2 xs ys s.heap) (hxy : xs.size = ys.size) (hn : xs.size ≤ sizeLine) (res : Value) (c₀ : Nat) (hS : s.heap.get? S = some { cls := .type "list", data := .seq #[] c₀ })
    (hR : ∀ h' tk acc c as, (∀ b o, b ≠ S → b ≠ z → b ≠ TO → b ≠ i1 → b ≠ i2 → s.heap.get? b = some o → h'.get? b = some o) → h'.get? S = some { cls := .type "list", dict := none, data := .seq acc c, slots := #[] } → as.length = xs.size → ZlG xs ys s.heap.objs.size h' as →
      acc.toList = as.map Value.ref → R (.ok (.ret res)) { s with heap := h', toks := tk }) :
    wpAny (model prog w) A.in1 (Builtin.List.listExtendWith (.ref S) (.ref z) res)
      (fun fin s' => match fin with | .done f => R (.ok f) s' | .again c' => c'.quiet = true ∧ codeAny (model prog w) A c' R s') (fun e s' => R (.error e) s') s := by
  have hSl : S < s.heap.objs.size := Heap.lt_size hS
  have key : ∀ (h : Heap) (c₁ tk : Nat), (∀ b o, b ≠ S → s.heap.get? b = some o → h.get? b = some o) →
      h.get? S = some { cls := .type "list", data := .seq #[] c₁ } → h.objs.size = s.heap.objs.size → codeAny (model prog w) A (.builtin "list.extend.loop" ⟨[.ref S, .ref z, res], []⟩) R { s with heap := h, toks := tk } := by
    intro h c₁ tk hk hS₁ hsz
    have n' := n.keep O hk
    obtain ⟨a1, a2, a3, a4, a5, a6, a7⟩ := n.lt
    refine zl_loop (lo := s.heap.objs.size) (s := s) (h₁ := s.heap) hh D O hSl a1 a3 a4 a5 hxy hn res (fun h' tk' acc c as hk' hS' hl hG hacc => hR h' tk' acc c as hk' hS' hl hG hacc)
      xs.size 0 h tk c₁ #[] [] (Nat.sub_zero _) (Nat.zero_le _) n'.st (fun b o hb _ _ _ _ e => hk b o hb e) hS₁ rfl rfl
      ⟨List.Pairwise.nil, (fun _ ha => nomatch ha), (fun j a hj => by simp at hj)⟩ (by omega)
  have hz := n.2.2.2.2.2.1
  have hT : s.TypeIs (.ref z) "zip" := ⟨_, hz, rfl⟩
  unfold Builtin.List.listExtendWith
  refine wpAny_bind (wpAny_typeOf (T := "zip") hT ?_)
  have h1 : Builtin.List.listSameRef (.ref S) (.ref z) = false := by simp [Builtin.List.listSameRef, Ne.symm O.z]
  rw [if_neg (by rw [h1]; decide)]
  refine wpAny_bind (wpAny_pyIter_zip hz ?_)
  refine wpAny_bind (wpAny_holding ?_)
  unfold Builtin.List.listLengthHint
  refine wpAny_bind (wpAny_specialOf hT zip_nolen ?_)
  show wpAny _ A.in1 (specialOf (Value.ref z) (Str.ofString "__length_hint__") >>= _) _ _ _
  refine wpAny_bind (wpAny_specialOf hT zip_nohint ?_)
  refine wpAny_pure ?_
  rw [if_pos (by decide)]
  refine wpAny_bind (wpAny_rule ?_)
  refine wpAny_bind ?_
  show wpAny _ _ (updateSeq S (·.push .none) >>= fun _ => updateSeq S (·.pop)) _ _ _
  refine wpAny_bind (wpAny_updateSeq hS rfl ?_)
  have hS₂ := Heap.get?_update_self (Obj.mapSeq (·.push Value.none)) hS rfl
  refine wpAny_updateSeq (hz := by seq_fits) hS₂ rfl ?_
  have hS₃ := Heap.get?_update_self (Obj.mapSeq (·.pop)) hS₂ rfl
  refine wpAny_pure ⟨plainId_quiet PySem.F.plain_extend_loop _, key _ _ _ (fun b o hb e => ?_) hS₃ ?_⟩
  · exact (Heap.get?_update_other _ _ (Ne.symm hb)).trans ((Heap.get?_update_other _ _ (Ne.symm hb)).trans e)
  · rw [(Heap.SameBut.update ..).1, (Heap.SameBut.update ..).1]
theorem zl_call {Q : Value → Shared → Prop} (hh : A.handled = none) (D : ZipApart z TI TO i1 i2 l1 l2) (n : ZNew z TI TO i1 i2 l1 l2 xs ys s.heap) (hxy : xs.size = ys.size) (hn : xs.size ≤ sizeLine)
    (hQ : ∀ h' tk acc c as, (∀ b o, b ≠ z → b ≠ TO → b ≠ i1 → b ≠ i2 → s.heap.get? b = some o → h'.get? b = some o) → h'.get? s.heap.objs.size = some { cls := .type "list", dict := none, data := .seq acc c, slots := #[] } → as.length = xs.size → ZlG xs ys (s.heap.objs.size + 1) h' as →
      acc.toList = as.map Value.ref → Q (.ref s.heap.objs.size) { s with heap := h', toks := tk }) :
    wpAny (model prog w) A (call (.type "list") [.ref z]) Q E s := by
  refine callType_codes (Q₁ := fun obj s₁ => obj = .ref s.heap.objs.size ∧ s₁ = { s with heap := s.heap.push { cls := .type "list", data := .seq #[] } }) PySem.F.called_list (PySem.F.typeCall_list_1 _) PySem.F.entry_list_init
    (code_list_new _ ⟨rfl, rfl⟩) fun obj s₁ h₁ => ?_
  obtain ⟨rfl, rfl⟩ := h₁
  obtain ⟨a1, a2, a3, a4, a5, a6, a7⟩ := n.lt
  have O : ZOff s.heap.objs.size z TI TO i1 i2 l1 l2 := ⟨Nat.ne_of_lt a1, Nat.ne_of_lt a2, Nat.ne_of_lt a3, Nat.ne_of_lt a4, Nat.ne_of_lt a5, Nat.ne_of_lt a6, Nat.ne_of_lt a7⟩
  have hS : (s.heap.push { cls := .type "list", data := .seq #[] }).get? s.heap.objs.size = some { cls := .type "list", data := .seq #[] } := Heap.get?_push_size _ rfl
  refine ⟨⟨_, hS, rfl⟩, PySem.F.args_list_init_2 _ _, ?_⟩
  show wpAny _ _ (do let old ← Builtin.List.listItems (.ref s.heap.objs.size); Builtin.List.listUpdate (.ref s.heap.objs.size) (fun _ => #[]); letGo old.toList.reverse; Builtin.List.listExtendWith (.ref s.heap.objs.size) (.ref z) .none) _ _ _
  refine wpAny_bind ?_
  unfold Builtin.List.listItems
  refine wpAny_bind (wpAny_seqItems hS rfl (wpAny_pure ?_))
  show wpAny _ _ (updateSeq s.heap.objs.size (fun _ => #[]) >>= fun _ => letGo (#[] : Array Value).toList.reverse >>= fun _ => Builtin.List.listExtendWith (.ref s.heap.objs.size) (.ref z) .none) _ _ _
  refine wpAny_bind (wpAny_updateSeq hS rfl ?_)
  have hS₂ := Heap.get?_update_self (Obj.mapSeq (fun _ => (#[] : Array Value))) hS rfl
  have oth : ∀ b o, b ≠ s.heap.objs.size → s.heap.get? b = some o → ((s.heap.push { cls := .type "list", data := .seq #[] }).update s.heap.objs.size (Obj.mapSeq (fun _ => (#[] : Array Value)))).get? b = some o :=
    fun b o hb e => (Heap.get?_update_other _ _ (Ne.symm hb)).trans (Heap.get?_push_of_some _ e)
  have sz : ((s.heap.push { cls := .type "list", data := .seq #[] }).update s.heap.objs.size (Obj.mapSeq (fun _ => (#[] : Array Value)))).objs.size = s.heap.objs.size + 1 := by rw [(Heap.SameBut.update ..).1, Heap.size_push]
  refine wpAny_bind (wpAny_letGo ?_)
  refine zl_extend (A := A.in1) hh D O (n.keep O oth) hxy hn .none _ hS₂ (fun h' tk acc c as hk hS' hl hG hacc => ?_)
  refine ⟨rfl, hQ h' tk acc c as (fun b o b2 b3 b4 b5 e => ?_) hS' hl ?_ hacc⟩
  · exact hk b o (Nat.ne_of_lt (Heap.lt_size e)) b2 b3 b4 b5 (oth b o (Nat.ne_of_lt (Heap.lt_size e)) e)
  · exact ⟨hG.rise, fun a ha => by have := hG.above a ha; rw [← sz]; exact this, hG.pairs⟩
end

/-- tuples of pairs tracked at their addresses -/
def putP : Hp → List Addr → List (V × V) → Hp
  | H, a :: as, p :: ps => putP (upd H a (.tup [p.1, p.2])) as ps
  | H, _, _ => H
theorem putP_off {b : Addr} : ∀ (as : List Addr) (ps : List (V × V)) (H : Hp), b ∉ as → putP H as ps b = H b
  | [], _, _, _ => rfl
  | _ :: _, [], _, _ => rfl
  | a :: as, p :: ps, H, h => by
    show putP (upd H a (.tup [p.1, p.2])) as ps b = H b
    rw [putP_off as ps _ (fun z => h (List.mem_cons_of_mem _ z)), upd_ne (fun z => h (by rw [z]; exact List.mem_cons_self))]
theorem putP_at : ∀ (as : List Addr) (ps : List (V × V)) (H : Hp), as.length = ps.length → as.Nodup → ∀ (j : Nat) (a : Addr) (p : V × V), as[j]? = some a → ps[j]? = some p → putP H as ps a = some (.tup [p.1, p.2])
  | [], [], _, _, _, j, a, p, h1, _ => by simp at h1
  | [], _ :: _, _, h, _, _, _, _, _, _ => by cases h
  | _ :: _, [], _, h, _, _, _, _, _, _ => by cases h
  | b :: as, q :: ps, H, h, hn, 0, a, p, h1, h2 => by
    have hn' := List.nodup_cons.mp hn
    have e1 : b = a := Option.some.inj h1
    have e2 : q = p := Option.some.inj h2
    subst e1 e2
    show putP (upd H b (.tup [q.1, q.2])) as ps b = _
    rw [putP_off as ps _ hn'.1, upd_same]
  | b :: as, q :: ps, H, h, hn, j + 1, a, p, h1, h2 => putP_at as ps (upd H b (.tup [q.1, q.2])) (Nat.succ.inj h) (List.nodup_cons.mp hn).2 j a p (by simpa using h1) (by simpa using h2)
theorem zip_get {xs ys : List V} {j : Nat} {x y : V} (h1 : xs[j]? = some x) (h2 : ys[j]? = some y) : (xs.zip ys)[j]? = some (x, y) := by
  rw [List.getElem?_zip_eq_some]
  exact ⟨h1, h2⟩
theorem vals_get {xs : List V} {us : List Value} (h : Vals xs us) : ∀ {j : Nat} {x : V} {u : Value}, xs[j]? = some x → us[j]? = some u → RelV x u := by
  induction h with
  | nil => intro j x u h1 _; simp at h1
  | cons r t ih =>
    intro j x u h1 h2
    cases j with
    | zero =>
      cases h1
      cases h2
      exact r
    | succ j => exact ih (by simpa using h1) (by simpa using h2)
/-- list(zip(a, b)) of two lists -/
def tListZip (K : PySem.W.Frag) (ta : TA) : TE := fun σ H Q => ta σ H fun vs H1 => ∃ (a b : Addr) (xs ys : List V), vs = [.ref a, .ref b] ∧ SqL K H1 a xs ∧ SqL K H1 b ys ∧ xs.length = ys.length ∧ xs.length ≤ 1000000 ∧
  ∀ (H' : Hp) (p : Addr) (ts : List Addr), Same H1 H' → H1 p = none → (∀ t ∈ ts, H1 t = none) → p ∉ ts → H' p = some (.lst (ts.map V.ref)) → ts.length = xs.length → (∀ (j : Nat) (t : Addr) (x y : V), ts[j]? = some t → xs[j]? = some x → ys[j]? = some y → H' t = some (.tup [x, y])) → Q (.ref p) H'
section
variable {X : Cx} {e e2 : Expr} {ta : TA} {p p2 cpos pos : Pos}
theorem zip_laid {pins : List (Addr × Obj)} {σ : L2.St} {H : Hp} {s : Shared} {h' : Heap} {tk lo : Nat} {S : Addr} {xs ys : List V} {us vs : List Value} {acc : Array Value} {c : Nat} {as : List Addr} (I : Inv X pins σ H s) (hz : xs.length ≤ sizeLine) (hxy : xs.length = ys.length) (rx : Vals xs us) (ry : Vals ys vs)
    (hk : ∀ b o, s.heap.get? b = some o → h'.get? b = some o) (hS : h'.get? S = some { cls := .type "list", dict := none, data := .seq acc c, slots := #[] }) (hSl : s.heap.objs.size ≤ S) (hSo : S < lo) (hl : as.length = xs.length) (hG : ZlG us.toArray vs.toArray lo h' as) (hacc : acc.toList = as.map Value.ref) :
    ∃ H' : Hp, Same H H' ∧ H S = none ∧ (∀ t ∈ as, H t = none) ∧ S ∉ as ∧ H' S = some (.lst (as.map V.ref)) ∧ (∀ (j : Nat) (t : Addr) (x y : V), as[j]? = some t → xs[j]? = some x → ys[j]? = some y → H' t = some (.tup [x, y])) ∧ Inv X pins σ H' { s with heap := h', toks := tk } := by
  have hSn : S ∉ as := fun z => Nat.lt_irrefl _ (Nat.lt_of_lt_of_le hSo (hG.above _ z))
  have nd : as.Nodup := List.Pairwise.imp (fun {a b} (h : a < b) => Nat.ne_of_lt h) hG.rise
  have new : ∀ t ∈ as, H t = none := fun t ht => I.hok.fresh (Nat.le_trans (Nat.le_trans hSl (Nat.le_of_lt hSo)) (hG.above t ht))
  have newS : H S = none := I.hok.fresh hSl
  have atP := putP_at as (xs.zip ys) (upd H S (.lst (as.map V.ref))) (by rw [List.length_zip, hl]; omega) nd
  have off : ∀ b, b ∉ as → b ≠ S → putP (upd H S (.lst (as.map V.ref))) as (xs.zip ys) b = H b := fun b h1 h2 => by rw [putP_off as _ _ h1, upd_ne h2]
  have low : ∀ b o, s.heap.get? b = some o → b ∉ as ∧ b ≠ S := fun b o e => by
    have := Heap.lt_size e
    exact ⟨fun z => Nat.lt_irrefl _ (Nat.lt_of_lt_of_le (Nat.lt_of_lt_of_le (Nat.lt_of_lt_of_le this hSl) (Nat.le_of_lt hSo)) (hG.above b z)), Nat.ne_of_lt (Nat.lt_of_lt_of_le this hSl)⟩
  have kp : ∀ b u, H b = some u → (putP (upd H S (.lst (as.map V.ref))) as (xs.zip ys)) b = some u := fun b u e => by
    rw [off b (fun z => by rw [new b z] at e; cases e) (fun z => by rw [z, newS] at e; cases e)]
    exact e
  have eS : putP (upd H S (.lst (as.map V.ref))) as (xs.zip ys) S = some (.lst (as.map V.ref)) := by rw [putP_off as _ _ hSn, upd_same]
  refine ⟨putP (upd H S (.lst (as.map V.ref))) as (xs.zip ys), kp, newS, new, hSn, eS, fun j t x y h1 h2 h3 => atP j t (x, y) h1 (zip_get h2 h3), ?_⟩
  refine I.call' (ch := []) rfl ⟨fun b o q _ _ _ => hk b o q, fun b o q _ _ _ => ⟨o.slots, hk b o q⟩, fun b o q n _ => ?_, fun b o q _ => ⟨o, hk b o q⟩, fun b xs q => kp b _ q, fun b o u q => kp b _ q, fun b ps q => ⟨#[], by rw [kp b _ q]; simp⟩⟩ (fun b u q => ?_) I.bare fun b z => by simp at z
  · obtain ⟨z1, z2⟩ := low b o q
    rw [off b z1 z2]
    exact n
  · by_cases hb : b ∈ as
    · obtain ⟨j, hj⟩ := List.mem_iff_getElem?.mp hb
      have hjl : j < xs.length := by
        have := (List.getElem?_eq_some_iff.mp hj).1
        omega
      have hx := List.getElem?_eq_getElem hjl
      have hy := List.getElem?_eq_getElem (show j < ys.length by omega)
      generalize xs[j] = x at hx
      generalize ys[j] = y at hy
      rw [atP j b (x, y) hj (zip_get hx hy)] at q
      cases q
      obtain ⟨u1, u2, f1, f2, f3⟩ := hG.pairs j b hj
      exact ⟨by show 2 ≤ sizeLine; decide, [u1, u2], .cons (vals_get rx hx (by simpa using f1)) (.cons (vals_get ry hy (by simpa using f2)) .nil), ⟨_, f3, rfl, _, rfl⟩⟩
    · by_cases hb2 : b = S
      · rw [hb2] at q ⊢
        rw [eS] at q
        cases q
        refine ⟨by rw [List.length_map]; omega, acc.toList, c, by rw [hacc]; exact LiI.vals_refs as, ?_⟩
        rw [Array.toArray_toList]
        exact hS
      · rw [off b hb hb2] at q
        exact (I.hok b u q).stay (fun d v _ y => hk d v y) (fun d y => kp d _ y) fun d xs y => kp d _ y
theorem pe_listZip (hc : X.calm = true) (hg : Gl X "list") (hm : X.mg "list" = none) (hg2 : Gl X "zip") (hm2 : X.mg "zip" = none) (ha : PA X [e, e2] ta)
    (na : starEach [Expr.Call (.Name "zip" p2) [e, e2] [] cpos] X.env = (false, eval (Expr.Call (.Name "zip" p2) [e, e2] [] cpos) X.env) :: starEach [] X.env := by rfl)
    (hs : starEach [e, e2] X.env = (false, eval e X.env) :: starEach [e2] X.env := by rfl) (hpl : (backTo cpos (starEach [e2] X.env)).any (·.1) = false := by rfl) :
    PE X (.Call (.Name "list" p) [.Call (.Name "zip" p2) [e, e2] [] cpos] [] pos) (tListZip X.K ta) := by
  refine ⟨fun pins s σ H Q I h => ?_⟩
  refine Call_ (ld_blt I hg hm PyProof.Rows.boot_list (PyProof.Rows.callWith_type1 (args_cons ?_ na) na))
  refine Call_ (ld_blt I hg2 hm2 PyProof.Rows.boot_zip (PyProof.Rows.callWith_type1 (thn (ha.run cpos pins s σ H _ I h) fun us s1 ⟨vs, H1, I1, r1, q1⟩ => ?_) hs hpl))
  obtain ⟨a, b, xs, ys, ex, hqx, hqy, hxy, hlen, q⟩ := q1
  subst ex
  cases r1 with
  | cons r rr =>
    cases rr with
    | cons r' rr =>
      cases rr
      cases r
      cases r'
      obtain ⟨its, rv, p1, _⟩ := I1.list hqx
      obtain ⟨its2, rv2, p2, _⟩ := I1.list hqy
      refine call_zip_2 p1.isList p2.isList fun h' hz hTI hTO h1 h2 hsz hk => ?_
      refine args_nil ?_
      have l1 := rv.length
      have l2 := rv2.length
      have k1 : ∀ c o, s1.heap.get? c = some o → c < s1.heap.objs.size := fun c o e => Heap.lt_size e
      refine zl_call (xs := its.toArray) (ys := its2.toArray) (I1.ok.hd hc) (PySem.W.ktu_apart s1.heap.objs.size a b p1.lt p2.lt) ⟨hTI, h1, h2, p1.isList.at fun o e => hk _ o e, p2.isList.at fun o e => hk _ o e, hz, _, _, hTO⟩ (by simp; omega) (by simp; exact Nat.le_trans (by omega) (show 1000000 ≤ sizeLine by decide)) fun g tk acc c as hk2 hS hl hG hacc => ?_
      have hkk : ∀ b o, s1.heap.get? b = some o → g.get? b = some o := fun b o e => by
        have lt := Heap.lt_size e
        exact hk2 b o (Nat.ne_of_lt (Nat.lt_of_lt_of_le lt (Nat.le_add_right _ _))) (Nat.ne_of_lt (Nat.lt_of_lt_of_le lt (Nat.le_add_right _ _))) (Nat.ne_of_lt lt) (Nat.ne_of_lt (Nat.lt_of_lt_of_le lt (Nat.le_add_right _ _))) (hk b o e)
      obtain ⟨H', a1, a2, a3, a4, a5, a6, J⟩ := zip_laid (tk := tk) I1 (Nat.le_trans hlen (by decide)) hxy rv rv2 hkk hS (hsz ▸ Nat.le_add_right _ _) (Nat.lt_succ_self _) (by rw [hl]; simp; omega) hG hacc
      exact ⟨.ref _, H', J, rfl, q H' _ as a1 a2 a3 a4 a5 (by rw [hl]; simp; omega) a6⟩
end
end Hr

set_option Elab.async false
set_option linter.all false
set_option maxRecDepth 100000
set_option maxHeartbeats 4000000
namespace Hr
open PySem PySem.Spec PyProof.Rows L2
/-- the slots, written out -/
theorem st_is {t : L2.St → Hp → Prop} {σ : L2.St} {H : Hp} (σ' : L2.St) (e : σ = σ') (h : t σ' H) : t σ H := e ▸ h
/-! lists of numbers -/
abbrev iV (l : List Int) : List V := l.map V.int
abbrev nV (l : List Nat) : List V := l.map fun i => V.int (i : Nat)
abbrev iD (l : List Int) : PyData := .list (l.map PyData.int)
abbrev nD (l : List Nat) : PyData := .list (l.map fun i => PyData.int (i : Nat))
theorem inV_int (i : Int) (l : List Int) : inV (.int i) (iV l) = decide (i ∈ l) := by
  induction l with
  | nil => rfl
  | cons x r ih =>
    have e : inV (.int i) (iV (x :: r)) = (eqV (.int x) (.int i) || inV (.int i) (iV r)) := rfl
    rw [e, ih]
    show ((x == i) || decide (i ∈ r)) = _
    rw [Bool.eq_iff_iff, Bool.or_eq_true_iff, beq_iff_eq, decide_eq_true_eq, decide_eq_true_eq, List.mem_cons]
    exact or_congr_left eq_comm
theorem nV_i (l : List Nat) : nV l = iV (l.map fun (i : Nat) => (i : Int)) := by rw [iV, List.map_map]; rfl
theorem inV_nat (i : Nat) (l : List Nat) : inV (.int (i : Nat)) (nV l) = decide (i ∈ l) := by
  rw [nV_i, inV_int, Bool.eq_iff_iff, decide_eq_true_eq, decide_eq_true_eq, List.mem_map]
  exact ⟨fun ⟨a, h1, h2⟩ => by rw [← Int.ofNat.inj h2]; exact h1, fun h => ⟨i, h, rfl⟩⟩
theorem flat_ints (l : List Int) : (iV l).all flatV = true := by
  rw [List.all_map, List.all_eq_true]
  intro x _
  rfl
theorem flat_nats (l : List Nat) : (nV l).all flatV = true := by
  rw [List.all_map, List.all_eq_true]
  intro x _
  rfl
theorem rg_nat (n : Nat) : rgV 0 (n : Int) = nV (List.range n) := by
  unfold rgV nV
  rw [show ((n : Int) - 0).toNat = n by omega]
  refine List.map_congr_left fun i _ => ?_
  rw [Int.zero_add]
theorem dpa_nats {K : PySem.W.Frag} {H : Hp} : ∀ (l : List Nat), DpAll K H (nV l) (l.map fun i => PyData.int (i : Nat))
  | [] => .nil
  | n :: r => .cons (.int _) (dpa_nats r)
theorem ints_inv {K : PySem.W.Frag} {H : Hp} : ∀ {vs : List V} {l : List Int}, DpAll K H vs (l.map PyData.int) → vs = iV l
  | _, [], h => by cases h; rfl
  | _, s :: r, h => by
    cases h with
    | cons a t =>
      cases a
      rw [ints_inv t]; rfl
theorem nats_inv {K : PySem.W.Frag} {H : Hp} : ∀ {vs : List V} {l : List Nat}, DpAll K H vs (l.map fun i => PyData.int (i : Nat)) → vs = nV l
  | _, [], h => by cases h; rfl
  | _, s :: r, h => by
    cases h with
    | cons a t =>
      cases a
      rw [nats_inv t]; rfl
theorem deep_int {n : Nat} {i : Int} : deep (n + 1) (.int i) = true := by unfold deep; rfl
theorem deep_bool {n : Nat} {i : Bool} : deep (n + 1) (.bool i) = true := by unfold deep; rfl
theorem deep_none {n : Nat} : deep (n + 1) .none = true := by unfold deep; rfl
theorem nD_deep {n : Nat} {l : List Nat} (h : l.length < 50000) : deep (n + 2) (nD l) = true :=
  deep_list_of (by rw [List.length_map]; exact h) fun d hd => by
    obtain ⟨z, _, rfl⟩ := List.mem_map.mp hd
    exact deep_int
theorem eqv_same {n : Nat} {d : PyData} (h : deep n d = true) : PyData.eqv d d = true := SeqAt.eqv_refl d (deep_lay n d h).1
/-- comparing a list of numbers with an equal one -/
theorem ne_nats {K : PySem.W.Frag} {H : Hp} {a b : Addr} {l m : List Nat} {Q : VK} (ha : H a = some (.lst (nV l))) (hb : H b = some (.lst (nV m))) (e : l = m) (hl : l.length < 50000) (q : Q (.bl false) H) : rNeD K (.ref a) (.ref b) H Q := by
  subst e
  refine ⟨nD l, nD l, .lst (SqL.of ha) (dpa_nats l), .lst (SqL.of hb) (dpa_nats l), deep_shaped (nD_deep (n := 0) hl) (by decide), deep_shaped (nD_deep (n := 0) hl) (by decide), ?_⟩
  rw [eqv_same (nD_deep (n := 0) hl)]
  exact q
/-- a comprehension with a test over a list of numbers -/
theorem lc_nats {J : It} {G : Hp → Prop} {l : List Nat} (w : Walk J (nV l).length G (YAt (nV l))) {g : TG} {tt : TT} {te : TE} {vs : List Nat} {σ : L2.St} {H1 : Hp} {D : Addr} {Qd : Hp → Prop} (hD : H1 D = none) (p : Nat → Bool) (hG : ∀ H, Same H1 H → G H) (hn : l.length < 100000)
    (hs : ∀ (i : Nat) H (R : V → Hp → Prop) (Z : Hp → Prop), i ∈ l → Same H1 H → (p i = true → ∀ H4, Same H H4 → R (.int (i : Nat)) H4) → (p i = false → ∀ H4, Same H H4 → Z H4) → g (.int (i : Nat)) (wipe σ vs) H fun σ2 H2 => wipe σ2 vs = wipe σ vs ∧ tt σ2 H2 fun b H3 => if b = true then te σ2 H3 R else Z H3)
    (hd : ∀ H, Same H1 H → H D = some (.lst (nV (l.filter p))) → Qd H) :
    ∃ W : Nat → Nat → Hp → Prop, (∃ m, W 0 m (upd H1 D (.lst []))) ∧ ∀ i m H, W i m H →
      (J.stop i H ∧ Qd H) ∨ (J.go i H ∧ ∃ Nx : Hp → Prop, (∀ H', Nx H' → ∃ m', m' < m ∧ W (i + 1) m' H') ∧ ∀ x H', J.yld i H x H' → g x (wipe σ vs) H' fun σ2 H2 => wipe σ2 vs = wipe σ vs ∧ tt σ2 H2 fun b H3 =>
        if b = true then te σ2 H3 fun y H4 => ∃ acc, H4 D = some (.lst acc) ∧ acc.length < sizeLine ∧ Nx (upd H4 D (.lst (acc ++ [y]))) else Nx H3) := by
  let pv : V → Bool := fun v => match v with | .int i => p i.toNat | _ => false
  refine lc_filt w hD (fun v => v) pv hG (by rw [List.length_map]; exact hn) (fun i x H R Z hx sm hr hz => ?_) (fun H sm hL => ?_)
  · rw [List.getElem?_map] at hx
    cases hl : l[i]? with
    | none => rw [hl] at hx; cases hx
    | some j =>
      rw [hl] at hx
      cases hx
      exact hs j H R Z (List.mem_of_getElem? hl) sm hr hz
  · refine hd H sm (hL.trans ?_)
    rw [List.map_id', nV, List.filter_map]
    rfl
end Hr

set_option Elab.async false
set_option linter.all false
set_option maxRecDepth 100000
set_option maxHeartbeats 4000000
namespace Hr
open PySem PySem.Spec PyProof.Rows L2
/-! ### a call by keywords alone, in any order -/
abbrev pick {α : Type} (ix : List Nat) (l : List α) : List α := ix.filterMap (l[·]?)
structure KwP (fd : FuncData) (ps ks : List Str) (ix : List Nat) : Prop where
  to : ∀ (s : Shared) (us : List Value), us.length = ks.length → BindsTo s fd ⟨[], ks.zip us⟩ (ps.zip (pick ix us))
  len : ks.length = ps.length
theorem vals_pick {vs : List V} {us : List Value} (h : Vals vs us) : ∀ ix : List Nat, Vals (pick ix vs) (pick ix us)
  | [] => .nil
  | i :: r => by
    unfold pick
    rw [List.filterMap_cons, List.filterMap_cons]
    have hl := h.length
    by_cases hi : i < vs.length
    · have h1 := List.getElem?_eq_getElem hi
      have h2 := List.getElem?_eq_getElem (show i < us.length by omega)
      rw [h1, h2]
      exact .cons (vals_get h h1 h2) (vals_pick h r)
    · rw [List.getElem?_eq_none (by omega), List.getElem?_eq_none (by omega)]
      exact vals_pick h r
def tKwP (sp : Sp) (E : XK) (ix : List Nat) (n : Nat) (tk : TA) : TE := fun σ H Q => tk σ H fun vs H1 => vs.length = n ∧ sp (pick ix vs) H1 Q E
section
variable {X : Cx} {CX : CXT} {k : Nat} {f : Addr} {fd : FuncData} {ps ks : List Str} {sp : Sp} {E : XK} {x : Str} {p pos : Pos} {kws : List Keyword} {tk : TA} {ix : List Nat}
theorem pe_kwP (F : FnOk X.prog X.w X.K X.mg X.base CX k f fd ps sp) (hr : Room k X.A) (hg : Gl X x) (hm : X.mg x = some (.ref f)) (hk : PySem.W.keepIn X.K (.ref f) = true) (hb : KwP fd ps ks ix) (hx : Passes CX X E) (hkw : PK X kws tk)
    (hall : (backToKw pos (keywordEach kws X.env)).all (·.1.isSome) = true := by rfl) (hks : (backToKw pos (keywordEach kws X.env)).filterMap (·.1) = ks := by rfl) (hdb : (x == ("__debug__" : Str)) = false := by decide)
    (hpl : ((backTo pos (starEach [] X.env)).any (·.1) || (backToKw pos (keywordEach kws X.env)).any (·.1.isNone)) = false := by rfl) :
    PE X (.Call (.Name x p) [] kws pos) (tKwP sp E ix ks.length tk) := by
  refine ⟨fun pins s σ H Q I h => ?_⟩
  refine wpAny_Call_Name_kw (ld_glob I hg hm ?_ hdb)
  refine PySem.W.callWith_KW0 (h₀ := X.base) I.ok.mod.kin hk hall ?_ hpl
  refine thn (hkw.run pos pins s σ H _ I h) fun us s1 ⟨vs, H1, I1, r, hvl, q⟩ => ⟨I1.kIn, ?_⟩
  rw [hks]
  have hl : us.length = ks.length := by rw [← r.length]; exact hvl
  refine wpAny_call (codeAny_mono (F.run X.A X.stack s1 H1 ⟨[], ks.zip us⟩ (pick ix us) (pick ix vs) Q E hr I1.env0 (hb.to s1 us hl) (vals_pick r ix) q) fun r s' hq => ?_)
  cases r with
  | error e => exact hx pins σ H1 s1 e s' I1 hq
  | ok fl =>
    cases fl with
    | ret u => exact I1.after hq
    | next => exact False.elim hq
    | brk => exact False.elim hq
    | cont => exact False.elim hq
end
theorem kp_of {K : PySem.W.Frag} {x qual : Str} {st : Stmt} {f : Addr} {fd : FuncData} {ps ks : List Str} {ix : List Nat} (F : Fun K x qual st f fd) (hl : ks.length = ps.length)
    (h : ∀ (kV doc pm : Value) (an : Option Addr) (cdv ct : Value) (us : List Value), us.length = ks.length → bindArgs (PySem.W.fnOf x qual (defArgs st) (defBody st) (defScope st) .none kV doc pm an cdv ct) ⟨[], ks.zip us⟩ = pure (ps.zip (pick ix us))) : KwP fd ps ks ix := by
  obtain ⟨oc, od, kV, doc, pm, an, cdv, ct, osl, rfl, lk, hcd⟩ := F.ex
  exact ⟨fun s us hl => .of_eq (h kV doc pm an cdv ct us hl), hl⟩
/-! ### min with a default -/
def minI : List Int → Option Int
  | [] => none
  | y :: ys => some (PySem.W.minOf y ys)
@[irreducible] def rMinD (K : PySem.W.Frag) : List V → List V → Hp → VK → Prop := fun vs zs H Q => ∃ (a : Addr) (ns : List Int) (d : V), vs = [.ref a] ∧ zs = [d] ∧ SqL K H a (ns.map V.int) ∧ Q (match minI ns with | none => d | some i => .int i) H
theorem cr_minD {X : Cx} (hc : X.calm = true) (hu : X.A.units + 64 < cLine) : CallRK X (.builtin "min") [Str.ofString "default"] (rMinD X.K) := by
  intro pins s σ H vs zs us ws Q I r rz h
  unfold rMinD at h
  obtain ⟨a, ns, d, rfl, rfl, hs, q⟩ := h
  obtain rfl := Vals.ref1 r
  obtain ⟨w1, rfl, rd⟩ := vals1 rz
  obtain ⟨its, rv, hl, _⟩ := I.list hs
  obtain ⟨as, ra⟩ := Dp.readsAll I (ns.map PyData.int) _ _ (dpa_ints ns) rv
  refine PySem.W.min_list_datum_default (α := Int) (xs := ns) (I.ok.hd hc) hl.isList ⟨as, ra⟩ (by show X.A.units + 1 + 0 < cLine; omega) (fun e h' tk k => ?_) fun y ys i v h' tk e hv hh k => ?_
  · subst e
    exact ⟨d, H, I.kept k, rd, q⟩
  · subst e
    obtain ⟨bs, rd⟩ := hh
    cases rd
    exact ⟨.int _, H, I.kept k, ⟨_, rfl⟩, q⟩
theorem cr_minDK {X : Cx} {K : PySem.W.Frag} (hc : X.calm = true) (hu : X.A.units + 64 < cLine) (e : X.K = K := by rfl) : CallRK X (.builtin "min") [Str.ofString "default"] (rMinD K) := e ▸ cr_minD hc hu
theorem minOf_mem : ∀ (ys : List Int) (y : Int), PySem.W.minOf y ys ∈ y :: ys := by
  intro ys
  unfold PySem.W.minOf
  induction ys with
  | nil => intro y; simp
  | cons x r ih =>
    intro y
    rw [List.foldl_cons]
    split
    · exact List.mem_cons_of_mem _ (ih x)
    · rcases List.mem_cons.mp (ih y) with h | h
      · rw [h]; exact List.mem_cons_self
      · exact List.mem_cons_of_mem _ (List.mem_cons_of_mem _ h)
theorem minOf_le : ∀ (ys : List Int) (y : Int), ∀ x ∈ y :: ys, PySem.W.minOf y ys ≤ x := by
  intro ys
  unfold PySem.W.minOf
  induction ys with
  | nil => intro y x hx; rw [List.mem_singleton.mp hx]; exact Int.le_refl _
  | cons z r ih =>
    intro y x hx
    rw [List.foldl_cons]
    have hlt : ∀ a b : Int, PySem.W.DatumOrd.lt a b = true ↔ a < b := fun a b => by
      show decide (a < b) = true ↔ _
      exact decide_eq_true_iff
    split
    · rename_i h
      have h' := (hlt _ _).mp h
      rcases List.mem_cons.mp hx with rfl | hx
      · have := ih z z List.mem_cons_self
        omega
      · exact ih z x hx
    · rename_i h
      have h' : ¬ z < y := fun q => h ((hlt _ _).mpr q)
      rcases List.mem_cons.mp hx with rfl | hx
      · exact ih x x List.mem_cons_self
      · rcases List.mem_cons.mp hx with rfl | hx
        · have := ih y y List.mem_cons_self
          omega
        · exact ih y x (List.mem_cons_of_mem _ hx)
theorem minI_some {l : List Int} {i : Int} (h : i ∈ l) (hl : ∀ x ∈ l, i ≤ x) : minI l = some i := by
  cases l with
  | nil => cases h
  | cons y ys =>
    show some (PySem.W.minOf y ys) = some i
    have h1 := minOf_le ys y i h
    have h2 := hl _ (minOf_mem ys y)
    congr 1
    omega
/-- a list of numbers that are those below n with p: its least is the first one found -/
theorem minI_find {l : List Nat} {n : Nat} {p : Nat → Bool} (h : ∀ i, i ∈ l ↔ i < n ∧ p i = true) : minI (l.map fun (i : Nat) => (i : Int)) = ((List.range n).find? p).map fun (i : Nat) => (i : Int) := by
  cases hf : (List.range n).find? p with
  | none =>
    rw [List.find?_range_eq_none] at hf
    cases l with
    | nil => rfl
    | cons x r =>
      have := (h x).mp List.mem_cons_self
      have h2 := hf x this.1
      rw [this.2] at h2
      cases h2
  | some i =>
    rw [List.find?_range_eq_some] at hf
    refine minI_some (List.mem_map.mpr ⟨i, (h i).mpr ⟨by simpa using hf.2.1, hf.1⟩, rfl⟩) fun x hx => ?_
    obtain ⟨j, hj, rfl⟩ := List.mem_map.mp hx
    have k := (h j).mp hj
    by_cases hji : j < i
    · have h2 := hf.2.2 j hji
      rw [k.2] at h2
      cases h2
    · show (i : Int) ≤ (j : Int)
      omega
end Hr
namespace Hr
open PySem PySem.Spec PyProof.Rows L2
theorem pe_revLK {X : Cx} {K : PySem.W.Frag} {e : Expr} {te : TE} {k : Nat} {p1 p2 p3 pos : Pos} (he : PE X e te) (hK : X.K = K := by rfl) : PE X (.Subscript e (.Slice none none (some (.UnaryOp .USub (.Constant (.int 1) k p1) p2)) p3) pos) (tRevL K te) := hK ▸ pe_revL he
/-- one statement, then the others: what stands between them -/
theorem seq_join {s1 s2 : TS} {D : Ends} {σ : L2.St} {H : Hp} (J : L2.St → Hp → Prop) (h1 : ∀ N : L2.St → Hp → Prop, (∀ σ' H', J σ' H' → N σ' H') → s1 { D with nx := N } σ H) (h2 : ∀ σ' H', J σ' H' → s2 D σ' H') : tSeq s1 s2 D σ H := h1 _ h2
end Hr

set_option Elab.async false
set_option linter.all false
set_option maxRecDepth 100000
set_option maxHeartbeats 4000000
/-! enumerate(tuple); tuple(list) whose object is known -/
namespace Hr
open PySem PySem.Spec PyProof.Rows L2
set_option maxHeartbeats 8000000 in
theorem meets_enum1B {v : Value} {o : Obj} {H : Heap → Prop} (B : Begins v o H) :
    Meets (Builtin.«enumerate.__new__» ⟨[.type "enumerate", v], []⟩) (fun _ R s => H s.heap ∧
      R (.ok (.ret (.ref (s.heap.push o).objs.size))) { s with heap := (s.heap.push o).push { cls := .type "enumerate", data := .fields #[.none, .bool false, .ref s.heap.objs.size, rawInt 0, .none, .none] } }) :=
  .of_wp fun prog w A R s h => by
    obtain ⟨hp, g, d, tk, os⟩ := s; obtain ⟨h1, h⟩ := h
    have hsub := sub_enumerate
    have q1 : ∀ {A' : Around} {E : Value → Shared → Prop} {Q : Value → Shared → Prop}, Q (.ref hp.objs.size) ⟨hp.push o, g, d, tk, os⟩ → wpAny (model prog w) A' (pyIter v) Q E ⟨hp, g, d, tk, os⟩ :=
      fun q => B.iter prog w _ _ ⟨hp, g, d, tk, os⟩ _ h1 q
    wp_walk using q1
    refine wpAny_stack_any fun st => wpAny_pure ?_
    split
    · rename_i c _ _ _ _ _
      cases (c == Value.type "enumerate")
      · wp_walk using q1
        exact ⟨_, rfl, h⟩
      · wp_walk using q1
        exact ⟨_, rfl, h⟩
    · wp_walk using q1
      exact ⟨_, rfl, h⟩
section
variable {prog : Program} {w : World} {A : Around} {E : Value → Shared → Prop} {s : Shared}
theorem call_enum1 {v : Value} {o : Obj} {H : Heap → Prop} {Q : Value → Shared → Prop} (B : Begins v o H) (h1 : H s.heap)
    (h : ∀ h', IsEnum h' (s.heap.objs.size + 1) s.heap.objs.size 0 .none → h'.get? s.heap.objs.size = some o → h'.objs.size = s.heap.objs.size + 2 →
      (∀ b o, s.heap.get? b = some o → h'.get? b = some o) → Q (.ref (s.heap.objs.size + 1)) { s with heap := h' }) :
    wpAny (model prog w) A (call (.type "enumerate") [v]) Q E s := by
  refine callType_new F.called_enumerate (by decide) (F.typeCall_enumerate_1 _) (F.newCall_enumerate_1 _) (fun obj => F.args_object_init_2 obj _) F.entry_enumerate_new
    (meets_enum1B B) ⟨h1, ?_⟩
  have hz : (s.heap.push o).objs.size = s.heap.objs.size + 1 := Heap.size_push ..
  show _ ∧ _
  rw [hz]
  have he : IsEnum ((s.heap.push o).push { cls := .type "enumerate", data := .fields #[.none, .bool false, .ref s.heap.objs.size, rawInt 0, .none, .none] }) (s.heap.objs.size + 1) s.heap.objs.size 0 .none := by
    have := Heap.get?_push_size (s.heap.push o) (o := { cls := .type "enumerate", data := .fields #[.none, .bool false, .ref s.heap.objs.size, rawInt 0, .none, .none] }) rfl
    rw [hz] at this; exact this
  refine ⟨⟨_, he, rfl⟩, h _ he (Heap.get?_push_of_some _ (Heap.get?_push_size _ B.free)) (by rw [Heap.size_push, hz]) fun b o x => Heap.get?_push_of_some _ (Heap.get?_push_of_some _ x)⟩
end
/-- the tuple at a as it stands at each turn, the items in new pairs -/
def IteT (K : PySem.W.Frag) (a : Addr) : It :=
  ⟨fun i H => ∃ (xs : List V) (x : V), SqT K H a xs ∧ xs[i]? = some x, fun i H v H' => ∃ T x, v = .ref T ∧ H T = none ∧ H' = upd H T (.tup [.int (i : Nat), x]) ∧ ∀ xs, SqT K H a xs → xs[i]? = some x, fun i H => ∃ xs : List V, SqT K H a xs ∧ xs.length = i⟩
theorem turn_enumT {P : Program} {w : World} {K : PySem.W.Frag} {elts : List Expr} {kk : Nat} {tpos : Pos} (a e it : Addr) (hae : a ≠ e) (hai : a ≠ it) :
    Turn P w K (.Tuple elts kk tpos) (IteT K a) [e, it] e (fun i h => (∃ old, IsEnum h e it ((i : Nat) : Int) old) ∧ h.IsTupleIter it a i ∧ e ≠ it) where
  mem := by simp
  obj := fun i h st b hb => by
    obtain ⟨⟨old, he⟩, ⟨o, ho, hc, hd⟩, _⟩ := st
    have e' : b = e ∨ b = it := by simpa using hb
    rcases e' with z | z
    · rw [z]; exact ⟨_, he, fun v q => nomatch q⟩
    · rw [z]; exact ⟨o, ho, fun v q => by rw [hd] at q; cases q⟩
  keep := fun i h h' st k => let ⟨⟨old, he⟩, hi, hne⟩ := st; ⟨⟨old, k e (by simp) _ he⟩, hi.at fun o q => k it (by simp) o q, hne⟩
  item := by
    intro X hP hw hK hc i pins s σ H E I hf st hg
    subst hP hw hK
    obtain ⟨⟨old, he⟩, hit, hne⟩ := st
    obtain ⟨xs, x, hq, hx⟩ := hg
    obtain ⟨its, rv, p, hz⟩ := I.tuple hq
    obtain ⟨u, hu, ru⟩ := rv.get hx
    have hel : e < s.heap.objs.size := Heap.lt_size he
    have hil : it < s.heap.objs.size := by obtain ⟨_, q, _⟩ := hit; exact Heap.lt_size q
    have hlt : i < its.toArray.size := by
      have := (List.getElem?_eq_some_iff.mp hu).1
      simpa using this
    refine wpAny_pyNext_enum_itemC (Draws.tuple (A := X.A.in1) (I.ok.hd hc) it a hai its.toArray) he ⟨hit, show s.heap.IsTuple a its.toArray from p⟩ hlt hne (by simp [hne, Ne.symm hae]) fun x' h' tk hx' ho hst hT hsz hk => ?_
    have ex : x' = u := by
      have h1 : its.toArray[i]? = some x' := hx'
      have h2 : its.toArray[i]? = some u := by simpa using hu
      exact Option.some.inj (h1.symm.trans h2)
    subst ex
    refine ⟨_, rfl, wpAny_letOwnedTupleGo_enum (s := { s with heap := h', toks := tk + 1 }) ho fun h'' he' sb => ?_⟩
    have hT2 : h''.get? s.heap.objs.size = some { cls := .type "tuple", data := .seq #[.int i tk, x'] } := (sb.2 _ (Nat.ne_of_gt hel)).trans hT
    have new : ObjOk X.prog X.w (upd H s.heap.objs.size (.tup [.int (i : Nat), x])) h'' s.heap.objs.size (.tup [.int (i : Nat), x]) :=
      ⟨by show 2 ≤ sizeLine; decide, [.int i tk, x'], .cons ⟨_, rfl⟩ (.cons ru .nil), ⟨_, hT2, rfl, _, rfl⟩⟩
    have I1 : Inv X pins σ (upd H s.heap.objs.size (.tup [.int (i : Nat), x])) { s with heap := h'', toks := tk + 1 } :=
      I.turnedNew (ch := [e, it]) (fun b ob hb q => (sb.2 b (fun z => hb (by simp [z]))).trans (hk b ob (fun z => hb (by simp [z])) (fun z => hb (by simp [z])) q)) hf (Nat.le_refl _) new
    refine ⟨.ref s.heap.objs.size, _, I1, rfl, ⟨_, x, rfl, I.hok.fresh (Nat.le_refl _), rfl, fun ys hy => by rw [I.tuple_inj hy hq]; exact hx⟩, ⟨⟨x', ?_⟩, hst.1.at fun o q => (sb.2 it (Ne.symm hne)).trans q, hne⟩, fun b hb => ?_⟩
    · have e1 : ((i + 1 : Nat) : Int) = (i : Int) + 1 := by omega
      rw [e1]; exact he'
    · have hb' : b < s.heap.objs.size := by
        have e' : b = e ∨ b = it := by simpa using hb
        rcases e' with z | z
        · rw [z]; exact hel
        · rw [z]; exact hil
      rw [upd_ne (Nat.ne_of_lt hb')]
      exact (hf b hb).1
  done := by
    intro X hP hw hK hc i pins s σ H E I hf st hg
    subst hP hw hK
    obtain ⟨⟨old, he⟩, hit, hne⟩ := st
    obtain ⟨xs, hq, hx⟩ := hg
    obtain ⟨its, rv, p, hz⟩ := I.tuple hq
    obtain ⟨f0, f1, f2, f3, f4, f5⟩ := hf it (by simp)
    have hl := rv.length
    have ei : i = its.toArray.size := by simp; omega
    refine wpAny_pyNext_enum_endD (Draws.tuple (A := X.A.in1) (I.ok.hd hc) it a hai its.toArray) he (ei ▸ ⟨hit, show s.heap.IsTuple a its.toArray from p⟩) fun h' eb => ⟨rfl, I.turned (t' := s.toks) (fun b o hb q => eb b o hb q) f0 f1 f3 f4 f5⟩
  self := fun A i s Q E st h => let ⟨⟨_, he⟩, _⟩ := st; wpAny_pyIter_enum he h
def iEnumA (K : PySem.W.Frag) (ta : TA) : TI := fun σ H R => ta σ H fun vs H1 => ∃ a xs, vs = [.ref a] ∧ ((SqL K H1 a xs ∧ R (Ite K a) H1) ∨ (SqT K H1 a xs ∧ R (IteT K a) H1))
theorem pi_enumA {X : Cx} {e : Expr} {ta : TA} {p pos tpos : Pos} {elts : List Expr} {kk : Nat} (hg : Gl X "enumerate") (hm : X.mg "enumerate" = none) (ha : PA X [e] ta) (hs : starEach [e] X.env = [(false, eval e X.env)] := by rfl) :
    PI X (.Tuple elts kk tpos) (.Call (.Name "enumerate" p) [e] [] pos) (iEnumA X.K ta) := by
  refine ⟨fun pins s σ H R I h => ?_⟩
  refine Call_ (ld_blt I hg hm boot_enumerate (PyProof.Rows.callWith_type1 (thn (ha.run pos pins s σ H _ I h) fun us s1 ⟨vs, H1, I1, r1, q1⟩ => ?_) hs rfl))
  obtain ⟨a, xs, ex, q⟩ := q1
  subst ex
  cases r1 with
  | cons r rr =>
    cases rr
    cases r
    have fresh : ∀ b, b ∈ [s1.heap.objs.size + 1, s1.heap.objs.size] → FpOk X pins H1 b := fun b hb => by
      have e' : b = s1.heap.objs.size + 1 ∨ b = s1.heap.objs.size := by simpa using hb
      have hle : s1.heap.objs.size ≤ b := by
        rcases e' with z | z
        · rw [z]; exact Nat.le_add_right _ _
        · rw [z]; exact Nat.le_refl _
      exact I1.fpOk hle (I1.hok.fresh hle)
    rcases q with ⟨hq, q⟩ | ⟨hq, q⟩
    · obtain ⟨its, rv, p', hz⟩ := I1.list hq
      refine call_enumerate_list p'.isList fun h' he hit hsz hk => wpAny_pyIter_enum he ?_
      have I2 : Inv X pins σ H1 { s1 with heap := h' } := I1.kept (t' := s1.toks) hk
      exact ⟨s1.heap.objs.size + 1, [s1.heap.objs.size + 1, s1.heap.objs.size], _, _, H1, rfl, I2, turn_enum a (s1.heap.objs.size + 1) s1.heap.objs.size, ⟨⟨.none, he⟩, hit, Nat.succ_ne_self _⟩, fresh, q⟩
    · obtain ⟨its, rv, p', hz⟩ := I1.tuple hq
      have ht : s1.heap.IsTuple a its.toArray := p'
      have hal : a < s1.heap.objs.size := by obtain ⟨o, ho, _⟩ := id ht; exact Heap.lt_size ho
      refine call_enum1 (begins_tuple a its.toArray) ht fun h' he ho hsz hk => wpAny_pyIter_enum he ?_
      have I2 : Inv X pins σ H1 { s1 with heap := h' } := I1.kept (t' := s1.toks) hk
      exact ⟨s1.heap.objs.size + 1, [s1.heap.objs.size + 1, s1.heap.objs.size], _, _, H1, rfl, I2, turn_enumT a (s1.heap.objs.size + 1) s1.heap.objs.size (Nat.ne_of_lt (Nat.lt_succ_of_lt hal)) (Nat.ne_of_lt hal), ⟨⟨.none, he⟩, ⟨_, ho, rfl, rfl⟩, Nat.succ_ne_self _⟩, fresh, q⟩
theorem walk_enumT {K : PySem.W.Frag} {a : Addr} {xs : List V} : Walk (IteT K a) xs.length (fun H => SqT K H a xs) (YPair (fun i => some (.int (i : Nat))) (fun i => xs[i]?)) := by
  refine ⟨fun i _ hi q => ⟨xs, xs[i], q, by simp [hi]⟩, fun _ q => ⟨xs, q, rfl⟩, fun i H v H' _ q y => ?_⟩
  obtain ⟨T, x, h1, h2, h3, h4⟩ := y
  exact ⟨T, .int (i : Nat), x, h1, h2, h3, rfl, h4 xs q⟩
def rTupF (K : PySem.W.Frag) : List V → Hp → VK → Prop := fun xs H Q => ∃ p ys, xs = [.ref p] ∧ SqL K H p ys ∧ ∀ l o, H l = none → o.dict = none → Q (.ref l) (upd H l (.frz o (.tup ys)))
section
variable {X : Cx}
theorem call_tupF : CallR X (.type "tuple") (rTupF X.K) := by
  intro pins s σ H xs us Q I r h
  obtain ⟨p, ys, rfl, hq, q⟩ := h
  obtain ⟨u, rfl, rx⟩ := vals1 r
  cases rx
  obtain ⟨its, r', pl, hz⟩ := I.list hq
  have hlen := r'.length
  refine call_tuple_list pl.isList (fun h' kp => ?_) (by simp only [List.size_toArray] <;> omega)
  have I1 : Inv X pins σ H { s with heap := h' } := I.kept (t' := s.toks) kp
  have I2 : Inv X pins σ (upd H h'.objs.size (.frz { cls := .type "tuple", data := .seq its.toArray } (.tup ys))) { s with heap := h'.push { cls := .type "tuple", data := .seq its.toArray } } :=
    I1.laid (t' := s.toks) (fun b o e => Heap.get?_push_of_some _ e) (Nat.le_refl _) (show ObjOk X.prog X.w _ _ _ (.frz _ (.tup ys)) from ⟨Heap.get?_push_size _ rfl, hz, its, r', IsTup.new _ _⟩)
  exact ⟨.ref h'.objs.size, _, I2, rfl, q _ _ (I1.hok.fresh (Nat.le_refl _)) rfl⟩
theorem call_tupFK {K : PySem.W.Frag} (e : X.K = K := by rfl) : CallR X (.type "tuple") (rTupF K) := e ▸ call_tupF
theorem pi_enumAK {K : PySem.W.Frag} {e : Expr} {ta : TA} {p pos tpos : Pos} {elts : List Expr} {kk : Nat} (hg : Gl X "enumerate") (hm : X.mg "enumerate" = none) (ha : PA X [e] ta) (hs : starEach [e] X.env = [(false, eval e X.env)] := by rfl) (hK : X.K = K := by rfl) :
    PI X (.Tuple elts kk tpos) (.Call (.Name "enumerate" p) [e] [] pos) (iEnumA K ta) := hK ▸ pi_enumA hg hm ha hs
end
end Hr

set_option Elab.async false
set_option linter.all false
set_option maxRecDepth 100000
set_option maxHeartbeats 4000000
/-! defs with a default (); walks over a list or a tuple; zip of tuples of any lengths -/
namespace Hr
open PySem PySem.Spec PyProof.Rows L2
theorem funD_mk {K : PySem.W.Frag} {x qual : Str} {st : Stmt} {f T e : Addr} {oc ocT : Value} {od an odT : Option Addr} {osl slT : Array (Option Value)} {kV doc pm cdv ct : Value} {n : Nat}
    (l : K.lookup f = some ⟨oc, od, .func (PySem.W.fnOf x qual (defArgs st) (defBody st) (defScope st) (.ref T) kV doc pm an cdv ct), osl⟩)
    (c : PySem.W.codeIn K cdv qual = true) (k : PySem.W.keepIn K (.ref f) = true) (lT : K.lookup T = some ⟨ocT, odT, .seq #[.ref e] n, slT⟩) :
    FunD K x qual (defArgs st) (defBody st) (defScope st) [.ref e] [] f (PySem.W.fnOf x qual (defArgs st) (defBody st) (defScope st) (.ref T) kV doc pm an cdv ct) :=
  ⟨⟨oc, od, .ref T, kV, doc, pm, an, cdv, ct, osl, rfl, l, c, .inr ⟨by simp, T, _, [.ref e], n, rfl, lT, rfl, .cons rfl .nil⟩, .inl rfl⟩, k⟩
theorem bindsD_all {K : PySem.W.Frag} {fd : FuncData} {ps : List Str} {v : V} (h : ∃ ds, Vals (([v] : List V).drop 1) ds ∧ Binds K fd ps ds) : Binds K fd ps [] := by
  obtain ⟨ds, h1, h2⟩ := h
  cases h1
  exact h2
theorem sqT_empty {K : PySem.W.Frag} {H : Hp} {e : Addr} {n : Nat} {sl : Array (Option Value)} (h : K.lookup e = some ⟨.type "tuple", none, .seq #[] n, sl⟩) : SqT K H e [] :=
  .inr ⟨_, #[], n, h, rfl, rfl, Nat.zero_le _, .nil⟩
section
variable {X : Cx} {tg : Expr}
def iSeq (K : PySem.W.Frag) (tl : TE) : TI := fun σ H R => tl σ H fun x H1 => ∃ a, x = .ref a ∧ (((∃ xs, SqL K H1 a xs) ∧ R (Itl K a) H1) ∨ ((∃ xs, SqT K H1 a xs) ∧ R (Itt K a) H1))
theorem pi_seqK {K : PySem.W.Frag} {l : Expr} {tl : TE} (hl : PE X l tl) (hK : X.K = K := by rfl) : PI X tg l (iSeq K tl) := by
  subst hK
  refine ⟨fun pins s σ H R I h => ?_⟩
  refine thn (hl.run pins s σ H _ I h) fun v s1 ⟨x, H1, I1, r1, q1⟩ => ?_
  obtain ⟨a, e, q1⟩ := q1
  subst e
  cases r1
  rcases q1 with ⟨⟨xs, hq⟩, q⟩ | ⟨⟨xs, hq⟩, q⟩
  · obtain ⟨its, rv, p, hz⟩ := I1.list hq
    refine wpAny_pyIter_list p.isList ?_
    refine ⟨s1.heap.objs.size, [s1.heap.objs.size], _, _, H1, rfl, I1.kept (t' := s1.toks) fun b o e => Heap.get?_push_of_some _ e, turn_list a _, ⟨_, Heap.get?_push_size _ rfl, rfl, rfl⟩, fun b hb => ?_, q⟩
    have e : b = s1.heap.objs.size := by simpa using hb
    subst e
    exact I1.fpOk (Nat.le_refl _) (I1.hok.fresh (Nat.le_refl _))
  · obtain ⟨its, rv, p, hz⟩ := I1.tuple hq
    refine wpAny_pyIter_tuple (show s1.heap.IsTuple a its.toArray from p) ?_
    refine ⟨s1.heap.objs.size, [s1.heap.objs.size], _, _, H1, rfl, I1.kept (t' := s1.toks) fun b o e => Heap.get?_push_of_some _ e, turn_tuple a _, ⟨_, Heap.get?_push_size _ rfl, rfl, rfl⟩, fun b hb => ?_, q⟩
    have e : b = s1.heap.objs.size := by simpa using hb
    subst e
    exact I1.fpOk (Nat.le_refl _) (I1.hok.fresh (Nat.le_refl _))
end
theorem walk_zipTm {K : PySem.W.Frag} {a b : Addr} {xs ys : List V} {n : Nat} (hn : n = min xs.length ys.length) : Walk (RZ.ItzT K a b) n (fun H => SqT K H a xs ∧ SqT K H b ys) (YPair (fun i => xs[i]?) (fun i => ys[i]?)) := by
  subst hn
  refine ⟨fun i _ hi q => ?_, fun _ q => ⟨xs, ys, q.1, q.2, by omega⟩, fun i H v H' _ q y => ?_⟩
  · have h1 : i < xs.length := by omega
    have h2 : i < ys.length := by omega
    exact ⟨xs, ys, xs[i], ys[i], q.1, q.2, by simp [h1], by simp [h2]⟩
  · obtain ⟨T, x, z, h1, h2, h3, h4, h5⟩ := y
    exact ⟨T, x, z, h1, h2, h3, h4 xs q.1, h5 ys q.2⟩
/-! ### problems as data -/
abbrev Pr2 := Nat × Nat
abbrev Rp := List Nat × List Nat
def nTD (l : List Nat) : PyData := .tuple (l.map fun i => PyData.int (i : Nat))
def pD (p : Pr2) : PyData := .tuple [.int (p.1 : Nat), .int (p.2 : Nat)]
def rD (r : Rp) : PyData := .tuple [nTD r.1, nTD r.2]
/-- a list or a tuple of data -/
def SqA (K : PySem.W.Frag) (H : Hp) (v : V) (ds : List PyData) : Prop := ∃ a xs, v = .ref a ∧ (SqL K H a xs ∨ SqT K H a xs) ∧ DpAll K H xs ds
theorem SqA.same {K : PySem.W.Frag} {H H' : Hp} {v : V} {ds : List PyData} (h : SqA K H v ds) (s : Same H H') : SqA K H' v ds := by
  obtain ⟨a, xs, e, h1, h2⟩ := h
  exact ⟨a, xs, e, h1.imp s.seq (Same.seqT s), dpa_mono s h2⟩
theorem SqA.lst {K : PySem.W.Frag} {H : Hp} {v : V} {ds : List PyData} (h : Dp K H v (.list ds)) : SqA K H v ds := by
  cases h with
  | lst h1 h2 => exact ⟨_, _, rfl, .inl h1, h2⟩
theorem SqA.tup {K : PySem.W.Frag} {H : Hp} {v : V} {ds : List PyData} (h : Dp K H v (.tuple ds)) : SqA K H v ds := by
  cases h with
  | tup h1 h2 => exact ⟨_, _, rfl, .inr h1, h2⟩
def Asc (l : List Nat) : Prop := l.Pairwise (· < ·)
structure POk (n : Nat) (ps : List Pr2) (rs : List Rp) : Prop where
  size : n ≤ 30
  pairs : ∀ p ∈ ps, p.1 ≠ p.2 ∧ p.1 < n ∧ p.2 < n
  reps : ∀ r ∈ rs, r.1 ≠ [] ∧ Asc r.1 ∧ Asc r.2 ∧ (∀ x ∈ r.1, x < n) ∧ ∀ x ∈ r.2, x ∈ r.1
  np : ps.length ≤ 1200
  nr : rs.length ≤ 200
theorem asc_from {n : Nat} : ∀ {l : List Nat} {m : Nat}, Asc l → (∀ x ∈ l, m ≤ x ∧ x < n) → l.length + m ≤ n ∨ l = []
  | [], _, _, _ => .inr rfl
  | x :: r, m, h, hb => by
    have h' := List.pairwise_cons.mp h
    have hx := hb x List.mem_cons_self
    rcases asc_from (l := r) (m := x + 1) h'.2 (fun y hy => ⟨h'.1 y hy, (hb y (List.mem_cons_of_mem _ hy)).2⟩) with k | k
    · left
      rw [List.length_cons]
      omega
    · subst k
      left
      show 1 + m ≤ n
      omega
theorem asc_le {n : Nat} {l : List Nat} (h : Asc l) (hb : ∀ x ∈ l, x < n) : l.length ≤ n := by
  rcases asc_from (m := 0) h (fun x hx => ⟨Nat.zero_le _, hb x hx⟩) with k | k
  · omega
  · subst k
    exact Nat.zero_le _
theorem nt_open {K : PySem.W.Frag} {H : Hp} {v : V} {l : List Nat} (h : Dp K H v (nTD l)) : ∃ a, v = .ref a ∧ SqT K H a (nV l) := by
  unfold nTD at h
  cases h with
  | tup h1 h2 =>
    obtain rfl := nats_inv h2
    exact ⟨_, rfl, h1⟩
theorem p_open {K : PySem.W.Frag} {H : Hp} {v : V} {p : Pr2} (h : Dp K H v (pD p)) : ∃ a, v = .ref a ∧ SqT K H a [.int (p.1 : Nat), .int (p.2 : Nat)] := by
  unfold pD at h
  cases h with
  | tup h1 h2 =>
    cases h2 with
    | cons y1 r1 =>
      cases y1
      cases r1 with
      | cons y2 r2 =>
        cases y2
        cases r2
        exact ⟨_, rfl, h1⟩
theorem r_open {K : PySem.W.Frag} {H : Hp} {v : V} {r : Rp} (h : Dp K H v (rD r)) : ∃ a s g, v = .ref a ∧ SqT K H a [.ref s, .ref g] ∧ SqT K H s (nV r.1) ∧ SqT K H g (nV r.2) := by
  unfold rD at h
  cases h with
  | tup h1 h2 =>
    cases h2 with
    | cons y1 r1 =>
      obtain ⟨s, rfl, hs⟩ := nt_open y1
      cases r1 with
      | cons y2 r2 =>
        obtain ⟨g, rfl, hg⟩ := nt_open y2
        cases r2
        exact ⟨_, s, g, rfl, h1, hs, hg⟩
theorem cut1 {K : PySem.W.Frag} {H : Hp} {a : Addr} {xs : List V} {Q : V → Hp → Prop} (h : SqT K H a xs) (q : ∀ b H', Same H H' → SqT K H' b xs.tail → Q (.ref b) H') :
    ((HT.sIx xs.length 0 (some 1) = 0 ∧ HT.sIx xs.length xs.length none = xs.length) → Q (.ref a) H) ∧ (¬ (HT.sIx xs.length 0 (some 1) = 0 ∧ HT.sIx xs.length xs.length none = xs.length) → ∀ b, H b = none → Q (.ref b) (upd H b (.tup (cutV xs (some 1) none)))) := by
  cases xs with
  | nil => exact ⟨fun _ => q a H (Same.refl _) h, fun z => absurd ⟨rfl, rfl⟩ z⟩
  | cons x r =>
    refine ⟨fun z => absurd z (cut_tail_ne _ _), fun _ b hb => ?_⟩
    rw [cut_tail]
    exact q b _ (same_new hb) (SqT.of upd_same)
theorem tsl_tail {K : PySem.W.Frag} {σ : L2.St} {H : Hp} {i : Nat} {a : Addr} {xs : List V} {Q : VK} (hv : σ[i]? = some (some (.ref a))) (h : SqT K H a xs) (q : ∀ b H', Same H H' → SqT K H' b xs.tail → Q (.ref b) H') :
    tSl (rSlA K) (tVar i) (tPart (tC (.int 1))) tNoPart σ H Q := ⟨_, hv, 1, rfl, a, _, rfl, h, cut1 h q⟩
theorem enumA_var {K : PySem.W.Frag} {σ : L2.St} {H : Hp} {i : Nat} {a : Addr} {xs : List V} {R : It → Hp → Prop} (hv : σ[i]? = some (some (.ref a))) (h : SqL K H a xs ∨ SqT K H a xs)
    (q : ∀ (J : It) (G : Hp → Prop), Walk J xs.length G (YPair (fun i => some (.int (i : Nat))) (fun i => xs[i]?)) → (∀ H', Same H H' → G H') → R J H) : iEnumA K (tCons (tVar i) tNil) σ H R := by
  refine ⟨_, hv, a, xs, rfl, ?_⟩
  rcases h with h | h
  · exact .inl ⟨h, q _ _ walk_enum fun H' s => s.seq h⟩
  · exact .inr ⟨h, q _ _ walk_enumT fun H' s => Same.seqT s h⟩
theorem seq_var {K : PySem.W.Frag} {σ : L2.St} {H : Hp} {i : Nat} {a : Addr} {xs : List V} {R : It → Hp → Prop} (hv : σ[i]? = some (some (.ref a))) (h : SqL K H a xs ∨ SqT K H a xs)
    (q : ∀ (J : It) (G : Hp → Prop), Walk J xs.length G (YAt xs) → (∀ H', Same H H' → G H') → R J H) : iSeq K (tVar i) σ H R := by
  refine ⟨_, hv, a, rfl, ?_⟩
  rcases h with h | h
  · exact .inl ⟨⟨_, h⟩, q _ _ walk_list fun H' s => s.seq h⟩
  · exact .inr ⟨⟨_, h⟩, q _ _ walk_tup fun H' s => Same.seqT s h⟩
theorem for_enumA {K : PySem.W.Frag} {g : TG} {tb : TS} {D : Ends} {σ : L2.St} {H : Hp} {i : Nat} {a : Addr} {xs : List V} (hv : σ[i]? = some (some (.ref a))) (h : SqL K H a xs ∨ SqT K H a xs) (Pv : Nat → L2.St → Hp → Prop) (h0 : Pv 0 σ H) (hG : ∀ i σ' H', Pv i σ' H' → Same H H')
    (hs : ∀ i x σ' H' H'', i < xs.length → Pv i σ' H' → YPair (fun i => some (.int (i : Nat))) (fun i => xs[i]?) i H' x H'' → g x σ' H'' fun σ2 H2 => tb { D with nx := Pv (i + 1), ct := Pv (i + 1), bk := D.nx } σ2 H2) (hd : ∀ σ' H', Pv xs.length σ' H' → D.nx σ' H') :
    tFor (iEnumA K (tCons (tVar i) tNil)) g tb D σ H :=
  enumA_var hv h fun J G w hG' => for_it w Pv h0 (fun j σ' H' _ p => hG' H' (hG j σ' H' p)) hs hd
/-- the list is changed in the loop: G told by the invariant -/
theorem for_enumA' {K : PySem.W.Frag} {g : TG} {tb : TS} {D : Ends} {σ : L2.St} {H : Hp} {i : Nat} {a : Addr} {xs : List V} (hv : σ[i]? = some (some (.ref a))) (h : SqL K H a xs ∨ SqT K H a xs) (Pv : Nat → L2.St → Hp → Prop) (h0 : Pv 0 σ H) (hG : ∀ i σ' H', Pv i σ' H' → (SqL K H a xs → SqL K H' a xs) ∧ (SqT K H a xs → SqT K H' a xs))
    (hs : ∀ i x σ' H' H'', i < xs.length → Pv i σ' H' → YPair (fun i => some (.int (i : Nat))) (fun i => xs[i]?) i H' x H'' → g x σ' H'' fun σ2 H2 => tb { D with nx := Pv (i + 1), ct := Pv (i + 1), bk := D.nx } σ2 H2) (hd : ∀ σ' H', Pv xs.length σ' H' → D.nx σ' H') :
    tFor (iEnumA K (tCons (tVar i) tNil)) g tb D σ H := by
  refine ⟨_, hv, a, xs, rfl, ?_⟩
  rcases h with h | h
  · exact .inl ⟨h, for_it walk_enum Pv h0 (fun j σ' H' _ p => (hG j σ' H' p).1 h) hs hd⟩
  · exact .inr ⟨h, for_it walk_enumT Pv h0 (fun j σ' H' _ p => (hG j σ' H' p).2 h) hs hd⟩
theorem lc_seq_each {β : Type} {K : PySem.W.Frag} {g : TG} {tt : TT} {te : TE} {vs : List Nat} {σ : L2.St} {H : Hp} {Q : VK} {i : Nat} {a : Addr} {xs : List V} (bs : List β) (hv : σ[i]? = some (some (.ref a))) (h : SqL K H a xs ∨ SqT K H a xs) (hl : xs.length = bs.length) (f : β → V) (hn : xs.length < 100000)
    (hs : ∀ (i : Nat) x bb H2 (Qe : V → Hp → Prop) (Z : Hp → Prop), xs[i]? = some x → bs[i]? = some bb → Same H H2 → (∀ H4, Same H2 H4 → Qe (f bb) H4) → g x (wipe σ vs) H2 fun σ2 H3 => wipe σ2 vs = wipe σ vs ∧ tt σ2 H3 fun b H4 => if b = true then te σ2 H4 Qe else Z H4)
    (hd : ∀ D H2, H D = none → Same H H2 → H2 D = some (.lst (bs.map f)) → Q (.ref D) H2) : tLc (iSeq K (tVar i)) g tt te vs σ H Q :=
  seq_var hv h fun J G w hG => fun D hD => lc_each bs hl w hD f hG hn hs fun H2 sm hD2 => hd D H2 hD sm hD2
end Hr

set_option Elab.async false
set_option linter.all false
set_option maxRecDepth 100000
set_option maxHeartbeats 4000000
/-! a list of lists that grow -/
namespace Hr
open PySem PySem.Spec PyProof.Rows L2
/-- [[] for .. in ..]: new lists, all distinct -/
theorem lc_rows {J : It} {n : Nat} {G : Hp → Prop} {Y : Nat → Hp → V → Hp → Prop} (w : Walk J n G Y) {g : TG} {tt : TT} {te : TE} {vs : List Nat} {σ : L2.St} {H1 : Hp} {D : Addr} {Qd : Hp → Prop} (hD : H1 D = none) (hG : ∀ H, Same H1 H → G H) (hn : n < 100000)
    (hs : ∀ i x H H' (Qe : V → Hp → Prop) (Z : Hp → Prop), i < n → Same H1 H → Y i H x H' → (∀ p, H p = none → Qe (.ref p) (upd H p (.lst []))) → g x (wipe σ vs) H' fun σ2 H2 => wipe σ2 vs = wipe σ vs ∧ tt σ2 H2 fun bb H3 => if bb = true then te σ2 H3 Qe else Z H3)
    (hd : ∀ H (as : List Addr), Same H1 H → H D = some (.lst (as.map V.ref)) → as.length = n → as.Nodup → D ∉ as → (∀ a ∈ as, H a = some (.lst []) ∧ H1 a = none) → Qd H) :
    ∃ W : Nat → Nat → Hp → Prop, (∃ m, W 0 m (upd H1 D (.lst []))) ∧ ∀ i m H, W i m H →
      (J.stop i H ∧ Qd H) ∨ (J.go i H ∧ ∃ Nx : Hp → Prop, (∀ H', Nx H' → ∃ m', m' < m ∧ W (i + 1) m' H') ∧ ∀ x H', J.yld i H x H' → g x (wipe σ vs) H' fun σ2 H2 => wipe σ2 vs = wipe σ vs ∧ tt σ2 H2 fun b H3 =>
        if b = true then te σ2 H3 fun y H4 => ∃ acc, H4 D = some (.lst acc) ∧ acc.length < sizeLine ∧ Nx (upd H4 D (.lst (acc ++ [y]))) else Nx H3) := by
  refine lc_it w (fun i H => Same H1 H ∧ ∃ as : List Addr, H D = some (.lst (as.map V.ref)) ∧ as.length = i ∧ as.Nodup ∧ D ∉ as ∧ ∀ a ∈ as, H a = some (.lst []) ∧ H1 a = none) ⟨same_new hD, [], upd_same, rfl, List.nodup_nil, List.not_mem_nil, fun a h => absurd h List.not_mem_nil⟩ (fun i H _ h => hG H h.1) ?_ ?_
  · rintro i x H H' hi ⟨sm, as, hy, hl, hnd, hnD, ha⟩ hY
    refine hs i x H H' _ _ hi sm hY fun p hp => ?_
    have npD : p ≠ D := fun z => by rw [z, hy] at hp; cases hp
    have npa : p ∉ as := fun z => by rw [(ha p z).1] at hp; cases hp
    refine ⟨as.map V.ref, by rw [upd_ne npD.symm]; exact hy, szt (by rw [List.length_map]; omega), fun a o e => ?_, as ++ [p], by rw [upd_same, List.map_append]; rfl, by rw [List.length_append, hl]; rfl, ?_, ?_, fun a h => ?_⟩
    · rw [upd_ne (ne_of_none e hD), upd_ne fun z => by rw [← z, sm _ _ e] at hp; cases hp]
      exact sm _ _ e
    · exact List.nodup_append.mpr ⟨hnd, List.nodup_cons.mpr ⟨List.not_mem_nil, List.nodup_nil⟩, fun a h b h' => by rw [List.mem_singleton.mp h']; exact fun z => npa (z ▸ h)⟩
    · intro h
      rcases List.mem_append.mp h with h | h
      · exact hnD h
      · exact npD (List.mem_singleton.mp h).symm
    · rcases List.mem_append.mp h with h | h
      · rw [upd_ne fun z => hnD (by rw [← z]; exact h), upd_ne fun z => npa (by rw [← z]; exact h)]
        exact ha a h
      · rw [List.mem_singleton.mp h, upd_ne npD, upd_same]
        exact ⟨rfl, sm.free hp⟩
  · rintro H ⟨sm, as, hy, hl, hnd, hnD, ha⟩
    exact hd H as sm hy hl hnd hnD ha
/-! ### obstacles -/
abbrev Ob := Nat × (Str × Nat)
def obD (o : Ob) : PyData := .tuple [.int (o.1 : Nat), .tuple [.str o.2.1, .int (o.2.2 : Nat)]]
structure Rows (K : PySem.W.Frag) (D : Addr) (as : List Addr) (f : Nat → List Ob) (H : Hp) : Prop where
  out : H D = some (.lst (as.map V.ref))
  nd : as.Nodup
  nD : D ∉ as
  row : ∀ (s : Nat) (a : Addr), as[s]? = some a → ∃ xs, H a = some (.lst xs) ∧ DpAll K (dl H (D :: as)) xs ((f s).map obD)
theorem Rows.same {K : PySem.W.Frag} {D : Addr} {as : List Addr} {f : Nat → List Ob} {H H' : Hp} (r : Rows K D as f H) (s : Same H H') : Rows K D as f H' :=
  ⟨s _ _ r.out, r.nd, r.nD, fun i a ha => by
    obtain ⟨xs, h1, h2⟩ := r.row i a ha
    exact ⟨xs, s _ _ h1, dpa_mono (dl_mono s) h2⟩⟩
def addAt (f : Nat → List Ob) (s : Nat) (o : Ob) : Nat → List Ob := fun t => if t = s then f t ++ [o] else f t
theorem Rows.add {K : PySem.W.Frag} {D : Addr} {as : List Addr} {f : Nat → List Ob} {H : Hp} {s : Nat} {a : Addr} {xs : List V} {x : V} {o : Ob} (r : Rows K D as f H) (ha : as[s]? = some a) (hx : H a = some (.lst xs)) (hd : DpAll K (dl H (D :: as)) xs ((f s).map obD)) (h : Dp K (dl H (D :: as)) x (obD o)) : Rows K D as (addAt f s o) (upd H a (.lst (xs ++ [x]))) := by
  have am : a ∈ as := List.mem_of_getElem? ha
  have ed : dl (upd H a (.lst (xs ++ [x]))) (D :: as) = dl H (D :: as) := dl_upd (List.mem_cons_of_mem _ am)
  refine ⟨by rw [upd_ne fun z => r.nD (by rw [z]; exact am)]; exact r.out, r.nd, r.nD, fun t b hb => ?_⟩
  rw [ed]
  by_cases e : t = s
  · subst e
    rw [ha] at hb
    cases hb
    refine ⟨xs ++ [x], upd_same, ?_⟩
    unfold addAt
    rw [if_pos rfl, List.map_append]
    exact dpa_app hd (.cons h .nil)
  · have nb : b ≠ a := fun z => by
      subst z
      exact e ((List.getElem?_inj (List.getElem?_eq_some_iff.mp hb).1 r.nd).mp (hb.trans ha.symm))
    obtain ⟨ys, h1, h2⟩ := r.row t b hb
    refine ⟨ys, by rw [upd_ne nb]; exact h1, ?_⟩
    unfold addAt
    rw [if_neg e]
    exact h2
/-- the obstacles as data -/
def obsD (os : List (List Ob)) : PyData := .list (os.map fun r => .list (r.map obD))
theorem Rows.data {K : PySem.W.Frag} {D : Addr} {as : List Addr} {f : Nat → List Ob} {H : Hp} (r : Rows K D as f H) : Dp K H (.ref D) (obsD ((List.range as.length).map f)) := by
  unfold obsD
  refine .lst (SqL.of r.out) (dpa_of (by rw [List.length_map, List.length_map, List.length_map, List.length_range]) fun i y d hy hd => ?_)
  rw [List.getElem?_map] at hy
  cases ha : as[i]? with
  | none => rw [ha] at hy; cases hy
  | some a =>
    rw [ha] at hy
    cases hy
    have hi := (List.getElem?_eq_some_iff.mp ha).1
    rw [List.getElem?_map, List.getElem?_map, List.getElem?_range hi] at hd
    cases hd
    obtain ⟨xs, h1, h2⟩ := r.row i a ha
    exact .lst (SqL.of h1) (dpa_mono dl_le h2)
/-- what keeps slot s, by the pairs and by the reports -/
def rowP (m : List Nat → Nat) (ps : List Pr2) (s : Nat) : List Ob := ps.zipIdx.filterMap fun p => if p.1.2 = s then some (m [p.1.1], ("pair", p.2)) else none
def rowR (m : List Nat → Nat) (rs : List Rp) (s : Nat) : List Ob := rs.zipIdx.filterMap fun r => if s ∈ r.1.1 ∧ s ∉ r.1.2 then some (m r.1.1, ("report", r.2)) else none
theorem zipIdx_snoc {α : Type} (l : List α) (x : α) : (l ++ [x]).zipIdx = l.zipIdx ++ [(x, l.length)] := by
  rw [List.zipIdx_append]
  simp
theorem rowP_snoc {m : List Nat → Nat} {ps : List Pr2} {p : Pr2} : rowP m (ps ++ [p]) = addAt (rowP m ps) p.2 (m [p.1], ("pair", ps.length)) := by
  funext s
  unfold rowP addAt
  rw [zipIdx_snoc, List.filterMap_append]
  by_cases e : p.2 = s
  · rw [if_pos e.symm]
    simp [e]
  · rw [if_neg fun z => e z.symm]
    simp [e]
theorem rowR_snoc {m : List Nat → Nat} {rs : List Rp} {r : Rp} {s : Nat} : rowR m (rs ++ [r]) s = rowR m rs s ++ (if s ∈ r.1 ∧ s ∉ r.2 then ([(m r.1, (("report" : Str), rs.length))] : List Ob) else []) := by
  unfold rowR
  rw [zipIdx_snoc, List.filterMap_append]
  congr 1
  by_cases e : s ∈ r.1 ∧ s ∉ r.2
  · rw [if_pos e]
    simp [e]
  · rw [if_neg e]
    simp [e]
/-- as for_enumA, the sequence known in an older heap H0 -/
theorem for_enumB {K : PySem.W.Frag} {g : TG} {tb : TS} {D : Ends} {σ : L2.St} {H H0 : Hp} {i : Nat} {a : Addr} {xs : List V} (hv : σ[i]? = some (some (.ref a))) (h : SqL K H0 a xs ∨ SqT K H0 a xs) (Pv : Nat → L2.St → Hp → Prop) (h0 : Pv 0 σ H) (hG : ∀ i σ' H', Pv i σ' H' → Same H0 H')
    (hs : ∀ i x σ' H' H'', i < xs.length → Pv i σ' H' → YPair (fun i => some (.int (i : Nat))) (fun i => xs[i]?) i H' x H'' → g x σ' H'' fun σ2 H2 => tb { D with nx := Pv (i + 1), ct := Pv (i + 1), bk := D.nx } σ2 H2) (hd : ∀ σ' H', Pv xs.length σ' H' → D.nx σ' H') :
    tFor (iEnumA K (tCons (tVar i) tNil)) g tb D σ H := by
  refine ⟨_, hv, a, xs, rfl, ?_⟩
  have hH := hG 0 σ H h0
  rcases h with h | h
  · exact .inl ⟨hH.seq h, for_it walk_enum Pv h0 (fun j σ' H' _ p => (hG j σ' H' p).seq h) hs hd⟩
  · exact .inr ⟨Same.seqT hH h, for_it walk_enumT Pv h0 (fun j σ' H' _ p => Same.seqT (hG j σ' H' p) h) hs hd⟩
end Hr

set_option Elab.async false
set_option linter.all false
set_option maxRecDepth 100000
set_option maxHeartbeats 4000000
/-! masks as ascending lists -/
namespace Hr
open PySem PySem.Spec PyProof.Rows L2
def msk (l : List Nat) : Nat := (l.map fun i => 2 ^ i).sum
def bitsOf (m : Nat) : List Nat := (List.range 30).filter fun i => m.testBit i
theorem mem_bits {m i : Nat} : i ∈ bitsOf m ↔ i < 30 ∧ m.testBit i = true := by
  unfold bitsOf
  rw [List.mem_filter, List.mem_range]
theorem bits_asc (m : Nat) : Asc (bitsOf m) := List.Pairwise.filter _ List.pairwise_lt_range
theorem asc_ext : ∀ {l l' : List Nat}, Asc l → Asc l' → (∀ x, x ∈ l ↔ x ∈ l') → l = l'
  | [], [], _, _, _ => rfl
  | [], y :: r, _, _, h => by have := (h y).mpr List.mem_cons_self; cases this
  | x :: r, [], _, _, h => by have := (h x).mp List.mem_cons_self; cases this
  | x :: r, y :: r', h1, h2, h => by
    have k1 := List.pairwise_cons.mp h1
    have k2 := List.pairwise_cons.mp h2
    have e : x = y := by
      rcases List.mem_cons.mp ((h x).mp List.mem_cons_self) with a | a
      · exact a
      · rcases List.mem_cons.mp ((h y).mpr List.mem_cons_self) with b | b
        · exact b.symm
        · have := k1.1 y b
          have := k2.1 x a
          omega
    subst e
    rw [asc_ext k1.2 k2.2 fun z => ?_]
    constructor
    · intro hz
      rcases List.mem_cons.mp ((h z).mp (List.mem_cons_of_mem _ hz)) with a | a
      · rw [a] at hz
        exact absurd (k1.1 x hz) (Nat.lt_irrefl _)
      · exact a
    · intro hz
      rcases List.mem_cons.mp ((h z).mpr (List.mem_cons_of_mem _ hz)) with a | a
      · rw [a] at hz
        exact absurd (k2.1 x hz) (Nat.lt_irrefl _)
      · exact a
theorem msk_app (l l' : List Nat) : msk (l ++ l') = msk l + msk l' := by
  unfold msk
  rw [List.map_append, List.sum_append]
theorem asc_snoc {l : List Nat} {x : Nat} (h : Asc (l ++ [x])) : Asc l ∧ ∀ y ∈ l, y < x := by
  have k := List.pairwise_append.mp h
  exact ⟨k.1, fun y hy => k.2.2 y hy x List.mem_cons_self⟩
theorem msk_lt : ∀ (k : Nat) {l : List Nat} {n : Nat}, l.length = k → Asc l → (∀ x ∈ l, x < n) → msk l < 2 ^ n
  | 0, l, n, hk, _, _ => by
    rw [List.eq_nil_of_length_eq_zero hk]
    exact Nat.pow_pos (by decide)
  | k + 1, l, n, hk, h, hb => by
    rcases List.eq_nil_or_concat l with e | ⟨r, x, e⟩
    · subst e; cases hk
    · rw [List.concat_eq_append] at e
      subst e
      obtain ⟨h1, h2⟩ := asc_snoc h
      have hr : r.length = k := by rw [List.length_append, List.length_singleton] at hk; omega
      have ih := msk_lt k hr h1 h2
      have hx := hb x (List.mem_append_right _ List.mem_cons_self)
      rw [msk_app]
      have e1 : msk [x] = 2 ^ x := by unfold msk; simp
      have : 2 ^ (x + 1) ≤ 2 ^ n := Nat.pow_le_pow_right (by decide) hx
      rw [Nat.pow_succ] at this
      omega
theorem msk_bit : ∀ (k : Nat) {l : List Nat}, l.length = k → Asc l → ∀ i, (msk l).testBit i = decide (i ∈ l)
  | 0, l, hk, _, i => by
    rw [List.eq_nil_of_length_eq_zero hk]
    show (0 : Nat).testBit i = _
    simp
  | k + 1, l, hk, h, i => by
    rcases List.eq_nil_or_concat l with e | ⟨r, x, e⟩
    · subst e; cases hk
    · rw [List.concat_eq_append] at e
      subst e
      obtain ⟨h1, h2⟩ := asc_snoc h
      have hr : r.length = k := by rw [List.length_append, List.length_singleton] at hk; omega
      have ih := msk_bit k hr h1 i
      have lt := msk_lt k hr h1 h2
      have e1 : msk [x] = 2 ^ x := by unfold msk; simp
      rw [msk_app, e1, Nat.add_comm]
      by_cases hi : i < x
      · rw [Nat.testBit_two_pow_add_gt hi, ih]
        refine dec_p ⟨fun h => List.mem_append_left _ h, fun h => ?_⟩
        rcases List.mem_append.mp h with h | h
        · exact h
        · rw [List.mem_singleton.mp h] at hi
          exact absurd hi (Nat.lt_irrefl _)
      · by_cases he : i = x
        · subst he
          rw [Nat.testBit_two_pow_add_eq, Nat.testBit_lt_two_pow lt, decide_eq_true (List.mem_append_right _ List.mem_cons_self)]
          rfl
        · rw [Nat.testBit_lt_two_pow, decide_eq_false]
          · intro h
            rcases List.mem_append.mp h with h | h
            · have := h2 i h
              omega
            · exact he (List.mem_singleton.mp h)
          · have : 2 ^ (x + 1) ≤ 2 ^ i := Nat.pow_le_pow_right (by decide) (by omega)
            rw [Nat.pow_succ] at this
            omega
theorem bits_msk {l : List Nat} (h : Asc l) (hb : ∀ x ∈ l, x < 30) : bitsOf (msk l) = l :=
  asc_ext (bits_asc _) h fun i => by
    rw [mem_bits, msk_bit _ rfl h, decide_eq_true_eq]
    exact ⟨fun h => h.2, fun h => ⟨hb i h, h⟩⟩
theorem msk_split (l : List Nat) (p : Nat → Bool) : msk l = msk (l.filter p) + msk (l.filter fun x => !p x) := by
  induction l with
  | nil => rfl
  | cons x r ih =>
    have c : ∀ (x : Nat) (r : List Nat), msk (x :: r) = 2 ^ x + msk r := fun x r => by unfold msk; rw [List.map_cons, List.sum_cons]
    rw [c, ih, List.filter_cons, List.filter_cons]
    cases hp : p x
    · simp [c]
      omega
    · simp [c]
      omega
/-- one set within another, by their masks -/
theorem msk_and {s l : List Nat} (hs : Asc s) (hl : Asc l) : ((msk s &&& msk l) = msk s) ↔ ∀ x ∈ s, x ∈ l := by
  constructor
  · intro h x hx
    have := congrArg (fun m => Nat.testBit m x) h
    simp only [Nat.testBit_and, msk_bit _ rfl hs, msk_bit _ rfl hl, decide_eq_true hx, Bool.true_and] at this
    exact of_decide_eq_true this
  · intro h
    refine Nat.eq_of_testBit_eq fun i => ?_
    rw [Nat.testBit_and, msk_bit _ rfl hs, msk_bit _ rfl hl]
    by_cases hi : i ∈ s
    · rw [decide_eq_true hi, decide_eq_true (h i hi)]
      rfl
    · rw [decide_eq_false hi]
      rfl
theorem msk_range (n : Nat) : msk (List.range n) = 2 ^ n - 1 := by
  induction n with
  | zero => rfl
  | succ n ih =>
    rw [List.range_succ, msk_app, ih]
    have e1 : msk [n] = 2 ^ n := by unfold msk; simp
    have := Nat.pow_pos (n := n) (show 0 < 2 by decide)
    rw [e1, Nat.pow_succ]
    omega
/-! ### what keeps a slot -/
def reasonOf (os : List (List Ob)) (m : Nat) (s : Nat) : Option (Str × Nat) := ((os.getD s []).find? fun o => (o.1 &&& m) == o.1).map (·.2)
def reD : Option (Str × Nat) → PyData
  | none => .none
  | some r => .tuple [.str r.1, .int (r.2 : Nat)]
def freeB (ps : List Pr2) (rs : List Rp) (l : List Nat) (s : Nat) : Bool := !(ps.any fun p => decide (p.2 = s) && decide (p.1 ∈ l)) && rs.all fun r => !(decide (s ∈ r.1) && (!decide (s ∈ r.2) && r.1.all fun x => decide (x ∈ l)))
theorem find_none_iff {α : Type} {l : List α} {p : α → Bool} : (l.find? p).isNone = l.all fun x => !p x := by
  rw [Bool.eq_iff_iff, Option.isNone_iff_eq_none, List.find?_eq_none, List.all_eq_true]
  exact forall_congr' fun x => forall_congr' fun _ => by simp
theorem free_eq {n : Nat} {ps : List Pr2} {rs : List Rp} {l : List Nat} {s : Nat} (hs : s < n) (hl : Asc l) (hr : ∀ r ∈ rs, Asc r.1) :
    (reasonOf ((List.range n).map fun s => rowP msk ps s ++ rowR msk rs s) (msk l) s).isNone = freeB ps rs l s := by
  unfold reasonOf freeB
  rw [List.getD_eq_getElem?_getD, List.getElem?_map, List.getElem?_range hs]
  show (Option.map _ (List.find? _ (rowP msk ps s ++ rowR msk rs s))).isNone = _
  rw [Option.isNone_map, find_none_iff, List.all_append]
  congr 1
  · rw [Bool.eq_iff_iff, List.all_eq_true, Bool.not_eq_true', List.any_eq_false]
    unfold rowP
    constructor
    · intro h p hp
      obtain ⟨k, hk⟩ := List.mem_iff_getElem?.mp hp
      intro z
      have z' := Bool.and_eq_true_iff.mp z
      have e1 := of_decide_eq_true z'.1
      have e2 := of_decide_eq_true z'.2
      have hm : (msk [p.1], (("pair" : Str), k)) ∈ ps.zipIdx.filterMap fun p => if p.1.2 = s then some (msk [p.1.1], (("pair" : Str), p.2)) else none := by
        refine List.mem_filterMap.mpr ⟨(p, k), List.mem_zipIdx_iff_getElem?.mpr hk, ?_⟩
        rw [if_pos e1]
      have := h _ hm
      have e3 : (msk [p.1] &&& msk l) = msk [p.1] := (msk_and (List.pairwise_singleton _ _) hl).mpr fun x hx => by rw [List.mem_singleton.mp hx]; exact e2
      rw [e3] at this
      simp at this
    · intro h o ho
      obtain ⟨q, hq, e⟩ := List.mem_filterMap.mp ho
      have hq' := List.mem_zipIdx_iff_getElem?.mp hq
      by_cases e1 : q.1.2 = s
      · rw [if_pos e1] at e
        cases e
        have k := h q.1 (List.mem_of_getElem? hq')
        rw [Bool.not_eq_true', beq_eq_false_iff_ne]
        intro z
        have := (msk_and (List.pairwise_singleton _ _) hl).mp z q.1.1 List.mem_cons_self
        exact k (by rw [decide_eq_true e1, decide_eq_true this]; rfl)
      · rw [if_neg e1] at e
        cases e
  · rw [Bool.eq_iff_iff, List.all_eq_true, List.all_eq_true]
    unfold rowR
    constructor
    · intro h r hrm
      obtain ⟨k, hk⟩ := List.mem_iff_getElem?.mp hrm
      rw [Bool.not_eq_true', Bool.eq_false_iff]
      intro z
      have z1 := Bool.and_eq_true_iff.mp z
      have z2 := Bool.and_eq_true_iff.mp z1.2
      have e1 := of_decide_eq_true z1.1
      have e2 : s ∉ r.2 := by simpa using z2.1
      have e3 : ∀ x ∈ r.1, x ∈ l := fun x hx => of_decide_eq_true (List.all_eq_true.mp z2.2 x hx)
      have hm : (msk r.1, (("report" : Str), k)) ∈ rs.zipIdx.filterMap fun r => if s ∈ r.1.1 ∧ s ∉ r.1.2 then some (msk r.1.1, (("report" : Str), r.2)) else none := by
        refine List.mem_filterMap.mpr ⟨(r, k), List.mem_zipIdx_iff_getElem?.mpr hk, ?_⟩
        rw [if_pos ⟨e1, e2⟩]
      have := h _ hm
      rw [(msk_and (hr r hrm) hl).mpr e3] at this
      simp at this
    · intro h o ho
      obtain ⟨q, hq, e⟩ := List.mem_filterMap.mp ho
      have hq' := List.mem_of_getElem? (List.mem_zipIdx_iff_getElem?.mp hq)
      by_cases e1 : s ∈ q.1.1 ∧ s ∉ q.1.2
      · rw [if_pos e1] at e
        cases e
        have k := h q.1 hq'
        rw [Bool.not_eq_true', beq_eq_false_iff_ne]
        intro z
        have := (msk_and (hr q.1 hq') hl).mp z
        rw [Bool.not_eq_true', decide_eq_true e1.1, decide_eq_false e1.2, Bool.true_and, Bool.not_false, Bool.true_and, Bool.eq_false_iff] at k
        exact k (List.all_eq_true.mpr fun x hx => decide_eq_true (this x hx))
      · rw [if_neg e1] at e
        cases e
/-- a def with defaults that lets nothing out -/
theorem okN {P : Program} {w : World} {K : PySem.W.Frag} {mg : Str → Option Value} {base : Heap} {x qual : Str} {params : Arguments} {body : List Stmt} {scope : Scope} {dvs : List V} {kws : List (Str × V)} {f : Addr} {fd : FuncData} {N ps : List Str} {k : Nat} {sp : Sp} (F : FunD K x qual params body scope dvs kws f fd) (S : FnScope N ps scope) (len : ∀ vs H Q E, sp vs H Q E → vs.length = ps.length)
    (hbody : ∀ (cdv : Value) (A : Around) (outer : List Env) (s : Shared) (H : Hp) (vs : List V) (Q : VK) (E : XK), Room k (A.deeper (envOfC qual scope s.heap.objs.size f cdv)) → sp vs H Q E →
      ∃ t, PSs (cxOf CX0 P w K mg base N qual scope f cdv A outer s H E).nox body t ∧ t { nx := fun _ H' => Q .non H', rt := Q } (start N vs) H) : FnOk P w K mg base CX0 (k + 1) f fd ps sp := by
  refine F.ok S len fun cdv A outer s H vs Q E hr hsp => ?_
  obtain ⟨t, h, q⟩ := hbody cdv A outer s H vs Q E hr hsp
  exact ⟨t, h.nox, q⟩
end Hr

set_option Elab.async false
set_option linter.all false
set_option maxRecDepth 100000
set_option maxHeartbeats 4000000
namespace Hr
open PySem PySem.Spec PyProof.Rows L2
/-- a comprehension that keeps some numbers, as the bag says -/
theorem lc_sub {J : It} {l0 : List Nat} {G : Hp → Prop} {Y : Nat → Hp → V → Hp → Prop} (w : Walk J l0.length G Y) (hY : ∀ i H x H', Y i H x H' → H' = H ∧ ∃ s : Nat, l0[i]? = some s ∧ x = .int (s : Nat)) {g : TG} {tt : TT} {te : TE} {vs : List Nat} {σ : L2.St} {H1 : Hp} {D b l : Addr} {Qd : Hp → Prop} (hb : Bag H1 b l) (hD : H1 D = none) (hG : ∀ H, Bx b l H1 H → G H) (hn : l0.length < 100000)
    (hs : ∀ (i s : Nat) H (R : V → Hp → Prop) (Z : Hp → Prop), l0[i]? = some s → Bx b l H1 H → (∀ H4, Bx b l H H4 → R (.int (s : Nat)) H4) → (∀ H4, Bx b l H H4 → Z H4) → g (.int (s : Nat)) (wipe σ vs) H fun σ2 H2 => wipe σ2 vs = wipe σ vs ∧ tt σ2 H2 fun bb H3 => if bb = true then te σ2 H3 R else Z H3)
    (hd : ∀ H l', Bx b l H1 H → H D = some (.lst (nV l')) → l'.Sublist l0 → Qd H) :
    ∃ W : Nat → Nat → Hp → Prop, (∃ m, W 0 m (upd H1 D (.lst []))) ∧ ∀ i m H, W i m H →
      (J.stop i H ∧ Qd H) ∨ (J.go i H ∧ ∃ Nx : Hp → Prop, (∀ H', Nx H' → ∃ m', m' < m ∧ W (i + 1) m' H') ∧ ∀ x H', J.yld i H x H' → g x (wipe σ vs) H' fun σ2 H2 => wipe σ2 vs = wipe σ vs ∧ tt σ2 H2 fun b H3 =>
        if b = true then te σ2 H3 fun y H4 => ∃ acc, H4 D = some (.lst acc) ∧ acc.length < sizeLine ∧ Nx (upd H4 D (.lst (acc ++ [y]))) else Nx H3) := by
  have nD : D ≠ b := hb.ne_new hD
  have nL : D ≠ l := hb.ne_newl hD
  refine lc_it w (fun i H => Bx b l H1 H ∧ ∃ l', H D = some (.lst (nV l')) ∧ l'.Sublist (l0.take i)) ⟨Bx.new hb hD, [], upd_same, List.nil_sublist _⟩ (fun i H _ h => hG H h.1) ?_ ?_
  · rintro i x H H' hi ⟨bx, l', hy, hl⟩ y
    obtain ⟨rfl, s, hsi, rfl⟩ := hY i H x H' y
    refine hs i s H' _ _ hsi bx (fun H4 b4 => ⟨nV l', b4.keep D _ nD hy, szt ?_, ⟨b4.bag.of (upd_ne nD.symm) (upd_ne nL.symm), fun a o n e => ?_⟩, l' ++ [s], ?_, ?_⟩) (fun H4 b4 => ⟨bx.trans b4, l', b4.keep D _ nD hy, ?_⟩)
    · have := hl.length_le
      rw [List.length_take] at this
      rw [List.length_map]
      omega
    · rw [upd_ne (ne_of_none e hD)]
      exact b4.keep a o n (bx.keep a o n e)
    · rw [upd_same, nV, nV, List.map_append]
      rfl
    · rw [take_step hsi]
      exact hl.append (List.Sublist.refl _)
    · rw [take_step hsi]
      exact hl.trans (List.sublist_append_left _ _)
  · rintro H ⟨bx, l', hy, hl⟩
    rw [List.take_length] at hl
    exact hd H l' bx hy hl
theorem yAt_nat {l0 : List Nat} : ∀ i H x H', YAt (nV l0) i H x H' → H' = H ∧ ∃ s : Nat, l0[i]? = some s ∧ x = .int (s : Nat) := fun i H x H' ⟨h1, h2⟩ => by
  rw [List.getElem?_map] at h2
  cases hs : l0[i]? with
  | none => rw [hs] at h2; cases h2
  | some s =>
    rw [hs] at h2
    cases h2
    exact ⟨h1, s, rfl, rfl⟩
theorem walk_rangeN {n : Nat} : Walk (Itr 0 n) (List.range n).length (fun _ => True) (YAt (nV (List.range n))) := by
  rw [List.length_range]
  refine walk_range.mono (fun _ h => h) fun i H x H' hi _ ⟨h1, h2⟩ => ⟨h1, ?_⟩
  rw [List.getElem?_map, List.getElem?_range hi, h2]
  show some (V.int (i : Nat)) = some (V.int (0 + (i : Int)))
  rw [Int.zero_add]
theorem asc_sub {l l' : List Nat} (h : l'.Sublist l) (a : Asc l) : Asc l' := List.Pairwise.sublist h a
/-- a list of the heap, of such data -/
def LstAt (K : PySem.W.Frag) (H : Hp) (v : V) (ds : List PyData) : Prop := ∃ a xs, v = .ref a ∧ H a = some (.lst xs) ∧ DpAll K H xs ds
theorem LstAt.dp {K : PySem.W.Frag} {H : Hp} {v : V} {ds : List PyData} (h : LstAt K H v ds) : Dp K H v (.list ds) := by
  obtain ⟨a, xs, rfl, h1, h2⟩ := h
  exact .lst (SqL.of h1) h2
theorem LstAt.same {K : PySem.W.Frag} {H H' : Hp} {v : V} {ds : List PyData} (h : LstAt K H v ds) (s : Same H H') : LstAt K H' v ds := by
  obtain ⟨a, xs, e, h1, h2⟩ := h
  exact ⟨a, xs, e, s _ _ h1, dpa_mono s h2⟩
end Hr

set_option Elab.async false
set_option linter.all false
set_option maxRecDepth 100000
set_option maxHeartbeats 4000000
/-! tuples: t[::-1], t * 0, t * 1 -/
namespace Hr
open PySem PySem.Spec PyProof.Rows L2 HT
section
variable {prog : Program} {w : World} {A : Around} {E : Value → Shared → Prop} {s : Shared}
theorem fm_congr {α β : Type} {f g : α → Option β} : ∀ {l : List α}, (∀ x ∈ l, f x = g x) → l.filterMap f = l.filterMap g
  | [], _ => rfl
  | x :: r, h => by
    rw [List.filterMap_cons, List.filterMap_cons, h x List.mem_cons_self, fm_congr fun y hy => h y (List.mem_cons_of_mem _ hy)]
theorem places_rev (n : Nat) : Builtin.Slice.slicePlaces ((n : Int) - 1) (-1) (-1) = n := by
  unfold Builtin.Slice.slicePlaces
  rw [if_neg (by decide)]
  have e : (- -1 : Int) = 1 := by decide
  rw [e, Int.ediv_one]
  split <;> omega
theorem sliceApplied_rev {sl : Addr} {vl vu vs : Value} {n : Nat} {Q : Int × Int × Nat → Shared → Prop} (hs : s.heap.IsSliceOf sl vl vu vs) (pl : IsPart vl none) (pu : IsPart vu none) (ps : IsPart vs (some (-1)))
    (h : Q ((n : Int) - 1, -1, n) s) : wpAny (model prog w) A (Builtin.Slice.sliceApplied (.ref sl) (pure (n : Int))) Q E s := by
  obtain ⟨os, hos, hcs, hds⟩ := id hs
  unfold Builtin.Slice.sliceApplied Builtin.Slice.sliceFields
  refine wpAny_bind (wpAny_bind (wpAny_field hos hds (x := vl) rfl (wpAny_bind (wpAny_field hos hds (x := vu) rfl (wpAny_bind (wpAny_field hos hds (x := vs) rfl (wpAny_pure ?_)))))))
  refine wpAny_bind (slicePart_ ps ?_)
  show wpAny _ _ (if ((-1 : Int) == 0) = true then _ else _) _ _ s
  rw [if_neg (by decide)]
  refine wpAny_bind (slicePart_ pl (wpAny_bind (slicePart_ pu (wpAny_bind (wpAny_pure ?_)))))
  show wpAny _ _ (pure ((n : Int) - 1, (-1 : Int), Builtin.Slice.slicePlaces ((n : Int) - 1) (-1) (-1))) _ _ s
  rw [places_rev]
  exact wpAny_pure h
theorem pick_rev (xs : Array Value) : ((List.range xs.size).filterMap fun (m : Nat) => xs[((xs.size : Int) - 1 + (m : Int) * -1).toNat]?).toArray = xs.toList.reverse.toArray := by
  have e : (List.range xs.size).filterMap (fun (m : Nat) => xs[((xs.size : Int) - 1 + (m : Int) * -1).toNat]?) = ((List.range xs.size).map fun k => xs.size - 1 - k).filterMap (xs[·]?) := by
    rw [List.filterMap_map]
    refine fm_congr fun m hm => ?_
    have := List.mem_range.mp hm
    show _ = xs[xs.size - 1 - m]?
    rw [show ((xs.size : Int) - 1 + (m : Int) * -1).toNat = xs.size - 1 - m by omega]
  rw [e, PySem.W.krv_range, List.filterMap_reverse, PySem.W.krv_all]
theorem getItem_tuple_rev {t sl : Addr} {items : Array Value} {vl vu vs : Value} {Q : Value → Shared → Prop} (ht : IsTup s.heap t items) (hs : s.heap.IsSliceOf sl vl vu vs) (pl : IsPart vl none) (pu : IsPart vu none) (ps : IsPart vs (some (-1)))
    (h : Q (.ref s.heap.objs.size) { s with heap := s.heap.push { cls := .type "tuple", data := .seq items.toList.reverse.toArray } })
    (hsz : items.size ≤ sizeLine) : wpAny (model prog w) A (getItem (.ref t) (.ref sl)) Q E s := by
  have htake : sizeOk (.seq items.toList.reverse.toArray) := by
    show items.toList.reverse.toArray.size ≤ sizeLine
    rw [List.size_toArray, List.length_reverse, Array.length_toList]
    exact hsz
  obtain ⟨os, hos, hcs, hds⟩ := id hs
  have hTs : s.TypeIs (.ref sl) "slice" := ⟨os, hos, hcs⟩
  unfold getItem
  try with_reducible refine wpAny_holding ?_
  first | refine wpAny_bind (wpAny_pure ?_) | skip
  refine wpAny_bind (wpAny_sequenceKey ht.typeIs (by decide) ?_)
  refine wpAny_bind (wpAny_callSpecial?_slot (name := Str.ofString "__getitem__") ht.typeIs PyProof.Rows.slot_tuple_getitem
    (wpAny_call_entry PyProof.Rows.slot_tuple_getitem ht.typeIs entry_tuple_getitem ?_ (args_tuple_getitem _ _)))
  show wpAny _ _ (Builtin.Tuple.tupleItemsOf (.ref t) >>= _) _ _ s
  refine wpAny_bind (tupleItemsOf_ ht ?_)
  refine wpAny_bind (wpAny_typeOf hTs ?_)
  rw [if_pos (by decide)]
  refine wpAny_bind (sliceApplied_rev hs pl pu ps ?_)
  have hno : ¬ ((((items.size : Int) - 1) == 0 && (-1 : Int) == 1 && items.size == items.size) = true) := by
    rw [show ((-1 : Int) == 1) = false from rfl, Bool.and_false, Bool.false_and]
    exact Bool.false_ne_true
  show wpAny _ _ (if (((items.size : Int) - 1) == 0 && (-1 : Int) == 1 && items.size == items.size) = true then _ else _) _ _ s
  rw [if_neg hno, pick_rev]
  first
    | exact wpAny_bind (m := Builtin.Tuple.tupleExact _) (wpAny_newObj_type (wpAny_pure ⟨_, rfl, wpAny_pure h⟩) htake)
    | exact wpAny_bind (m := Builtin.Tuple.tupleExact _) (wpAny_newObj_type (wpAny_bind (wpAny_pure (wpAny_pure ⟨_, rfl, wpAny_pure h⟩))) htake)
    | exact wpAny_bind (wpAny_bind (m := Builtin.Tuple.tupleExact _) (wpAny_newObj_type (wpAny_pure (wpAny_pure ⟨_, rfl, wpAny_pure h⟩)) htake))
    | exact wpAny_bind (wpAny_bind (m := Builtin.Tuple.tupleExact _) (wpAny_newObj_type (wpAny_pure ⟨_, rfl, wpAny_pure h⟩) htake))
end
section
variable {X : Cx}
def tRevT (K : PySem.W.Frag) (te : TE) : TE := fun σ H Q => te σ H fun x H1 => ∃ a xs, x = .ref a ∧ SqT K H1 a xs ∧ ∀ p, H1 p = none → Q (.ref p) (upd H1 p (.tup xs.reverse))
theorem pe_revTK {K : PySem.W.Frag} {e : Expr} {te : TE} {k : Nat} {p1 p2 p3 pos : Pos} (he : PE X e te) (hK : X.K = K := by rfl) : PE X (.Subscript e (.Slice none none (some (.UnaryOp .USub (.Constant (.int 1) k p1) p2)) p3) pos) (tRevT K te) := by
  subst hK
  refine ⟨fun pins s σ H Q I h => ?_⟩
  refine Subscript_ (thn (he.run pins s σ H _ I h) fun v s1 ⟨x, H1, I1, r1, q1⟩ => ?_)
  obtain ⟨a, xs, ex, hx, q⟩ := q1
  subst ex
  cases r1
  have hst : PO X (some (.UnaryOp .USub (.Constant (.int 1) k p1) p2)) (tPart (tUn (rU fun i => .int (-i)) (tC (.int 1)))) := po_some (pe_un un_neg pe_int)
  refine wpAny_Slice (thn (po_none.run pins s1 σ H1 (fun o H2 => o = none ∧ H2 = H1) I1 ⟨rfl, rfl⟩) fun vl s2 ⟨l, H2, I2, pl, el, e2⟩ => ?_)
  subst el e2
  refine thn (po_none.run pins s2 σ H2 (fun o H3 => o = none ∧ H3 = H2) I2 ⟨rfl, rfl⟩) fun vu s3 ⟨u, H3, I3, pu, eu, e3⟩ => ?_
  subst eu e3
  refine thn (hst.run pins s3 σ H3 (fun o H4 => o = some (-1) ∧ H4 = H3) I3 ⟨1, rfl, -1, rfl, rfl, rfl⟩) fun vs s4 ⟨o, H4, I4, ps, eo, e4⟩ => ?_
  subst eo e4
  have I5 : Inv X pins σ H4 { s4 with heap := s4.heap.push { cls := .type "slice", data := .fields #[vl, vu, vs] } } := I4.kept (t' := s4.toks) fun b ob q => Heap.get?_push_of_some _ q
  obtain ⟨its, r, ht, hz⟩ := I5.tuple hx
  have hlen := r.length
  show wpAny (model X.prog X.w) X.A (subscriptTail e (.Slice none none (some (.UnaryOp .USub (.Constant (.int 1) k p1) p2)) p3) (.ref a) (.ref s4.heap.objs.size)) (EP X pins σ Q) X.xe { s4 with heap := s4.heap.push { cls := .type "slice", data := .fields #[vl, vu, vs] } }
  refine tail_any (ops := [.ref a, .ref s4.heap.objs.size]) ht.typeIs (PyProof.Rows.slot_tuple_getitem.lookup) ?_ (by with_unfolding_all rfl)
  refine getItem_tuple_rev ht (Heap.IsSliceOf.new _ vl vu vs) pl pu ps ?_ (by rw [List.size_toArray]; omega)
  refine ⟨.ref _, _, I5.laid (t' := s4.toks) (o := .tup xs.reverse) (fun b ob q => Heap.get?_push_of_some _ q) (Nat.le_refl _) ?_, rfl, q _ (I5.hok.fresh (Nat.le_refl _))⟩
  exact ⟨by rw [List.length_reverse]; omega, _, r.reverse, IsTup.new _ _⟩
theorem tuple_mul1 (l : Addr) (items : Array Value) (n : Nat) (dd : Option Addr) (sl : Array (Option Value)) (u : Tok) :
    Meets (Builtin.«tuple.__mul__» ⟨[.ref l, .int 1 u], []⟩) (fun _ R s => s.heap.get? l = some { cls := .type "tuple", dict := dd, data := .seq items n, slots := sl } ∧ R (.ok (.ret (Value.ref l))) s) :=
  .of_wp fun prog w A R s h => by
    obtain ⟨hp, g, d, tk, os⟩ := s
    obtain ⟨hl, h⟩ := h
    have f1 := AutoSeq1.idx_int
    have c0 : (decide ((1 : Int) < -(2 ^ 63)) || decide ((1 : Int) ≥ 2 ^ 63)) = false := by decide
    have c1 : (items.isEmpty || (1 : Int) == 1) = true := by rw [show ((1 : Int) == 1) = true from rfl, Bool.or_true]
    wp_walk using wpAny_loadPart' hl
    repeat (first
      | (refine wpAny_ite_false (decide_eq_false (by rw [c0]; exact Bool.false_ne_true)) ?_; wp_walk using wpAny_loadPart' hl)
      | (refine wpAny_ite_true (decide_eq_true c1) ?_; wp_walk using wpAny_loadPart' hl))
    exact ⟨_, rfl, h⟩
theorem tuple_mul0 (l : Addr) (items : Array Value) (n : Nat) (dd : Option Addr) (sl : Array (Option Value)) (u : Tok) (hi : items.isEmpty = false) :
    Meets (Builtin.«tuple.__mul__» ⟨[.ref l, .int 0 u], []⟩) (fun _ R s => s.heap.get? l = some { cls := .type "tuple", dict := dd, data := .seq items n, slots := sl } ∧
      R (.ok (.ret (Value.ref s.heap.objs.size))) { s with heap := s.heap.push { cls := Value.type "tuple", data := Data.seq #[] }, toks := s.toks }) :=
  .of_wp fun prog w A R s h => by
    obtain ⟨hp, g, d, tk, os⟩ := s
    obtain ⟨hl, h⟩ := h
    have f1 := AutoSeq1.idx_int
    have c0 : (decide ((0 : Int) < -(2 ^ 63)) || decide ((0 : Int) ≥ 2 ^ 63)) = false := by decide
    have c1 : (items.isEmpty || (0 : Int) == 1) = false := by rw [hi]; rfl
    have c2 : (decide ((0 : Int) ≤ 0) || items.isEmpty) = true := by rw [decide_eq_true (Int.le_refl 0)]; rfl
    wp_walk using wpAny_loadPart' hl
    repeat (first
      | (refine wpAny_ite_false (decide_eq_false (by rw [c0]; exact Bool.false_ne_true)) ?_; wp_walk using wpAny_loadPart' hl)
      | (refine wpAny_ite_false (decide_eq_false (by rw [c1]; exact Bool.false_ne_true)) ?_; wp_walk using wpAny_loadPart' hl)
      | (refine wpAny_ite_true (decide_eq_true c2) ?_; wp_walk using wpAny_loadPart' hl))
    exact ⟨_, rfl, h⟩
/-- (x,) * k for k 0 or 1 -/
def rRep01 (K : PySem.W.Frag) : R2 := fun x y H Q => ∃ l k xs, x = .ref l ∧ y = .int k ∧ SqT K H l xs ∧ xs ≠ [] ∧ 0 ≤ k ∧ k ≤ 1 ∧ (k = 1 → Q (.ref l) H) ∧ (k = 0 → ∀ p, H p = none → Q (.ref p) (upd H p (.tup [])))
theorem op_rep01K {K : PySem.W.Frag} (hK : X.K = K := by rfl) : OpR X (binaryOp .Mult) (rRep01 K) := by
  subst hK
  intro pins s σ H x y v u Q I rx ry h
  obtain ⟨l, k, xs, rfl, rfl, hT, hne, h0, h1, q1, q0⟩ := h
  cases rx
  obtain ⟨t, rfl⟩ := ry
  obtain ⟨its, r, ⟨⟨cls, dd, data, sl⟩, ho, hc, n, hd⟩, hs⟩ := I.tuple hT
  simp only at hc hd
  subst hc hd
  have hle : its.length = xs.length := r.length.symm
  have hn : its ≠ [] := fun e => hne (by
    rw [e] at hle
    exact List.eq_nil_of_length_eq_zero hle.symm)
  have hi : its.toArray.isEmpty = false := by
    cases its with
    | nil => exact absurd rfl hn
    | cons a b => rfl
  rcases (by omega : k = 1 ∨ k = 0) with e | e
  · subst e
    exact wpAny_binaryOp_repeat_ref (T := "tuple") (U := "int") (by decide) ⟨_, ho, rfl⟩ (fun s' => typeIs_int s' 1 t) noFill_tuple_mul F.fills_int_mul F.slot_int_rmul repeat_tuple F.slot_int_index.lookup
      (call_meets F.slot_int_rmul (typeIs_int s 1 t) F.entry_int_rmul (F.args_int_rmul_2 _ _) (int_rmul_tuple 1 t l its.toArray n dd sl)
        ⟨ho, rfl, ⟨_, ho, rfl⟩, call_meets F.slot_tuple_mul ⟨_, ho, rfl⟩ F.entry_tuple_mul (F.args_tuple_mul_2 _ _) (tuple_mul1 l its.toArray n dd sl t) ⟨ho, ⟨.ref l, H, I, rfl, q1 rfl⟩⟩⟩)
  · subst e
    refine wpAny_binaryOp_repeat_ref (T := "tuple") (U := "int") (by decide) ⟨_, ho, rfl⟩ (fun s' => typeIs_int s' 0 t) noFill_tuple_mul F.fills_int_mul F.slot_int_rmul repeat_tuple F.slot_int_index.lookup
      (call_meets F.slot_int_rmul (typeIs_int s 0 t) F.entry_int_rmul (F.args_int_rmul_2 _ _) (int_rmul_tuple 0 t l its.toArray n dd sl)
        ⟨ho, rfl, ⟨_, ho, rfl⟩, call_meets F.slot_tuple_mul ⟨_, ho, rfl⟩ F.entry_tuple_mul (F.args_tuple_mul_2 _ _) (tuple_mul0 l its.toArray n dd sl t hi) ⟨ho, ?_⟩⟩)
    refine ⟨.ref s.heap.objs.size, _, I.laid (t' := s.toks) (o := .tup []) (fun b ob q => Heap.get?_push_of_some _ q) (Nat.le_refl _) ?_, rfl, q0 rfl _ (I.hok.fresh (Nat.le_refl _))⟩
    exact ⟨Nat.zero_le _, _, .nil, IsTup.new _ _⟩
theorem op_catAK {K : PySem.W.Frag} (e : X.K = K := by rfl) : OpR X (binaryOp .Add) (rCatA K) := e ▸ op_catA
end
/-- t + u, told in one: some tuple with the items of both -/
theorem catA {K : PySem.W.Frag} {a b : Addr} {xs ys : List V} {H : Hp} {Q : VK} (ha : SqT K H a xs) (hb : SqT K H b ys) (hz : xs.length + ys.length ≤ 100000) (q : ∀ p H', Same H H' → SqT K H' p (xs ++ ys) → Q (.ref p) H') : rCatA K (.ref a) (.ref b) H Q := by
  refine ⟨a, b, xs, ys, rfl, rfl, ha, hb, Nat.le_trans hz (by decide), fun e => ?_, fun _ e => ?_, fun _ _ p hp => ?_⟩
  · subst e
    exact q b H (Same.refl _) hb
  · subst e
    rw [List.append_nil] at q
    exact q a H (Same.refl _) ha
  · exact q p _ (same_new hp) (SqT.of upd_same)
/-- t[lo:hi], told in one -/
theorem slA {K : PySem.W.Frag} {a : Addr} {xs : List V} {lo hi : Option Int} {H : Hp} {Q : VK} (ha : SqT K H a xs) (q : ∀ p H', Same H H' → SqT K H' p (cutV xs lo hi) → Q (.ref p) H') : rSlA K (.ref a) lo hi H Q := by
  refine ⟨a, xs, rfl, ha, fun e => q a H (Same.refl _) ?_, fun _ p hp => q p _ (same_new hp) (SqT.of upd_same)⟩
  unfold cutV
  rw [e.1, e.2, Nat.sub_zero, List.drop_zero, List.take_length]
  exact ha
end Hr

set_option Elab.async false
set_option linter.all false
set_option maxRecDepth 100000
set_option maxHeartbeats 4000000
/-! deadlocks as data -/
namespace Hr
open PySem PySem.Spec PyProof.Rows L2
abbrev Re := Str × Int
def rsD (r : Re) : PyData := .tuple [.str r.1, .int r.2]
def pairB (ps : List Pr2) (k s : Int) (sl : List Int) : Bool := decide (0 ≤ k) && match ps[k.toNat]? with
  | none => false
  | some p => decide (s = ((p.2 : Nat) : Int)) && decide (((p.1 : Nat) : Int) ∈ sl)
def repB (rs : List Rp) (k s : Int) (sl : List Int) : Bool := decide (0 ≤ k) && match rs[k.toNat]? with
  | none => false
  | some r => decide (s ∈ r.1.map fun (i : Nat) => (i : Int)) && (!decide (s ∈ r.2.map fun (i : Nat) => (i : Int)) && r.1.all fun x => decide (((x : Nat) : Int) ∈ sl))
def rsB (ps : List Pr2) (rs : List Rp) (sl : List Int) (s : Int) (r : Re) : Bool := if r.1 = "pair" then pairB ps r.2 s sl else decide (r.1 = "report") && repB rs r.2 s sl
theorem pairB_no {ps : List Pr2} {k s : Int} {sl : List Int} (h : k < 0 ∨ ps.length ≤ k) : pairB ps k s sl = false := by
  unfold pairB
  by_cases h0 : 0 ≤ k
  · rw [List.getElem?_eq_none (by omega), Bool.and_false]
  · rw [decide_eq_false h0, Bool.false_and]
theorem pairB_yes {ps : List Pr2} {k : Nat} {s : Int} {sl : List Int} {p : Pr2} (h : ps[k]? = some p) : pairB ps (k : Nat) s sl = (decide (s = ((p.2 : Nat) : Int)) && decide (((p.1 : Nat) : Int) ∈ sl)) := by
  unfold pairB
  rw [decide_eq_true (by omega), Bool.true_and, Int.toNat_natCast, h]
theorem repB_no {rs : List Rp} {k s : Int} {sl : List Int} (h : k < 0 ∨ rs.length ≤ k) : repB rs k s sl = false := by
  unfold repB
  by_cases h0 : 0 ≤ k
  · rw [List.getElem?_eq_none (by omega), Bool.and_false]
  · rw [decide_eq_false h0, Bool.false_and]
theorem repB_yes {rs : List Rp} {k : Nat} {s : Int} {sl : List Int} {r : Rp} (h : rs[k]? = some r) : repB rs (k : Nat) s sl = (decide (s ∈ r.1.map fun (i : Nat) => (i : Int)) && (!decide (s ∈ r.2.map fun (i : Nat) => (i : Int)) && r.1.all fun x => decide (((x : Nat) : Int) ∈ sl))) := by
  unfold repB
  rw [decide_eq_true (by omega), Bool.true_and, Int.toNat_natCast, h]
theorem rs_open {K : PySem.W.Frag} {H : Hp} {v : V} {r : Re} (h : Dp K H v (rsD r)) : ∃ a, v = .ref a ∧ SqT K H a [.str r.1, .int r.2] := by
  unfold rsD at h
  cases h with
  | tup h1 h2 =>
    cases h2 with
    | cons y1 r1 =>
      cases y1
      cases r1 with
      | cons y2 r2 =>
        cases y2
        cases r2
        exact ⟨_, rfl, h1⟩
theorem ints_all : ∀ {xs : List V}, (∀ x ∈ xs, ∃ i : Int, x = .int i) → ∃ l : List Int, xs = iV l
  | [], _ => ⟨[], rfl⟩
  | x :: r, h => by
    obtain ⟨i, rfl⟩ := h x List.mem_cons_self
    obtain ⟨l, rfl⟩ := ints_all fun y hy => h y (List.mem_cons_of_mem _ hy)
    exact ⟨i :: l, rfl⟩
theorem reas_all {K : PySem.W.Frag} {H : Hp} : ∀ {ys : List V}, (∀ y ∈ ys, ∃ r : Re, Dp K H y (rsD r)) → ∃ re : List Re, DpAll K H ys (re.map rsD)
  | [], _ => ⟨[], .nil⟩
  | y :: r, h => by
    obtain ⟨i, hi⟩ := h y List.mem_cons_self
    obtain ⟨l, hl⟩ := reas_all fun z hz => h z (List.mem_cons_of_mem _ hz)
    exact ⟨i :: l, .cons hi hl⟩
theorem mem_cut {x : V} {xs : List V} {lo hi : Option Int} (h : x ∈ cutV xs lo hi) : x ∈ xs := List.mem_of_mem_drop (List.mem_of_mem_take h)
theorem len_cut2 {xs : List V} {i : Int} (h0 : 0 ≤ i) : (cutV xs none (some i)).length + (cutV xs (some (i + 1)) none).length ≤ xs.length ∧ (cutV xs none (some i)).length + (cutV xs (some i) none).length ≤ xs.length := by
  have e1 : ∀ j : Int, 0 ≤ j → HT.sIx xs.length xs.length (some j) = min j.toNat xs.length ∧ HT.sIx xs.length 0 (some j) = min j.toNat xs.length := fun j hj => by
    unfold HT.sIx
    constructor <;> (simp only []; split <;> omega)
  have e2 : HT.sIx xs.length 0 none = 0 ∧ HT.sIx xs.length xs.length none = xs.length := ⟨rfl, rfl⟩
  unfold cutV
  simp only [List.length_take, List.length_drop, e2.1, e2.2, (e1 i h0).1, (e1 i h0).2, (e1 (i + 1) (by omega)).2]
  omega
theorem ix_any {K : PySem.W.Frag} {H : Hp} {a : Addr} {xs : List V} {i : Nat} {x : V} {Q : VK} (h : SqL K H a xs ∨ SqT K H a xs) (hx : xs[i]? = some x) (q : Q x H) : rIx K (.ref a) (.int (i : Nat)) H Q := by
  rcases h with h | h
  · exact .inl ⟨a, xs, _, _, rfl, rfl, h, atI_nat hx, q⟩
  · exact .inr (.inl ⟨a, xs, _, _, rfl, rfl, h, atI_nat hx, q⟩)
theorem dec_i {i j : Int} : decide (V.int i = V.int j) = decide (i = j) := dec_v Iff.rfl
theorem ite_and {b c : Bool} {A : Prop} {Q : Bool → Prop} (h : b = true → A) (h2 : b = false → Q false) : (if b = true then A else Q false) := by
  cases b
  · exact h2 rfl
  · exact h rfl
/-! ### the ascending ones -/
def slotB' (n i : Int) : Bool := decide (0 ≤ i) && decide (i < n)
theorem lt_all {l : List Int} (h : ∀ i, i + 1 < l.length → l.getD i 0 < l.getD (i + 1) 0) : ∀ j i, i < j → j < l.length → l.getD i 0 < l.getD j 0
  | 0, i, h1, _ => by omega
  | j + 1, i, h1, h2 => by
    have k := h j h2
    by_cases e : i = j
    · subst e; exact k
    · have := lt_all h j i (by omega) (by omega)
      omega
theorem eqvAll_ints : ∀ l m : List Int, PyData.eqvAll (l.map PyData.int) (m.map PyData.int) = true → l = m
  | [], [], _ => rfl
  | [], y :: m, h => by simp [PyData.eqvAll] at h
  | x :: l, [], h => by simp [PyData.eqvAll] at h
  | x :: l, y :: m, h => by
    simp only [List.map_cons, PyData.eqvAll, Bool.and_eq_true] at h
    have h1 : x = y := by
      have := h.1
      simpa [PyData.eqv] using this
    rw [h1, eqvAll_ints l m h.2]
theorem iD_deep {n : Nat} {l : List Int} (h : l.length < 50000) : deep (n + 2) (iD l) = true :=
  deep_list_of (by rw [List.length_map]; exact h) fun d hd => by
    obtain ⟨z, _, rfl⟩ := List.mem_map.mp hd
    exact deep_int
theorem eqv_ints {l m : List Int} (hl : l.length < 50000) : PyData.eqv (iD l) (iD m) = decide (l = m) := by
  by_cases e : l = m
  · subst e
    rw [eqv_same (iD_deep (n := 0) hl), decide_eq_true rfl]
  · rw [decide_eq_false e]
    refine Bool.eq_false_iff.mpr fun h => e (eqvAll_ints l m ?_)
    simpa [iD, PyData.eqv] using h
theorem nD_i (l : List Nat) : nD l = iD (l.map fun (i : Nat) => (i : Int)) := by unfold nD iD; rw [List.map_map]; rfl
/-- a deadlock: a pair of a tuple of numbers and a tuple of reasons -/
def DkAt (K : PySem.W.Frag) (H : Hp) (m : Nat) (v : V) : Prop := ∃ t sa ra xs ys, v = .ref t ∧ SqT K H t [.ref sa, .ref ra] ∧ SqT K H sa xs ∧ SqT K H ra ys ∧ xs.length ≤ m ∧ ys.length ≤ m ∧ (∀ x ∈ xs, ∃ i : Int, x = .int i) ∧ ∀ y ∈ ys, ∃ r : Re, Dp K H y (rsD r)
theorem DkAt.same {K : PySem.W.Frag} {H H' : Hp} {m : Nat} {v : V} (h : DkAt K H m v) (s : Same H H') : DkAt K H' m v := by
  obtain ⟨t, sa, ra, xs, ys, e, h1, h2, h3, h4, h5, h6, h7⟩ := h
  exact ⟨t, sa, ra, xs, ys, e, Same.seqT s h1, Same.seqT s h2, Same.seqT s h3, h4, h5, h6, fun y hy => by obtain ⟨r, hr⟩ := h7 y hy; exact ⟨r, dp_mono s hr⟩⟩
theorem slS {K : PySem.W.Frag} {S : List Addr} {a : Addr} {xs : List V} {lo hi : Option Int} {H : Hp} {Q : VK} (tr : Tr H S) (ha : SqT K (dl H S) a xs) (q : ∀ p H', Same H H' → SqT K (dl H' S) p (cutV xs lo hi) → Q (.ref p) H') : rSlA K (.ref a) lo hi H Q := by
  refine ⟨a, xs, rfl, Same.seqT dl_le ha, fun e => q a H (Same.refl _) ?_, fun _ p hp => q p _ (same_new hp) (SqT.of (dl_upd_at tr hp))⟩
  unfold cutV
  rw [e.1, e.2, Nat.sub_zero, List.drop_zero, List.take_length]
  exact ha
theorem catS {K : PySem.W.Frag} {S : List Addr} {a b : Addr} {xs ys : List V} {H : Hp} {Q : VK} (tr : Tr H S) (ha : SqT K (dl H S) a xs) (hb : SqT K (dl H S) b ys) (hz : xs.length + ys.length ≤ 100000) (q : ∀ p H', Same H H' → SqT K (dl H' S) p (xs ++ ys) → Q (.ref p) H') : rCatA K (.ref a) (.ref b) H Q := by
  refine ⟨a, b, xs, ys, rfl, rfl, Same.seqT dl_le ha, Same.seqT dl_le hb, Nat.le_trans hz (by decide), fun e => ?_, fun _ e => ?_, fun _ _ p hp => ?_⟩
  · subst e
    exact q b H (Same.refl _) hb
  · subst e
    rw [List.append_nil] at q
    exact q a H (Same.refl _) ha
  · exact q p _ (same_new hp) (SqT.of (dl_upd_at tr hp))
end Hr

set_option Elab.async false
set_option linter.all false
set_option maxRecDepth 100000
set_option maxHeartbeats 4000000
/-! sorted of a list or a tuple of ints; min of a list of ints -/
namespace Hr
open PySem PySem.Spec PyProof.Rows L2
section
variable {prog : Program} {w : World} {A : Around} {E : Value → Shared → Prop} {s : Shared}
theorem collect_tup {l : Addr} {vs : List Value} {Q : List Value → Shared → Prop} (hl : IsTup s.heap l vs.toArray)
    (h : Q vs { s with heap := (s.heap.push (seqObj "list" #[] 0)).update s.heap.objs.size (Obj.mapSeq (· ++ vs.toArray)) }) (hsz : vs.length ≤ sizeLine) :
    wpAny (model prog w) A (collect (.ref l)) Q E s := by
  obtain ⟨o, ho, hc, n, hd⟩ := id hl
  unfold collect
  refine wpAny_bind (wpAny_runValue (codeAny_builtin entry_proto_collect' ?_))
  show wpAny _ _ (do again (.builtin "list.__iadd__" ⟨[← newList [], .ref l], []⟩)) _ _ s
  refine wpAny_bind (wpAny_newList (wpAny_pure ⟨Code.quiet_builtin _ (by decide +kernel), codeAny_builtin entry_list_iadd' ?_⟩))
  show wpAny _ _ (Builtin.List.listExtendWith (.ref s.heap.objs.size) (.ref l) (.ref s.heap.objs.size)) _ _ { s with heap := s.heap.push (seqObj "list" #[] 0) }
  unfold Builtin.List.listExtendWith
  have ho' : (s.heap.push (seqObj "list" #[] 0)).get? l = some o := Heap.get?_push_of_some _ ho
  refine wpAny_bind (wpAny_typeOf (T := "tuple") ⟨o, ho', hc⟩ ?_)
  have ht : (Value.type "tuple" == Value.type "tuple") = true := by rfl
  rw [if_pos (by rw [ht]; simp)]
  refine wpAny_bind (listItems_at ho' hd ?_)
  refine wpAny_bind (listItems_at (xs := #[]) (n := 0) (Heap.get?_push_size _ rfl) rfl ?_)
  rw [if_neg (by simp)]
  refine wpAny_bind (listUpdate_at (xs := #[]) (n := 0) (Heap.get?_push_size _ rfl) rfl ?_ (Nat.zero_le _) (by show (#[] ++ vs.toArray).size ≤ sizeLine + 1; simp only [Array.size_append, List.size_toArray, List.length_nil]; omega))
  refine wpAny_pure ?_
  show wpAny (model prog w) A (do
      let o ← load s.heap.objs.size
      match o.data with
      | .seq xs _ => pure xs.toList
      | _ => unsupported "internal:collect") Q E { s with heap := (s.heap.push (seqObj "list" #[] 0)).update s.heap.objs.size (Obj.mapSeq (· ++ vs.toArray)) }
  refine wpAny_bind (wpAny_load (get?_update_seq (Heap.get?_push_size _ rfl) _) ?_)
  show wpAny _ _ (pure ((#[] : Array Value) ++ vs.toArray).toList) Q E _
  rw [show ((#[] : Array Value) ++ vs.toArray).toList = vs by simp]
  exact wpAny_pure h
end
end Hr
namespace SrtO
open PySem PyProof.Rows Srt
section
variable {prog : Program} {w : World} {A : Around} {E : Value → Shared → Prop} {s : Shared}
theorem sorted_ordT {l : Addr} {vs : List Value} {ltv : Value → Value → Bool} {Q : Value → Shared → Prop} (O : Swo ltv) (hl : IsTup s.heap l vs.toArray) (hz : vs.length ≤ sizeLine)
    (hS : 2 ≤ vs.length → ∀ (h₁ : Heap) (a : Addr), h₁.get? a = some (seqObj "list" vs.toArray 0) → (∀ b o, s.heap.get? b = some o → b ≠ a ∧ h₁.get? b = some o) → SortableO prog w A.in1.in1 { s with heap := h₁ } a vs ltv)
    (h : ∀ out : List Value, Srtd ltv out → Stb ltv out vs → Q (.ref (s.heap.objs.size + 1)) { s with heap := sortedAll s.heap vs out.toArray }) :
    wpAny (model prog w) A (call (.builtin "sorted") [.ref l]) Q E s := by
  refine Calls.call_function_entry kind_sorted plain_sorted entry_sorted (args_sorted1 _) ?_
  unfold Builtin.«sorted»
  refine wpAny_bind (m := checkCount "sorted" 1 1 _) (wpAny_pure ?_)
  refine wpAny_bind (Hr.collect_tup hl ?_ hz)
  refine wpAny_bind (wpAny_newList ?_ hz)
  have hsz : ((s.heap.push (seqObj "list" #[] 0)).update s.heap.objs.size (Obj.mapSeq (· ++ vs.toArray))).objs.size = s.heap.objs.size + 1 := by
    rw [Heap.size_update, size_push']
  have hoL : (((s.heap.push (seqObj "list" #[] 0)).update s.heap.objs.size (Obj.mapSeq (· ++ vs.toArray))).push (seqObj "list" vs.toArray 0)).get? (s.heap.objs.size + 1) = some (seqObj "list" vs.toArray 0) := by
    rw [← hsz]; exact Heap.get?_push_size _ rfl
  have keep : ∀ b o, s.heap.get? b = some o → b ≠ s.heap.objs.size + 1 ∧ (((s.heap.push (seqObj "list" #[] 0)).update s.heap.objs.size (Obj.mapSeq (· ++ vs.toArray))).push (seqObj "list" vs.toArray 0)).get? b = some o := fun b o q => by
    have hlt : b < s.heap.objs.size := Heap.lt_size q
    refine ⟨Nat.ne_of_lt (Nat.lt_succ_of_lt hlt), Heap.get?_push_of_some _ ?_⟩
    rw [Heap.get?_update_ne _ _ _ _ (Nat.ne_of_lt hlt)]
    exact Heap.get?_push_of_some _ q
  show wpAny _ _ _ _ _ { s with heap := ((s.heap.push (seqObj "list" #[] 0)).update s.heap.objs.size (Obj.mapSeq (· ++ vs.toArray))).push (seqObj "list" vs.toArray 0) }
  rw [hsz]
  refine wpAny_bind (wpAny_holding (wpAny_call_entry slot_list_sort ⟨_, hoL, rfl⟩ entry_list_sort (list_sort_ord O hoL hz (fun h2 => hS h2 _ _ hoL keep) fun out hs hb => ⟨_, rfl, ?_⟩) (args_list_sort _)))
  exact wpAny_pure ⟨_, rfl, h out hs hb⟩
end
end SrtO
namespace Hr
open PySem PySem.Spec PyProof.Rows L2
/-- sorted of ints, a list or a tuple -/
@[irreducible] def rSortedA (K : PySem.W.Frag) : List V → Hp → VK → Prop := fun vs H Q => ∃ (a : Addr) (ns : List Int), vs = [V.ref a] ∧ (SqL K H a (iV ns) ∨ SqT K H a (iV ns)) ∧
  ∀ (ns' : List Int) (p : Addr), ns'.Perm ns → ns'.Pairwise (· ≤ ·) → H p = none → Q (.ref p) (upd H p (.lst (iV ns')))
section
variable {X : Cx}
theorem cr_sortedAK {K : PySem.W.Frag} (hK : X.K = K := by rfl) : CallR X (.builtin "sorted") (rSortedA K) := by
  subst hK
  intro pins s σ H vs us Q I r h
  unfold rSortedA at h
  obtain ⟨a, ns, rfl, hs | hs, q⟩ := h
  · exact cr_sortedI pins s σ H _ us Q I r ⟨a, ns, rfl, hs, q⟩
  obtain ⟨its, rv, hl, hz⟩ := I.tuple hs
  rw [Vals.ref1 r]
  have hi := rv.ints
  refine SrtO.sorted_ordT SrtO.swo_int hl (by rw [← rv.length]; exact hz) (fun h2 h₁ a' _ _ => SrtO.ints_sortable hi h2) fun out h1 h2 => ?_
  obtain ⟨k1, k2, k3⟩ := SrtO.ints_out hi h1 h2
  obtain ⟨ep, he'⟩ := PyProof.Rows.sortedAll_at s.heap its out.toArray
  have hlen : ((out.map SrtO.iv).map V.int).length ≤ sizeLine := by
    rw [List.length_map, k2.length_eq]
    rw [List.length_map] at hz
    exact hz
  exact ⟨.ref _, upd H (s.heap.objs.size + 1) (.lst ((out.map SrtO.iv).map V.int)), I.laid (t' := s.toks) (fun _ _ => PyProof.Rows.sortedAll_old) (Nat.le_succ _) ⟨hlen, out, ep, vals_of_ints k1, he'⟩, rfl, q _ _ k2 k3 (I.hok.fresh (Nat.le_succ _))⟩
theorem cr_minK {K : PySem.W.Frag} (hc : X.calm = true) (e : X.K = K := by rfl) : CallR X (.builtin "min") (rMin K) := e ▸ cr_min hc
end
theorem sortedA_on {K : PySem.W.Frag} {H : Hp} {Q : VK} {a : Addr} {ns : List Int} (h : SqL K H a (iV ns) ∨ SqT K H a (iV ns)) (q : ∀ (ns' : List Int) (p : Addr), ns'.Perm ns → ns'.Pairwise (· ≤ ·) → H p = none → Q (.ref p) (upd H p (.lst (iV ns')))) : rSortedA K [.ref a] H Q := by
  unfold rSortedA
  exact ⟨a, ns, rfl, h, q⟩
/-! ### orders -/
def IsOrd (n : Nat) (o : List Int) : Prop := ∃ l : List Nat, o = (l.map fun (i : Nat) => (i : Int)) ∧ l.Perm (List.range n)
theorem le_asc {l : List Nat} (h : l.Pairwise (· ≤ ·)) (hn : l.Nodup) : Asc l := by
  refine List.Pairwise.imp₂ (fun a b h1 h2 => ?_) h hn
  omega
theorem sort_ord {n : Nat} {o s : List Int} (hp : s.Perm o) (hs : s.Pairwise (· ≤ ·)) : (s = (List.range n).map fun (i : Nat) => (i : Int)) ↔ IsOrd n o := by
  have tc : ∀ l : List Nat, (l.map fun (i : Nat) => (i : Int)).map Int.toNat = l := fun l => by
    rw [List.map_map]
    conv => rhs; rw [← List.map_id l]
    exact List.map_congr_left fun x _ => Int.toNat_natCast x
  constructor
  · intro e
    refine ⟨o.map Int.toNat, ?_, ?_⟩
    · rw [List.map_map]
      conv => lhs; rw [← List.map_id o]
      refine List.map_congr_left fun x hx => ?_
      have : x ∈ s := hp.symm.subset hx
      rw [e] at this
      obtain ⟨y, _, rfl⟩ := List.mem_map.mp this
      rfl
    · have := (hp.symm.map Int.toNat)
      rw [e, tc] at this
      exact this
  · rintro ⟨l, rfl, hl⟩
    have hb : ∀ x ∈ s, 0 ≤ x := fun x hx => by
      obtain ⟨y, _, rfl⟩ := List.mem_map.mp (hp.subset hx)
      omega
    have es : s = (s.map Int.toNat).map fun (i : Nat) => (i : Int) := by
      rw [List.map_map]
      conv => lhs; rw [← List.map_id s]
      refine List.map_congr_left fun x hx => ?_
      have := hb x hx
      show x = ((x.toNat : Nat) : Int)
      omega
    have pm : (s.map Int.toNat).Perm (List.range n) := by
      have := hp.map Int.toNat
      rw [tc] at this
      exact this.trans hl
    have hm : Asc (s.map Int.toNat) := le_asc (List.pairwise_map.mpr (hs.imp fun {a b} h => by omega)) (pm.nodup_iff.mpr List.nodup_range)
    have : s.map Int.toNat = List.range n := asc_ext hm List.pairwise_lt_range fun x => pm.mem_iff
    rw [es, this]
theorem dc_it {J : It} {n : Nat} {G : Hp → Prop} {Y : Nat → Hp → V → Hp → Prop} (w : Walk J n G Y) {g : TG} {tt : TT} {tk tv : TE} {vs : List Nat} {σ : L2.St} {H1 : Hp} {D : Addr} {Qd : Hp → Prop} (Pv : Nat → Hp → Prop) (h0 : Pv 0 (upd H1 D (.dK []))) (hG : ∀ i H, i ≤ n → Pv i H → G H)
    (hs : ∀ i x H H', i < n → Pv i H → Y i H x H' → g x (wipe σ vs) H' fun σ2 H2 => wipe σ2 vs = wipe σ vs ∧ tt σ2 H2 fun b H3 =>
      if b = true then tk σ2 H3 fun y H4 => tv σ2 H4 fun z H5 => ∃ kvs k, y = kV k ∧ H5 D = some (.dK kvs) ∧ kvs.length < sizeLine ∧ Pv (i + 1) (upd H5 D (.dK (putK kvs k z))) else Pv (i + 1) H3) (hd : ∀ H, Pv n H → Qd H) :
    ∃ W : Nat → Nat → Hp → Prop, (∃ m, W 0 m (upd H1 D (.dK []))) ∧ ∀ i m H, W i m H →
      (J.stop i H ∧ Qd H) ∨ (J.go i H ∧ ∃ Nx : Hp → Prop, (∀ H', Nx H' → ∃ m', m' < m ∧ W (i + 1) m' H') ∧ ∀ x H', J.yld i H x H' → g x (wipe σ vs) H' fun σ2 H2 => wipe σ2 vs = wipe σ vs ∧ tt σ2 H2 fun b H3 =>
        if b = true then tk σ2 H3 fun y H4 => tv σ2 H4 fun z H5 => ∃ kvs k, y = kV k ∧ H5 D = some (.dK kvs) ∧ kvs.length < sizeLine ∧ Nx (upd H5 D (.dK (putK kvs k z))) else Nx H3) := by
  refine ⟨fun i m H => m = n - i ∧ i ≤ n ∧ Pv i H, ⟨n, by simp, Nat.zero_le _, h0⟩, ?_⟩
  rintro i m H ⟨rfl, hi, p⟩
  have q := hG i H hi p
  by_cases hlt : i < n
  · refine .inr ⟨w.goes i H hlt q, Pv (i + 1), fun H' p' => ⟨n - (i + 1), by omega, rfl, hlt, p'⟩, fun x H' y => hs i x H H' hlt p (w.yields i H x H' hlt q y)⟩
  · have e : i = n := by omega
    subst e
    exact .inl ⟨w.stops H q, hd H p⟩
theorem idx_at {l : List Nat} {i s : Nat} (hn : l.Nodup) (h : l[i]? = some s) : l.idxOf s = i := by
  have h1 := (List.getElem?_eq_some_iff.mp h).1
  have h2 := (List.getElem?_eq_some_iff.mp h).2
  rw [← h2]
  exact List.Nodup.idxOf_getElem hn i h1
section
variable {X : Cx} {K : PySem.W.Frag} {o e : Expr} {apos cpos : Pos} {to : TE} {t : TA}
/-- xs.index(y), within a comprehension -/
theorem pe_indexK (ho : PE X o to) (ha : PA X [e] t) (hK : X.K = K := by rfl)
    (hbase : attributeBase o "index" X.env (eval o X.env) = eval o X.env := by rfl)
    (hfew : ((backTo cpos (starEach [e] X.env)).all (fun x => !x.1) && (backToKw cpos (keywordEach [] X.env)).all (fun x => x.1.isSome)
      && decide ([e].length + ([] : List Keyword).length + (if ([] : List Keyword).isEmpty then 0 else 1) < 30)) = true := by rfl)
    (hline : (apos.endLine == cpos.line) = true := by rfl) (hs : starEach [e] X.env = (false, eval e X.env) :: starEach [] X.env := by rfl) (hplain : (backTo cpos (starEach [] X.env)).any (·.1) = false := by rfl) :
    PE X (.Call (.Attribute o "index" apos) [e] [] cpos) (tBM K "list" (rIndex K) to t) := by
  subst hK
  exact pe_bm PySem.F.plainAttrs_list PySem.F.slot_list_index PySem.F.type_list_index mt_index ho ha hbase hfew hline hs hplain
end
/-- the place of a number in a list of numbers -/
theorem index_on {K : PySem.W.Frag} {H : Hp} {Q : VK} {a : Addr} {l : List Nat} {s : Nat} (ha : SqL K H a (nV l)) (hs : s ∈ l) (q : Q (.int ((l.idxOf s : Nat) : Int)) H) : rIndex K (.ref a) [.int ((s : Nat) : Int)] H Q := by
  have lt : l.idxOf s < l.length := List.idxOf_lt_length_of_mem hs
  refine ⟨a, nV l, _, l.idxOf s, .int ((s : Nat) : Int), rfl, rfl, ha, rfl, flat_nats _, ?_, ?_, fun m z hm hz => ?_, q⟩
  · rw [List.getElem?_map, List.getElem?_eq_getElem lt, List.getElem_idxOf lt]
    rfl
  · show (((s : Nat) : Int) == ((s : Nat) : Int)) = true
    exact beq_self_eq_true _
  · rw [List.getElem?_map, List.getElem?_eq_getElem (by omega)] at hz
    cases hz
    show (((l[m] : Nat) : Int) == ((s : Nat) : Int)) = false
    refine beq_eq_false_iff_ne.mpr fun e => ?_
    have e' : l[m] = s := by omega
    have k : (l[m] == s) = false := List.not_of_lt_findIdx (p := (· == s)) hm
    rw [e', beq_self_eq_true] at k
    cases k
end Hr

set_option Elab.async false
set_option linter.all false
set_option maxRecDepth 100000
set_option maxHeartbeats 4000000
/-! o.m(k=e); a comprehension over texts that the bag decides -/
namespace Hr
open PySem PySem.Spec PyProof.Rows L2
structure KwM (fd : FuncData) (ps ks : List Str) : Prop where
  to : ∀ (s : Shared) (u : Value) (us : List Value), us.length = ks.length → BindsTo s fd ⟨[u], ks.zip us⟩ (ps.zip (u :: us))
theorem kwm_of {K : PySem.W.Frag} {x qual : Str} {st : Stmt} {f : Addr} {fd : FuncData} {ps ks : List Str} (F : Fun K x qual st f fd)
    (h : ∀ (kV doc pm : Value) (an : Option Addr) (cdv ct u : Value) (us : List Value), us.length = ks.length → bindArgs (PySem.W.fnOf x qual (defArgs st) (defBody st) (defScope st) .none kV doc pm an cdv ct) ⟨[u], ks.zip us⟩ = pure (ps.zip (u :: us))) : KwM fd ps ks := by
  obtain ⟨oc, od, kV, doc, pm, an, cdv, ct, osl, rfl, lk, hcd⟩ := F.ex
  exact ⟨fun s u us hl => .of_eq (h kV doc pm an cdv ct u us hl)⟩
def tMethKw (C : Addr) (m : Str) (sp : Sp) (E : XK) (n : Nat) (ta : TE) (tk : TA) : TE := fun σ H Q => ta σ H fun x H1 => ∃ a dx fs, x = .ref a ∧ H1 a = some (.ins C dx fs) ∧ fs.lookup m = none ∧ tk σ H1 fun vs H2 => vs.length = n ∧ sp (x :: vs) H2 Q E
section
variable {X : Cx} {CX : CXT} {k : Nat} {f C : Addr} {fd : FuncData} {ps ks : List Str} {sp : Sp} {E : XK} {m : Str} {pos apos : Pos} {o : Expr} {kws : List Keyword} {ta : TE} {tk : TA}
theorem pe_methKw {pl : Sem Bool} (he : PE X o ta) (c : Cls X.K C) (hm : Meth X.K C m f) (F : FnOk X.prog X.w X.K X.mg X.base CX k f fd ps sp) (hr : Room k X.A) (hb : KwM fd ps ks) (hx : Passes CX X E) (hkw : PK X kws tk)
    (hall : (backToKw pos (keywordEach kws X.env)).all (·.1.isSome) = true := by rfl) (hks : (backToKw pos (keywordEach kws X.env)).filterMap (·.1) = ks := by rfl)
    (hpl : ((backTo pos (starEach [] X.env)).any (·.1) || (backToKw pos (keywordEach kws X.env)).any (·.1.isNone)) = false := by rfl)
    (ht : eval (.Call (.Attribute o m apos) [] kws pos) X.env = (do
      let ov ← eval o X.env
      standAt apos.atName
      let (f, first) ← holding [ov] (getMethod ov m pl)
      callWith pos f first (backTo pos (starEach [] X.env)) (backToKw pos (keywordEach kws X.env))) := by rfl) :
    PE X (.Call (.Attribute o m apos) [] kws pos) (tMethKw C m sp E ks.length ta tk) := by
  refine ⟨fun pins s σ H Q I h => ?_⟩
  refine PySem.W.methodCall_KW (pl := pl) (thn (he.run pins s σ H _ I h) fun u s1 ⟨x, H1, I1, rx, a, dx, fs, ex, ea, l, q⟩ => ?_) ht
  subst ex
  obtain rfl : u = Value.ref a := rx
  refine getmeth_ok I1 ea c hm l ?_
  refine PySem.W.callWith_KW0 (first := [.ref a]) (h₀ := X.base) I.ok.mod.kin hm.kp hall ?_ hpl
  refine thn (hkw.run pos pins s1 σ H1 _ I1 q) fun us s2 ⟨vs, H2, I2, r, hvl, q2⟩ => ⟨I2.kIn, ?_⟩
  rw [hks]
  have hl : us.length = ks.length := by rw [← r.length]; exact hvl
  refine wpAny_call (codeAny_mono (F.run X.A X.stack s2 H2 ⟨[.ref a], ks.zip us⟩ (.ref a :: us) (.ref a :: vs) Q E hr I2.env0 (hb.to s2 _ us hl) (.cons rfl r) q2) fun r s' hq => ?_)
  cases r with
  | error e => exact hx pins σ H2 s2 e s' I2 hq
  | ok fl =>
    cases fl with
    | ret u => exact I2.after hq
    | next => exact False.elim hq
    | brk => exact False.elim hq
    | cont => exact False.elim hq
end
/-- a comprehension that keeps some of a list's values, as the bag says -/
theorem lc_subV {J : It} {xs : List V} {G : Hp → Prop} (w : Walk J xs.length G (YAt xs)) {g : TG} {tt : TT} {te : TE} {vs : List Nat} {σ : L2.St} {H1 : Hp} {D b l : Addr} {Qd : Hp → Prop} (hb : Bag H1 b l) (hD : H1 D = none) (hG : ∀ H, Bx b l H1 H → G H) (hn : xs.length < 100000)
    (hs : ∀ (i : Nat) x H (R : V → Hp → Prop) (Z : Hp → Prop), xs[i]? = some x → Bx b l H1 H → (∀ H4, Bx b l H H4 → R x H4) → (∀ H4, Bx b l H H4 → Z H4) → g x (wipe σ vs) H fun σ2 H2 => wipe σ2 vs = wipe σ vs ∧ tt σ2 H2 fun bb H3 => if bb = true then te σ2 H3 R else Z H3)
    (hd : ∀ H ys, Bx b l H1 H → H D = some (.lst ys) → ys.Sublist xs → Qd H) :
    ∃ W : Nat → Nat → Hp → Prop, (∃ m, W 0 m (upd H1 D (.lst []))) ∧ ∀ i m H, W i m H →
      (J.stop i H ∧ Qd H) ∨ (J.go i H ∧ ∃ Nx : Hp → Prop, (∀ H', Nx H' → ∃ m', m' < m ∧ W (i + 1) m' H') ∧ ∀ x H', J.yld i H x H' → g x (wipe σ vs) H' fun σ2 H2 => wipe σ2 vs = wipe σ vs ∧ tt σ2 H2 fun b H3 =>
        if b = true then te σ2 H3 fun y H4 => ∃ acc, H4 D = some (.lst acc) ∧ acc.length < sizeLine ∧ Nx (upd H4 D (.lst (acc ++ [y]))) else Nx H3) := by
  have nD : D ≠ b := hb.ne_new hD
  have nL : D ≠ l := hb.ne_newl hD
  refine lc_it w (fun i H => Bx b l H1 H ∧ ∃ ys, H D = some (.lst ys) ∧ ys.Sublist (xs.take i)) ⟨Bx.new hb hD, [], upd_same, List.nil_sublist _⟩ (fun i H _ h => hG H h.1) ?_ ?_
  · rintro i x H H' hi ⟨bx, ys, hy, hl⟩ ⟨rfl, hx⟩
    refine hs i x H' _ _ hx bx (fun H4 b4 => ⟨ys, b4.keep D _ nD hy, szt ?_, ⟨b4.bag.of (upd_ne nD.symm) (upd_ne nL.symm), fun a o n e => ?_⟩, ys ++ [x], upd_same, ?_⟩) (fun H4 b4 => ⟨bx.trans b4, ys, b4.keep D _ nD hy, ?_⟩)
    · have := hl.length_le
      rw [List.length_take] at this
      omega
    · rw [upd_ne (ne_of_none e hD)]
      exact b4.keep a o n (bx.keep a o n e)
    · rw [take_step hx]
      exact hl.append (List.Sublist.refl _)
    · rw [take_step hx]
      exact hl.trans (List.sublist_append_left _ _)
  · rintro H ⟨bx, ys, hy, hl⟩
    rw [List.take_length] at hl
    exact hd H ys bx hy hl
end Hr

set_option Elab.async false
set_option linter.all false
set_option maxRecDepth 100000
set_option maxHeartbeats 4000000
/-! set(xs) of a list of ints; its sorted list -/
namespace Hr
open PySem PySem.Spec PyProof.Rows L2
/-- a new set -/
abbrev nSet (w : World) : Obj := { cls := .type "set", dict := none, data := .set #[] 0 (.fresh 0 0 (!w.params.followText "set-order")) }
/-- what set(xs) leaves behind: the set lies at the heap's end, all else is as it was -/
def SetMade (w : World) (s : Shared) (ns : List Int) (s2 : Shared) : Prop :=
  ∃ h' tk c, s2 = { s with heap := h', toks := tk } ∧ SetR w h' s.heap.objs.size (fun j => decide (j ∈ ns)) c ∧ c ≤ ns.length ∧ ∀ b o, s.heap.get? b = some o → h'.get? b = some o
section
variable {P : Program} {w : World} {A : Around} {E : Value → Shared → Prop} {s : Shared}
theorem ints_val {items : Array Value} {ns : List Int} (hit : IntsAre items.toList ns) : items.size = ns.length ∧ ∀ (i : Nat) (v : Value), items[i]? = some v → ∃ k t, ns[i]? = some k ∧ v = .int k t := by
  have hz : items.size = ns.length := by
    have q := IntsAre.length hit
    rwa [Array.length_toList] at q
  refine ⟨hz, fun i v hv => ?_⟩
  have hi : i < ns.length := hz ▸ (Array.getElem?_eq_some_iff.mp hv).1
  obtain ⟨t, e⟩ := PyProof.Rows.IntsAre.int_at hit i v (by rw [Array.getElem?_toList]; exact hv)
  exact ⟨ns[i], t, List.getElem?_eq_getElem hi, by rw [e, List.getD_eq_getElem?_getD, List.getElem?_eq_getElem hi]; rfl⟩
/-- set(xs): the set is laid, then its own __init__ walks the list -/
theorem call_set_lst {l : Addr} {items : Array Value} {ns : List Int} {Q : Value → Shared → Prop} (hh : A.handled = none) (hl : s.heap.IsList l items) (hit : IntsAre items.toList ns) (hb : ns.length + 1 < scanBound)
    (h : ∀ s2, SetMade w s ns s2 → Q (.ref s.heap.objs.size) s2) : wpAny (model P w) A (call (.type "set") [.ref l]) Q E s := by
  obtain ⟨hz, hval⟩ := ints_val hit
  have fC := F.called_set
  obtain ⟨c, tl, mro⟩ := fC.mro
  have f1 := fC.made; have f2 := fC.sub; have f3 := fC.notType; have f4 := fC.canCreate
  have f5 := F.typeCall_set_1 (.ref l)
  have f6 := fC.init.lookup
  have f7 := fC.init.bind (.ref s.heap.objs.size)
  have at0 : (s.heap.push (nSet w)).get? s.heap.objs.size = some (nSet w) := Heap.get?_push_size _ rfl
  have tS : Shared.TypeIs { s with heap := s.heap.push (nSet w) } (.ref s.heap.objs.size) "set" := ⟨_, at0, rfl⟩
  have lt0 : l < s.heap.objs.size := by
    obtain ⟨o, ho, _⟩ := hl
    exact Heap.lt_size ho
  refine wpAny_call (codeAny_of_tree ?_)
  show wpAny _ _ (callAny (.type "set") _) _ _ _
  refine wpAny_pure ⟨Code.quiet_builtin _ (by decide +kernel), codeAny_builtin F.entry_type_call ?_⟩
  rw [Around.under_plain (weight_type_call_type "set" [.ref l] []) rfl]
  repeat (any_goals (first | assumption | wp_step))
  refine codeAny_mono (code_set_led1 (.ref l) (E := E) (Q₁ := fun x s1 => x = .ref s.heap.objs.size ∧ s1 = { s with heap := s.heap.push (nSet w) }) ⟨rfl, rfl⟩) fun r s1 hr => ?_
  rcases r with e | fl
  · exact hr
  cases fl
  case ret =>
    obtain ⟨rfl, rfl⟩ := hr
    repeat (any_goals (first | assumption | wp_step))
    refine codeAny_mono (codeAny_call_builtin (R := wants (fun x s2 => x = .none ∧ SetMade w s ns s2) E) fC.init.plain F.entry_set_init (check_set_init_1 tS ?_)) fun r2 s2 hr2 => ?_
    · have hl1 : (s.heap.push (nSet w)).IsList l items := hl.push _
      obtain ⟨⟨_, od, _, os⟩, ho, rfl, n, rfl⟩ := hl1
      have e1 := F.sub_list_set; have e2 := F.sub_list_frozenset
      have e3 : (Value.type "list" == Value.type "dict") = false := by decide
      have hl1 : (s.heap.push (nSet w)).IsList l items := hl.push _
      unfold Builtin.«set.__init__» noKeywords Builtin.Frozenset.updateFrom
      generalize hPI : pyIter = PI
      wp_walk
      subst hPI
      refine wpAny_pyIter_list hl1 (wpAny_bind (wpAny_runValue ?_))
      have nI : l ≠ (s.heap.push (nSet w)).objs.size := by
        rw [Heap.size_push]
        exact Nat.ne_of_lt (Nat.lt_succ_of_lt lt0)
      have nS : s.heap.objs.size ∉ [(s.heap.push (nSet w)).objs.size, l] := fun z => by
        rw [Heap.size_push] at z
        rcases List.mem_cons.mp z with z | z
        · omega
        · exact Nat.ne_of_gt lt0 (List.mem_singleton.mp z)
      refine set_update_ints ((Walks.list (by simp [hh]) _ l nI items).toS) s.heap.objs.size nS ns hz hb hval (items.size - 0) 0 _ rfl (Nat.zero_le _)
        ⟨⟨_, Heap.get?_push_size _ rfl, rfl, rfl⟩, hl1.push _⟩ ⟨0, Nat.le_refl 0, setR_new_at (Heap.get?_push_of_some _ at0)⟩ fun s' c' m hc R => ?_
      obtain ⟨h', g', d', k', o'⟩ := s'
      have q1 : g' = s.gens := m.gens
      have q2 : d' = s.drawn := m.drawn
      have q3 : o' = s.os := m.os
      subst q1; subst q2; subst q3
      show wpAny _ _ _ _ _ _
      refine wpAny_pure ?_
      show wpAny _ _ (ret Value.none) _ _ _
      refine wpAny_pure ⟨rfl, h', k', c', rfl, R, hz ▸ hc, fun b o e => m.heap b o (fun z => ?_) (Heap.get?_push_of_some _ (Heap.get?_push_of_some _ e))⟩
      have lb := Heap.lt_size e
      rcases List.mem_cons.mp z with z | z
      · exact Nat.ne_of_lt lb z
      · have z := List.mem_singleton.mp z
        rw [Heap.size_push] at z
        exact Nat.ne_of_lt (Nat.lt_succ_of_lt lb) z
    · rcases r2 with e | fl
      · exact hr2
      cases fl
      case ret =>
        obtain ⟨rfl, hm⟩ := hr2
        repeat (any_goals (first | assumption | wp_step))
        exact h _ hm
      all_goals exact hr2.elim
  all_goals exact hr.elim
end
section
variable {X : Cx}
/-- set(xs) -/
def rSetL (K : PySem.W.Frag) (w : World) : List V → Hp → VK → Prop := fun vs H Q => ∃ (a : Addr) (ns : List Int), vs = [V.ref a] ∧ SqL K H a (ns.map V.int) ∧ ns.length < 1000 ∧
  ∀ (p : Addr) (c : Nat), H p = none → c ≤ ns.length → Q (.ref p) (upd H p (SetO w p (fun j => decide (j ∈ ns)) c))
theorem cr_setL (hc : X.calm = true) : CallR X (.type "set") (rSetL X.K X.w) := by
  intro pins s σ H vs us Q I r h
  obtain ⟨a, ns, rfl, ha, hn, q⟩ := h
  rw [Vals.ref1 r]
  obtain ⟨its, rv, pl, hz⟩ := I.list ha
  refine call_set_lst (ns := ns) (I.ok.hd hc) pl.isList (by simpa using ints_of_vals rv) (by unfold scanBound; omega) fun s2 ⟨h', tk, c, e, R, hcn, k⟩ => ?_
  subst e
  exact ⟨.ref _, upd H s.heap.objs.size (SetO X.w s.heap.objs.size (fun j => decide (j ∈ ns)) c), I.laid (t' := tk) k (Nat.le_refl _) (setO_new R), rfl, q _ c (I.hok.fresh (Nat.le_refl _)) hcn⟩
end
end Hr

set_option Elab.async false
set_option linter.all false
set_option maxRecDepth 100000
set_option maxHeartbeats 4000000
/-! sorted of a list of tuples that can be compared place by place -/
namespace Hr
open PySem PySem.Spec PySem.W PyProof.Rows L2
section
variable {X : Cx}
/-- the order of rows: an item and what it says -/
def rowLe : V × PyData → V × PyData → Bool := dataLe false (·.2)
@[irreducible] def rSortedD (K : PySem.W.Frag) : List V → Hp → VK → Prop := fun vs H Q => ∃ (a : Addr) (zs : List (V × PyData)), vs = [V.ref a] ∧ SqL K H a (zs.map (·.1)) ∧ DpAll K H (zs.map (·.1)) (zs.map (·.2)) ∧ AllAlike (zs.map (·.2)) ∧ (∀ z ∈ zs, ∃ x r, z.2 = .tuple (x :: r)) ∧ zs.length ≤ 1000 ∧ (∀ z ∈ zs, z.2.depth ≤ 20) ∧
  ∀ p, H p = none → Q (.ref p) (upd H p (.lst ((zs.mergeSort rowLe).map (·.1))))
theorem each_rel : ∀ {zs : List (V × PyData)} {us : List Value}, Vals (zs.map (·.1)) us → EachIs (fun u z => RelV z.1 u) us zs
  | [], _, .nil => .nil
  | z :: zs, _, .cons r t => .cons r (each_rel t)
theorem rel_each : ∀ {zs : List (V × PyData)} {us : List Value}, EachIs (fun u (z : V × PyData) => RelV z.1 u) us zs → Vals (zs.map (·.1)) us
  | _, _, .nil => .nil
  | _, _, .cons r t => .cons r (rel_each t)
theorem each_reads {pins : List (Addr × Obj)} {σ : L2.St} {H : Hp} {s : Shared} (I : Inv X pins σ H s) : ∀ {zs : List (V × PyData)} {us : List Value}, Vals (zs.map (·.1)) us → DpAll X.K H (zs.map (·.1)) (zs.map (·.2)) → EachIs (fun u (z : V × PyData) => ∃ as, Reads s.heap u z.2 as) us zs
  | [], _, .nil, _ => .nil
  | z :: zs, _, .cons r t, .cons h1 h2 => .cons (Dp.reads I _ _ _ h1 r) (each_reads I t h2)
theorem cr_sortedDK {K : PySem.W.Frag} (hu : X.A.units + 64 < cLine) (hK : X.K = K := by rfl) : CallR X (.builtin "sorted") (rSortedD K) := by
  subst hK
  intro pins s σ H vs us Q I r h
  unfold rSortedD at h
  obtain ⟨a, zs, rfl, hs, hd, hal, htp, hl, hdp, q⟩ := h
  obtain ⟨its, rv, pl, hz⟩ := I.list hs
  rw [Vals.ref1 r]
  refine sorted_data (enc := fun z : V × PyData => z.2) (R := fun u z => RelV z.1 u) pl.isList (each_rel rv) (each_reads I rv hd) hal (.inl fun d hd' => ?_) (by rw [sizeLine_eq]; omega) (fun z hz' => by have := hdp z hz'; omega) fun out ho he => ?_
  · obtain ⟨z, hz', rfl⟩ := List.mem_map.mp hd'
    exact htp z hz'
  obtain ⟨ep, he'⟩ := PyProof.Rows.sortedAll_at s.heap its out.toArray
  have hlen : ((zs.mergeSort rowLe).map (·.1)).length ≤ sizeLine := by
    rw [List.length_map, List.length_mergeSort, sizeLine_eq]
    omega
  exact ⟨.ref _, upd H (s.heap.objs.size + 1) (.lst ((zs.mergeSort rowLe).map (·.1))), I.laid (t' := s.toks) (fun _ _ => PyProof.Rows.sortedAll_old) (Nat.le_succ _) ⟨hlen, out, ep, rel_each he, he'⟩, rfl, q _ (I.hok.fresh (Nat.le_succ _))⟩
end
theorem sortedD_on {K : PySem.W.Frag} {H : Hp} {Q : VK} {a : Addr} (zs : List (V × PyData)) (h1 : SqL K H a (zs.map (·.1))) (h2 : DpAll K H (zs.map (·.1)) (zs.map (·.2))) (h3 : AllAlike (zs.map (·.2))) (h4 : ∀ z ∈ zs, ∃ x r, z.2 = .tuple (x :: r)) (h5 : zs.length ≤ 1000) (h6 : ∀ z ∈ zs, z.2.depth ≤ 20)
    (q : ∀ p, H p = none → Q (.ref p) (upd H p (.lst ((zs.mergeSort rowLe).map (·.1))))) : rSortedD K [.ref a] H Q := by
  unfold rSortedD
  exact ⟨a, zs, rfl, h1, h2, h3, h4, h5, h6, q⟩
end Hr

set_option Elab.async false
set_option linter.all false
set_option maxRecDepth 100000
set_option maxHeartbeats 4000000
/-! errors of the program's own classes, over ValueError or over LookupError, with their own __init__ -/
namespace Hr
open PySem PySem.Spec PyProof.Rows L2
/-- what the written part says of a class of errors -/
structure XcC (K : PySem.W.Frag) (C : Addr) : Prop where
  fac : ∃ (B newId initId : String) (bmB : List Value), ExcBaseFacts B newId initId bmB ∧ StoreFacts B bmB "object.__setattr__" "object" ∧ PySem.W.excInitIn K C bmB newId = true ∧ PySem.W.excOver K C bmB = true
  sa : PySem.W.findIn K (.ref C) "__setattr__" = some (some (.builtin "object.__setattr__"))
  ga : PySem.W.findIn K (.ref C) "__getattribute__" = some (some (.builtin "BaseException.__getattribute__"))
  gg : PySem.W.findIn K (.ref C) "__getattr__" = some none
  sub : PySem.W.subIn K (.ref C) (.type "BaseException") = some true
  typ : PySem.W.typeIn K (.ref C) = some (.type "type")
  kp : PySem.W.keepIn K (.ref C) = true
  hd : PySem.W.hasDictIn K C = true
abbrev tailVE : List Value := [.type "ValueError", .type "Exception", .type "BaseException", .type "object"]
abbrev tailLE : List Value := [.type "LookupError", .type "Exception", .type "BaseException", .type "object"]
/-- all but the base, in one look -/
def xcB (K : PySem.W.Frag) (C : Addr) : Bool :=
  decide (PySem.W.findIn K (.ref C) "__setattr__" = some (some (.builtin "object.__setattr__"))) && (decide (PySem.W.findIn K (.ref C) "__getattribute__" = some (some (.builtin "BaseException.__getattribute__"))) && (decide (PySem.W.findIn K (.ref C) "__getattr__" = some none) &&
    (decide (PySem.W.subIn K (.ref C) (.type "BaseException") = some true) && (decide (PySem.W.typeIn K (.ref C) = some (.type "type")) && (PySem.W.keepIn K (.ref C) && PySem.W.hasDictIn K C)))))
def xcV (K : PySem.W.Frag) (C : Addr) : Bool := PySem.W.excInitIn K C tailVE "ValueError.__new__" && (PySem.W.excOver K C tailVE && xcB K C)
def xcL (K : PySem.W.Frag) (C : Addr) : Bool := PySem.W.excInitIn K C tailLE "LookupError.__new__" && (PySem.W.excOver K C tailLE && xcB K C)
theorem xcB_of {K : PySem.W.Frag} {C : Addr} {B newId initId : String} {bmB : List Value} (f1 : ExcBaseFacts B newId initId bmB) (f2 : StoreFacts B bmB "object.__setattr__" "object") (q : (PySem.W.excInitIn K C bmB newId && (PySem.W.excOver K C bmB && xcB K C)) = true) : XcC K C := by
  unfold xcB at q
  simp only [Bool.and_eq_true, decide_eq_true_eq] at q
  obtain ⟨q1, q2, a1, a2, a3, a4, a5, a6, a7⟩ := q
  exact ⟨⟨B, newId, initId, bmB, f1, f2, q1, q2⟩, a1, a2, a3, a4, a5, a6, a7⟩
theorem xcV_of {K : PySem.W.Frag} {C : Addr} (q : xcV K C = true) : XcC K C := xcB_of F.excBase_ValueError F.store_ValueError q
theorem xcL_of {K : PySem.W.Frag} {C : Addr} (q : xcL K C = true) : XcC K C := xcB_of F.excBase_LookupError F.store_LookupError q
theorem taker_no {K : PySem.W.Frag} {C : Addr} {f : Str} (h : PySem.W.findIn K (.ref C) f = some none) : PySem.W.takerIn K C f = some none := by
  unfold PySem.W.takerIn
  rw [h]
  rfl
section
variable {X : Cx} {pins : List (Addr × Obj)} {σ : L2.St} {H : Hp} {s : Shared} {a C dx : Addr} {f : Str} {y : V} {u : Value} {fs : List (Str × V)} {Q : Unit → Shared → Prop} {E : Value → Shared → Prop} {A : Around}
/-- the first field of a new error: its dict is laid -/
theorem xst_new (T : XcC X.K C) (I : Inv X pins σ H s) (e : H a = some (exo a C none)) (no : PySem.W.findIn X.K (.ref C) f = some none) (ry : RelV y u)
    (h : ∀ dx s', H dx = none → dx ≠ a → Inv X pins σ (upd (upd H dx (exd dx [(f, y)])) a (exo a C (some dx))) s' → Q () s') : wpAny (model X.prog X.w) A (setAttr (.ref a) f u) Q E s := by
  obtain ⟨B, newId, initId, bmB, _, f2, _, q2⟩ := T.fac
  obtain ⟨t1, ho⟩ := exo_at I.hok e
  obtain ⟨cd, hc, hd'⟩ := PySem.W.any_some T.hd
  have kin := I.kIn
  obtain ⟨hp, g, d, t, os⟩ := s
  have las : a ≠ hp.objs.size := Nat.ne_of_lt (Heap.lt_size ho)
  refine PySem.W.set_plain kin (od := none) ⟨ho, rfl, rfl, trivial⟩ T.sa (PySem.W.osa_openX (od := none) f2 kin ⟨ho, rfl, rfl, trivial⟩ q2 (taker_no no) fun bb => ?_)
  refine wpAny_bind (wpAny_pure (wpAny_bind (PySem.W.instanceDict_exc (t := t1) (c2 := .none) ho (PySem.W.looks_clsIn kin hc) hd' ?_)))
  refine PySem.HandSPX.store_in_new ⟨_, #[], _, (Heap.get?_update_ne _ _ _ _ las.symm).trans (Heap.get?_push_at rfl rfl), rfl, fun e he => absurd he (by simp), fun _ => rfl⟩ fun h' tk' hn hs => ?_
  have ha1 : (hp.push (PySem.W.dictOf [] 0)).get? a = some (PySem.W.excObj C t1 none .none) := Heap.get?_push_of_some _ ho
  have kp : ∀ b o, b ≠ a → hp.get? b = some o → h'.get? b = some o := fun b o hb hg => (hs.2 b (Nat.ne_of_lt (Heap.lt_size hg))).trans ((Heap.get?_update_ne _ _ _ _ hb).trans (Heap.get?_push_of_some _ hg))
  have hx : h'.get? a = some (PySem.W.excObj C t1 (some hp.objs.size) .none) := (hs.2 a las).trans (Heap.get?_update_self _ ha1 rfl)
  have fr : H hp.objs.size = none := I.hok.fresh (Nat.le_refl _)
  have nd : ∀ {b : Addr} {o : Obj}, hp.get? b = some o → b ≠ hp.objs.size := fun {b o} q => Nat.ne_of_lt (Heap.lt_size q)
  have na : ∀ {b : Addr}, H b = none → b ≠ a := fun {b} n z => by
    rw [z, e] at n
    cases n
  have away : ∀ {b : Addr} {o : HO}, H b = some o → b ≠ a → upd (upd H hp.objs.size (exd hp.objs.size [(f, y)])) a (exo a C (some hp.objs.size)) b = some o := fun {b o} q hb => by rw [upd_ne hb, upd_ne (ne_of_none q fr)]; exact q
  have un : Un X.fs [] H (upd (upd H hp.objs.size (exd hp.objs.size [(f, y)])) a (exo a C (some hp.objs.size))) hp h' :=
    ⟨fun b o q n _ _ => kp b o (na n) q, fun b o q n _ _ => ⟨o.slots, kp b o (na n) q⟩, fun b o q n _ => by rw [upd_ne (na n), upd_ne (nd q)]; exact n,
      fun b o q _ => by
        by_cases hb : b = a
        · exact ⟨_, by rw [hb]; exact hx⟩
        · exact ⟨o, kp b o hb q⟩,
      fun b xs q => away q (at_ne e q exo_tup), fun b o v q => away q (at_ne e q exo_frz), fun b ps q => ⟨#[], by rw [away q (at_ne e q exo_tbl)]; simp⟩⟩
  refine h hp.objs.size _ fr las.symm (I.un (t' := tk') un fun b o q => ?_)
  by_cases hb : b = a
  · subst hb
    rw [upd_same] at q
    cases q
    exact exo_ok hx
  rw [upd_ne hb] at q
  by_cases hb2 : b = hp.objs.size
  · subst hb2
    rw [upd_same] at q
    cases q
    exact exd_ok hn (relO_put (fs := []) ry fun _ => True.intro)
  rw [upd_ne hb2] at q
  refine (I.hok b o q).stay (fun c v hc z => kp c v ?_ z) (fun c hc => away hc (at_ne e hc exo_own)) fun c xs hc => away hc (at_ne e hc exo_tup)
  rcases hc with hc | hc
  · rw [hc]
    exact hb
  · exact at_ne e hc exo_own
/-- a further field -/
theorem xst_old (T : XcC X.K C) (I : Inv X pins σ H s) (e : H a = some (exo a C (some dx))) (ed : H dx = some (exd dx fs)) (hl : fs.length ≤ 900) (no : PySem.W.findIn X.K (.ref C) f = some none) (ry : RelV y u)
    (h : ∀ s', Inv X pins σ (upd H dx (exd dx ((f, y) :: fs))) s' → Q () s') : wpAny (model X.prog X.w) A (setAttr (.ref a) f u) Q E s := by
  obtain ⟨B, newId, initId, bmB, _, f2, _, q2⟩ := T.fac
  obtain ⟨t1, ho⟩ := exo_at I.hok e
  obtain ⟨mA, hns, rel⟩ := exd_at I.hok ed
  obtain ⟨cd, hc, hd'⟩ := PySem.W.any_some T.hd
  have kin := I.kIn
  have hw := within_of rel
  obtain ⟨hp, g, d, t, os⟩ := s
  obtain ⟨oD, _, _, hoD, _, _⟩ := hns.count hw
  refine PySem.W.set_plain kin (od := some oD) ⟨ho, rfl, rfl, hoD⟩ T.sa (PySem.W.osa_openX (od := some oD) f2 kin ⟨ho, rfl, rfl, hoD⟩ q2 (taker_no no) fun bb => ?_)
  refine wpAny_bind (wpAny_pure (wpAny_bind (wpAny_bind (wpAny_loadPart ho (wpAny_bind ((PySem.W.looks_clsIn kin hc).at ?_))))))
  rw [hd']
  refine wpAny_pure (a := some dx) (PySem.OEX.store_in_old hns hw (by rw [List.length_map]; omega) fun h' tk' hn hs => ?_)
  obtain ⟨o1, _, _, e1, _⟩ := id hn
  exact h _ (I.write (t' := tk') (x := dx) (e := dx) (o := exd dx ((f, y) :: fs)) (by rw [ed]; exact True.intro) (.inl rfl) (fun b o hb ho => (hs.2 b hb).trans ho) ⟨o1, e1⟩ (exd_ok hn (relO_put ry rel)))
end
/-- self.f = e, self a new error -/
def tXst (K : PySem.W.Frag) (f : Str) (to te : TE) : TS := fun D σ H => te σ H fun y H1 => to σ H1 fun x H2 => ∃ a C : Addr, x = .ref a ∧ XcC K C ∧ PySem.W.findIn K (.ref C) f = some none ∧
  ((H2 a = some (exo a C none) ∧ ∀ dx, H2 dx = none → dx ≠ a → D.nx σ (upd (upd H2 dx (exd dx [(f, y)])) a (exo a C (some dx)))) ∨
    ∃ (dx : Addr) (fs : List (Str × V)), H2 a = some (exo a C (some dx)) ∧ H2 dx = some (exd dx fs) ∧ fs.length ≤ 900 ∧ D.nx σ (upd H2 dx (exd dx ((f, y) :: fs))))
theorem ps_xst {X : Cx} {o e : Expr} {to te : TE} {f : Str} {p' pos : Pos} (ho : PE X o to) (he : PE X e te) (hs : swapsWith e (some (.Attribute o f p')) pos.line X.env = pure false := by rfl) : PS X (.Assign [.Attribute o f p'] e pos) (tXst X.K f to te) := by
  refine ⟨fun pins s σ H D I h => plainObj_wpAny_Assign_Attribute (thn (he.run pins s σ H _ I h) fun v s1 ⟨y, H1, I1, r1, q1⟩ => thn (ho.run pins s1 σ H1 _ I1 q1) fun u s2 ⟨x, H2, I2, r2, a, C, ex, T, no, q⟩ => ?_) hs⟩
  subst ex
  obtain rfl : u = Value.ref a := r2
  rcases q with ⟨ea, q⟩ | ⟨dx, fs, ea, ed, hl, q⟩
  · exact xst_new T I2 ea no r1 fun dx s' n ne J => ⟨σ, _, J, q dx n ne⟩
  · exact xst_old T I2 ea ed hl no r1 fun s' J => ⟨σ, _, J, q⟩
/-- what the making of such an error leaves -/
theorem mkp_of {X : Cx} {pins : List (Addr × Obj)} {σ : L2.St} {H1 H2 : Hp} {Q : XK} {hp hp2 h2 : Heap} {g1 g2 : Array GenState} {d1 d2 : Drawn} {t1 t2 : Nat} {os1 os2 : OsState} {a C d : Addr} {fs : List (Str × V)} (T : XcC X.K C) (I1 : Inv X pins σ H1 ⟨hp, g1, d1, t1, os1⟩)
    (ha : hp.objs.size ≤ a) (k : ∀ b o, hp.get? b = some o → hp2.get? b = some o) (un : Un (frs X.stack) [] (upd H1 a (exo a C none)) H2 hp2 h2) (hok : HOk X.prog X.w H2 h2) (ho : os2 = os1) (hb : AllBare g2)
    (ea : H2 a = some (exo a C (some d))) (ed : H2 d = some (exd d fs)) (hd1 : H1 d = none) (q : Q (.ref C) (some d) (upd (del H2 a) d (.xd fs))) : L2N.MkP X pins σ Q (.ref a) ⟨h2, g2, d2, t2, os2⟩ := by
  obtain ⟨t0, G, J, kG, ge, hoe, na⟩ := mk_end0 (d2 := d2) (t2 := t2) I1 ha k un hok ho hb ea ed hd1
  refine ⟨a, _, _, ⟨G, g2, d2, t2, os2⟩, _, .ref C, some d, rfl, J, kG, ge, hoe, ⟨rfl, rfl, fun vs hv => ?_⟩, rfl, rfl, na, rfl, hb, raises_own T.sub T.typ, q⟩
  cases hv
  rfl
section
variable {X : Cx} {x : Str} {e : Expr} {es : List Expr} {ta : TA} {p pos : Pos} {C fI : Addr} {k : Nat} {fd : FuncData} {ps : List Str} {sp : Sp}
theorem call_xc {pins : List (Addr × Obj)} {σ : L2.St} {H1 : Hp} {Q : XK} {s1 : Shared} {us : List Value} {vs : List V} (T : XcC X.K C) (iC : PySem.W.findIn X.K (.ref C) "__init__" = some (some (.ref fI))) (tI : PySem.W.typeIn X.K (.ref fI) = some (.type "function"))
    (F1 : FnOk X.prog X.w X.K X.mg X.base CX0 k fI fd ps sp) (hr : Room (k + 1) X.A) (hb : Binds X.K fd ps []) (I1 : Inv X pins σ H1 s1) (r1 : Vals vs us) (hz : vs.length ≤ 1000)
    (q1 : ∀ a, H1 a = none → sp (.ref a :: vs) (upd H1 a (exo a C none)) (fun v H2 => v = .non ∧ ∃ (d : Addr) (fs : List (Str × V)), H2 a = some (exo a C (some d)) ∧ H2 d = some (exd d fs) ∧ H1 d = none ∧ Q (.ref C) (some d) (upd (del H2 a) d (.xd fs))) (fun _ _ _ => False)) :
    wpAny (model X.prog X.w) X.A (call (.ref C) us) (L2N.MkP X pins σ Q) X.xe s1 := by
  obtain ⟨B, newId, initId, bmB, f1, _, q3, _⟩ := T.fac
  obtain ⟨nm, N, qn, bs, bm, hdct, sn, sub, ab, col, dd, k0, k1, k2, k3, k5, hC, hT⟩ := PySem.W.excInit_of I1.kIn q3
  obtain ⟨hp, g, dr, tk, os⟩ := s1
  have old : ∀ b o, hp.get? b = some o → ((hp.push (PySem.W.kdv_tup us)).push (PySem.HandSPX.excO C hp.objs.size)).get? b = some o := fun b o z => Heap.get?_push_of_some _ (Heap.get?_push_of_some _ z)
  have at1 : ((hp.push (PySem.W.kdv_tup us)).push (PySem.HandSPX.excO C hp.objs.size)).get? (hp.objs.size + 1) = some (PySem.HandSPX.excO C hp.objs.size) := by heap_get
  have le1 : hp.objs.size ≤ hp.objs.size + 1 := Nat.le_succ _
  have hq := q1 (hp.objs.size + 1) (I1.hok.fresh le1)
  have I2 := I1.laid (t' := tk) (a := hp.objs.size + 1) (o := exo (hp.objs.size + 1) C none) old le1 (exo_ok at1)
  have r2 : Vals (V.ref (hp.objs.size + 1) :: vs) (Value.ref (hp.objs.size + 1) :: us) := .cons rfl r1
  have hl : (Value.ref (hp.objs.size + 1) :: us ++ []).length = ps.length := by
    rw [List.append_nil, ← r2.length]
    exact F1.len _ _ _ _ hq
  have b2 := hb _ (Value.ref (hp.objs.size + 1) :: us) I2.kIn hl
  rw [List.append_nil] at b2
  have hus : us.length ≤ sizeLine := by
    rw [← Paired.length r1, sizeLine_eq]
    omega
  refine wpAny_call (PySem.HandSPX.call_own f1 hT hC (PySem.W.looks_findIn I1.kIn iC) (fun self => PySem.W.bind_fn I1.kIn self tI) hus (codeAny_mono (F1.run _ X.stack _ _ ⟨Value.ref (hp.objs.size + 1) :: us, []⟩ _ _ _ (fun _ _ _ => False) (hr.make C us []) (I2.env0.make C us []) b2 r2 hq) fun r s' hq' => ?_))
  cases r with
  | error er => exact (show False from hq').elim
  | ok fl =>
    cases fl with
    | ret u =>
      obtain ⟨v, H2, os2, bare2, un2, hok2, rv, ev, d, fs, ea, ed, hd1, q2⟩ := hq'
      subst ev
      obtain ⟨h2, g2, d2, t2, os'⟩ := s'
      exact ⟨rv, mkp_of T I1 le1 old un2 hok2 os2 bare2 ea ed hd1 q2⟩
    | next => exact False.elim hq'
    | brk => exact False.elim hq'
    | cont => exact False.elim hq'
def tXmk (C : Addr) (sp : Sp) (ta : TA) : L2.St → Hp → XK → Prop := fun σ H Q => ta σ H fun vs H1 => vs.length ≤ 1000 ∧ ∀ a, H1 a = none → sp (.ref a :: vs) (upd H1 a (exo a C none))
  (fun v H2 => v = .non ∧ ∃ (d : Addr) (fs : List (Str × V)), H2 a = some (exo a C (some d)) ∧ H2 d = some (exd d fs) ∧ H1 d = none ∧ Q (.ref C) (some d) (upd (del H2 a) d (.xd fs))) (fun _ _ _ => False)
/-- C(e, ..) as what is raised -/
theorem pmk_xc (T : XcC X.K C) (iC : PySem.W.findIn X.K (.ref C) "__init__" = some (some (.ref fI))) (tI : PySem.W.typeIn X.K (.ref fI) = some (.type "function")) (F1 : FnOk X.prog X.w X.K X.mg X.base CX0 k fI fd ps sp) (hr : Room (k + 1) X.A) (hb : Binds X.K fd ps []) (hg : Gl X x) (hm : X.mg x = some (.ref C)) (ha : PA X (e :: es) ta)
    (hdb : (x == ("__debug__" : Str)) = false := by decide) (he : starEach (e :: es) X.env = (false, eval e X.env) :: starEach es X.env := by rfl) (hpl : (backTo pos (starEach es X.env)).any (·.1) = false := by rfl) :
    L2N.PMk X (.Call (.Name x p) (e :: es) [] pos) (tXmk C sp ta) := by
  intro pins s σ H Q I h
  refine wpAny_Call_Name_kw (ld_glob I hg hm (PySem.W.callWith_K (h₀ := X.base) I.ok.mod.kin T.kp (thn (ha.run pos pins s σ H _ I h) fun us s1 ⟨vs, H1, I1, r1, hz, q1⟩ => ⟨I1.kIn, ?_⟩) he hpl) hdb)
  exact call_xc T iC tI F1 hr hb I1 r1 hz q1
end
end Hr

set_option Elab.async false
set_option linter.all false
set_option maxRecDepth 100000
set_option maxHeartbeats 4000000
/-! try with several clauses 'except C as e'; defs that raise; the fields of a caught error; defs called in a clause -/
namespace Hr
open PySem PySem.Spec PyProof.Rows L2
/-- a def that never raises is one that may raise -/
theorem FnOk.may {P : Program} {w : World} {K : PySem.W.Frag} {mg : Str → Option Value} {base : Heap} {CX : CXT} {k : Nat} {f : Addr} {fd : FuncData} {ps : List Str} {sp : Sp} (F : FnOk P w K mg base CX0 k f fd ps sp) : FnOk P w K mg base CX k f fd ps sp := by
  refine ⟨F.len, fun A outer s H args us vs Q E hr e0 bd vl h => PySem.codeAny_mono (F.run A outer s H args us vs Q E hr e0 bd vl h) fun R s' q => ?_⟩
  unfold CR at q ⊢
  split at q
  · exact q
  · exact (show False from q).elim
  · exact q.elim
/-- as Fun.ok, for a def that may raise -/
theorem Fun.okR {P : Program} {w : World} {K : PySem.W.Frag} {mg : Str → Option Value} {base : Heap} {x qual : Str} {st : Stmt} {f : Addr} {fd : FuncData} {N ps : List Str} {k : Nat} {sp : Sp} (F : Fun K x qual st f fd) (S : FnScope N ps (defScope st)) (len : ∀ vs H Q E, sp vs H Q E → vs.length = ps.length)
    (body : ∀ (cdv : Value) (A : Around) (outer : List Env) (s : Shared) (H : Hp) (vs : List V) (Q : VK) (E : XK), Room k (A.deeper (envOfC qual (defScope st) s.heap.objs.size f cdv)) → L2N.Takes (cxOf (L2N.CX P w) P w K mg base N qual (defScope st) f cdv A outer s H E) (fun cls d _ H' => E cls d H') → sp vs H Q E →
      ∃ t, PSs (cxOf (L2N.CX P w) P w K mg base N qual (defScope st) f cdv A outer s H E) (defBody st) t ∧ t { nx := fun _ H' => Q .non H', rt := Q } (start N vs) H) : FnOk P w K mg base (L2N.CX P w) (k + 1) f fd ps sp := by
  obtain ⟨oc, od, kV, doc, pm, an, cdv, ct, osl, rfl, lk, hcd⟩ := F.ex
  exact fn_of lk hcd S len fun A outer s H vs Q E hr hsp => body cdv A outer s H vs Q E hr (L2N.takes_of rfl rfl rfl rfl) hsp
/-- what is raised: an error of the class at C with these fields -/
def Rsd (C : Addr) (fs : List (Str × V)) (H : Hp) (E : XK) : Prop := ∀ d H', Same H H' → H d = none → H' d = some (.xd fs) → E (.ref C) (some d) H'
theorem takesN0 {X : Cx} : L2N.Takes X (fun _ _ _ _ => False) := fun _ _ ⟨_, _, _, _, _, _, _, _, _, _, _, _, _, _, _, _, z⟩ => z.elim
theorem Rsd.same {C : Addr} {fs : List (Str × V)} {H H' : Hp} {E : XK} (h : Rsd C fs H E) (s : Same H H') : Rsd C fs H' E := fun d H2 s2 n e => h d H2 (s.trans s2) (s.free n) e
/-- what the clauses wish, one after the other; i: the slot of their name -/
def wNamed (K : PySem.W.Frag) (i : Nat) (Wout : WX) (D : Ends) : List (Value × (Addr → Value → Option Addr → TS)) → WX
  | [] => Wout
  | (c, ts) :: r => fun cls d σ H => ∃ b, PySem.W.exmOne K cls c = some b ∧ (b = true → ∀ a, H a = none → ts a cls d { nx := fun σ' H' => D.nx (σ'.set i none) H', rt := D.rt, bk := fun σ' H' => D.bk (σ'.set i none) H', ct := fun σ' H' => D.ct (σ'.set i none) H' } (σ.set i (some (.ref a))) H) ∧ (b = false → wNamed K i Wout D r cls d σ H)
inductive Clauses (X : Cx) (n : Str) : List ExceptHandler → List (Value × (Addr → Value → Option Addr → TS)) → Prop
  | nil : Clauses X n [] []
  | cons {x : Str} {c : Value} {ts : Addr → Value → Option Addr → TS} {b₀ : Stmt} {rest : List Stmt} {np pc : Pos} {hds : List ExceptHandler} {l : List (Value × (Addr → Value → Option Addr → TS))} (hc : Names X x c)
      (hsu : ∀ (a : Addr) (oe : Obj) (cls : Value) (d : Option Addr) (pn : List (Addr × Obj)), L2N.Zn cls d oe → (∃ vs, oe.data = .fields vs) → PSs (X.suite a ((a, oe) :: pn)) (b₀ :: rest) (ts a cls d)) (r : Clauses X n hds l) :
      Clauses X n (.ExceptHandler (some (.Name x np)) (some n) (b₀ :: rest) pc :: hds) ((c, ts) :: l)
theorem ps_try_named {X : Cx} {n : Str} {i : Nat} {body : List Stmt} {h₀ : ExceptHandler} {hds : List ExceptHandler} {l : List (Value × (Addr → Value → Option Addr → TS))} {pos : Pos} {tb : WX → TS} {Wout : WX}
    (hs : X.stack = X.env :: X.outer) (hf : X.env.frame = some X.env.locals) (hN : X.N.Nodup) (hi : X.N[i]? = some n) (hln : X.env.kindOf n = some .local) (tk : L2N.Takes X Wout)
    (hb : ∀ (W : WX) (pn : List (Addr × Obj)) (xe : Value → Shared → Prop), L2N.Takes (X.tr pn xe) W → PassesOwn (model X.prog X.w) X.A X.env xe → PSs (X.tr pn xe) body (tb W))
    (hh : Clauses X n (h₀ :: hds) l) : PS X (.Try body (h₀ :: hds) [] [] pos) (fun D σ H => tb (wNamed X.K i Wout D l) D σ H) := by
  refine ⟨fun pins s σ H D I h => wpAny_Try_except ?_⟩
  have ok := I.ok
  have frames : X.A.frames = some (X.env :: X.outer) := by rw [ok.frames, hs]
  refine wpAny_mono ((hb (wNamed X.K i Wout D l) (X.pn ++ pins) (fun e s₁ => wpAny (model X.prog X.w) X.A (noteFrame e X.env) (fun _ s₂ => wpAny (model X.prog X.w) X.A (setFlight e none) (fun _ s₃ =>
    wpAny (model X.prog X.w) X.A (handleBy e X.env (h₀ :: hds)) (SP X pins D) X.xe s₃) X.xe s₂) X.xe s₁) (fun u s' air => ?_) PassesOwn.looking).run [] s σ H D (I.toTry _) h) (fun fl s1 done => ?_) (fun e s1 he => he)
  · obtain ⟨a, B, sI, pins', σ', H', cls, d, rfl, J0, nb, up, sky, na, os, ag, wish⟩ := air
    have J : Inv X pins σ' H' sI := J0.ofTry ok
    have sky' : Sky B (X.env :: X.outer) a (L2N.Zn cls d) X.env.locals s'.heap := by rw [← hs]; exact sky
    show wpAny (model X.prog X.w) X.A (noteFrame (.ref a) X.env) _ _ _
    refine L2N.Sky.land L2N.Zn.steady frames hf sky' fun h3 fl3 up3 => ?_
    have J3 : Inv X pins σ' H' { s' with heap := h3 } := J.landed nb fl3.1 (up.trans up3) os ag
    obtain ⟨o3, v3, g3, z3, d3⟩ := fl3.there
    have nfr : a ∉ frs (X.env :: X.outer) := fun hm => by
      obtain ⟨_, o', e', hnf⟩ := fl3.2.2.1.mem hm
      rw [g3] at e'; cases e'
      exact hnf _ d3
    have nL : a ≠ X.env.locals := fun z => nfr (List.mem_filterMap.mpr ⟨X.env, List.mem_cons_self, by rw [hf, z]⟩)
    have nF : a ∉ X.fs := fun hm => by
      obtain ⟨e, he, q⟩ := List.mem_filterMap.mp hm
      exact nfr (List.mem_filterMap.mpr ⟨e, List.mem_cons_of_mem _ he, q⟩)
    have S3 := J3.suite g3 d3 na nL nF
    have walk : ∀ {hs' : List ExceptHandler} {l' : List (Value × (Addr → Value → Option Addr → TS))}, Clauses X n hs' l' → wNamed X.K i Wout D l' cls d σ' H' → wpAny (model X.prog X.w) X.A (handleBy (.ref a) X.env hs') (SP X pins D) X.xe { s' with heap := h3 } := by
      intro hs' l' hk
      induction hk with
      | nil =>
        intro w
        refine wpAny_handleBy_nil ?_
        obtain ⟨k1, k2, k3, oe, vs, T, oT, ts', he, hz, hd, h1, hr⟩ := id fl3
        unfold PySem.passOn
        refine wpAny_bind (wpAny_field he hd h1 ?_)
        rw [if_neg (show ¬ ((Value.ref T == Value.none) = true) from by simp)]
        have fly : wpAny (model X.prog X.w) X.A (setFlight (.ref a) X.env.frame) (fun _ s4 => wpAny (model X.prog X.w) X.A (throw (.ref a) : Sem Flow) (SP X pins D) X.xe s4) X.xe { s' with heap := h3 } := by
          rw [hf]
          exact HandSPX.setFlight_upZ fl3 fun h4 hh4 up4 => wpAny_throw (tk _ _ ⟨a, B, sI, pins, σ', H', cls, d, rfl, J, nb, (up.trans up3).trans up4, .inr (.inr (by rw [hs]; exact hh4)), na, os, ag, w⟩)
        first
          | exact wpAny_bind (wpAny_pure (wpAny_bind fly))
          | exact wpAny_bind fly
      | @cons x c ts b₀ rest np pc hds2 l2 hc hsu r ih =>
        intro w
        obtain ⟨b, hb1, hyes, hno⟩ := w
        refine wpAny_handleBy_cons (codeAny_handlers_test ?_) (by intro q; cases q)
        have seen : PySem.W.Looks (model X.prog X.w) h3 (typeOf (.ref a)) cls := fun A Q E s k q => wpAny_typeOf_ref (k _ _ g3) (by rw [z3.1]; exact q)
        have asked := PySem.W.exm_one (M := model X.prog X.w) (J3.kIn) seen hb1
        have named : ∀ {Q : Value → Shared → Prop} {E : Value → Shared → Prop}, Q c { s' with heap := h3 } → wpAny (model X.prog X.w) (X.A.mark (some (.ref a))) (eval (.Name x np) X.env) Q E { s' with heap := h3 } := fun {Q E} q => by
          obtain ⟨hg, hdbg, hm | ⟨hm, hv, hnn⟩⟩ := hc
          · exact ld_glob (X := X.suite a ((a, o3) :: (X.pn ++ pins))) S3 hg hm q hdbg
          · exact ld_blt (X := X.suite a ((a, o3) :: (X.pn ++ pins))) S3 hg hm hv q hnn hdbg
        refine named (asked.here ?_)
        cases b with
        | true =>
          refine codeAny_handlers_suite_as (HandSPX.lands_againZ fl3 fun h4 fl4 up4 => ?_)
          have J4 : Inv X pins σ' H' { s' with heap := h4 } := J.landed nb fl4.1 ((up.trans up3).trans up4) os ag
          obtain ⟨o4, v4, g4, z4, d4⟩ := fl4.there
          have S4 := J4.suite g4 d4 na nL nF
          refine store_ok (X := X.suite a ((a, o4) :: (X.pn ++ pins))) (v := .ref a) S4 hN hi (.inl hln) rfl (fun s5 S5 => ?_) (.inr hln)
          refine wpAny_mono ((hsu a o4 cls d (X.pn ++ pins) z4 ⟨_, d4⟩).run [] s5 _ H' _ S5 (hyes rfl a na)) (fun f s6 hsp => ?_) (fun _ _ z => False.elim z)
          have gone : ∀ {σ6 : L2.St} {H6 : Hp} {Q : Shared → Prop}, Inv (X.suite a ((a, o4) :: (X.pn ++ pins))) [] σ6 H6 s6 → (∀ s7, Inv X pins (σ6.set i none) H6 s7 → Q s7) →
              wpAny (model X.prog X.w) X.A (do bindName X.env n .none; unbindBehindTheSuite X.env n pc) (fun _ s7 => Q s7) X.xe s6 := fun {σ6 H6 Q} S6 hq => gone_ok (S6.unsuite ok) hN hi hln hq
          cases f with
          | next => obtain ⟨σ6, H6, S6, q6⟩ := hsp; exact gone S6 fun s7 J7 => ⟨_, _, J7, q6⟩
          | brk => obtain ⟨σ6, H6, S6, q6⟩ := hsp; exact gone S6 fun s7 J7 => ⟨_, _, J7, q6⟩
          | cont => obtain ⟨σ6, H6, S6, q6⟩ := hsp; exact gone S6 fun s7 J7 => ⟨_, _, J7, q6⟩
          | ret u => obtain ⟨v6, σ6, H6, S6, r6, q6⟩ := hsp; exact gone S6 fun s7 J7 => ⟨_, _, _, J7, r6, q6⟩
        | false =>
          show wpAny _ X.A (handleBy (.ref a) X.env hds2) _ _ _
          exact ih (hno rfl)
    exact walk hh wish
  · cases fl with
    | next => obtain ⟨σ', H', J', q⟩ := done; exact wpAny_execs_nil ⟨σ', H', J'.ofTry ok, q⟩
    | brk => obtain ⟨σ', H', J', q⟩ := done; exact ⟨σ', H', J'.ofTry ok, q⟩
    | cont => obtain ⟨σ', H', J', q⟩ := done; exact ⟨σ', H', J'.ofTry ok, q⟩
    | ret u => obtain ⟨v, σ', H', J', r, q⟩ := done; exact ⟨v, σ', H', J'.ofTry ok, r, q⟩
/-! ### the fields of an error that is held -/
/-- the error at a is one of the class at C, its dict at d -/
structure ErrAt (X : Cx) (a C d : Addr) : Prop where
  pin : ∃ oe, (a, oe) ∈ X.pn ∧ L2N.Zn (.ref C) (some d) oe ∧ ∃ vs, oe.data = .fields vs
/-- e.n, e the error at a -/
def tXfA (K : PySem.W.Frag) (a C d : Addr) (n : Str) (te : TE) : TE := fun σ H Q => te σ H fun x H1 => x = .ref a ∧ XcC K C ∧ PySem.W.findIn K (.ref C) n = some none ∧ ∃ (fs : List (Str × V)) (v : V), H1 d = some (.xd fs) ∧ fs.lookup n = some v ∧ Q v H1
theorem pe_xfA {X : Cx} {a C d : Addr} {e : Expr} {te : TE} {pos : Pos} {n : Str} (R : ErrAt X a C d) (he : PE X e te) (hb : attributeBase e n X.env (eval e X.env) = eval e X.env := by rfl) : PE X (.Attribute e n pos) (tXfA X.K a C d n te) := by
  refine ⟨fun pins s σ H Q I h => attr_of hb (thn (he.run pins s σ H _ I h) fun u s1 hh => ?_)⟩
  obtain ⟨x, H1, I1, rx, ex, T, no, fs, v, ea, l, q⟩ := hh
  subst ex
  obtain rfl : u = Value.ref a := rx
  obtain ⟨oe, hp, hz, vs, hd⟩ := R.pin
  obtain ⟨hg, _⟩ := I1.pin (a, oe) (List.mem_append_left _ hp)
  obtain ⟨mA, hns, hr⟩ := (show ObjOk X.prog X.w H1 s1.heap d (.xd fs) from I1.hok d _ ea)
  obtain ⟨od, ho, hl⟩ := lookIn_ns hns
  obtain ⟨u, hu, ru⟩ := RelO.some_of (v := v) (o := mA n) (by rw [← l]; exact hr n)
  have J : PySem.W.InstAt s1.heap a oe C (some od) := ⟨hg, hz.1, by unfold PySem.W.notCls; rw [hd] <;> rfl, by rw [hz.2.1]; exact ho⟩
  exact HandSPX.exc_get I1.kIn J T.ga T.gg T.sub (PySem.W.findObj_own T.hd no rfl (by rw [hl, hu])) (handed_of ru) ⟨v, H1, I1.tok _, ru, q⟩
/-! ### a def that gets the error, called in the clause -/
structure FnE (P : Program) (w : World) (K : PySem.W.Frag) (mg : Str → Option Value) (base : Heap) (k : Nat) (f : Addr) (fd : FuncData) (ps : List Str) (sp : Addr → Addr → Sp) : Prop where
  len : ∀ C d vs H Q E, sp C d vs H Q E → vs.length = ps.length
  run : ∀ (A : Around) (outer : List Env) (s : Shared) (H : Hp) (args : Args) (us : List Value) (vs : List V) (Q : VK) (p : Addr × Obj) (C d : Addr), L2H.RoomH k A → L2H.Hot1 A p → L2H.PinOk outer H s p → L2N.Zn (.ref C) (some d) p.2 → (∃ ws, p.2.data = .fields ws) → (∃ r, vs = .ref p.1 :: r) → XcC K C → Env0 P w K mg base A outer s H → BindsTo s fd args (ps.zip us) → Vals vs us → sp C d vs H Q E0 →
    codeAny (model P w) A (.call (.ref f) args) (CR CX0 outer P w H s Q E0) s
theorem Fun.okE {P : Program} {w : World} {K : PySem.W.Frag} {mg : Str → Option Value} {base : Heap} {x qual : Str} {st : Stmt} {f : Addr} {fd : FuncData} {N ps : List Str} {k : Nat} {sp : Addr → Addr → Sp} (F : Fun K x qual st f fd) (S : FnScope N ps (defScope st)) (len : ∀ C d vs H Q E, sp C d vs H Q E → vs.length = ps.length)
    (body : ∀ (cdv : Value) (A : Around) (outer : List Env) (s : Shared) (H : Hp) (vs : List V) (Q : VK) (p : Addr × Obj) (C d : Addr), L2H.RoomH k (A.deeper (envOfC qual (defScope st) s.heap.objs.size f cdv)) → ErrAt (L2H.cxH CX0 P w K mg base N qual (defScope st) f cdv A outer s H E0 p) p.1 C d → (∃ r, vs = .ref p.1 :: r) → XcC K C → sp C d vs H Q E0 →
      ∃ t, PSs (L2H.cxH CX0 P w K mg base N qual (defScope st) f cdv A outer s H E0 p) (defBody st) t ∧ t { nx := fun _ H' => Q .non H', rt := Q } (start N vs) H) : FnE P w K mg base (k + 1) f fd ps sp := by
  obtain ⟨oc, od, kV, doc, pm, an, cdv, ct, osl, rfl, lk, hcd⟩ := F.ex
  refine ⟨len, fun A outer s H args us vs Q p C d hr hot hpin hz hw hv xc e0 hb r hsp => ?_⟩
  have hl := len _ _ _ _ _ _ hsp
  have kin : K.In s.heap := e0.mod.kin.keeps fun b o e => (e0.bs b o e).1
  have lim : s.heap.NoLimit := e0.mod.nolimit.keeps fun b o e => (e0.bs b o e).1
  have kinds : ∀ y ∈ ps.zip us, (defScope st).names.lookup y.1 = some .local ∨ ((defScope st).names.lookup y.1 = some .cell ∧ ((cellsFrom (s.heap.objs.size + 1) (defScope st).names []).lookup y.1).isSome = true) := fun ⟨n, v⟩ hy => by
    rcases S.par n (List.of_mem_zip hy).1 with q | q
    · exact .inl q
    · exact .inr ⟨q, PySem.W.cellsFrom_some _ _ _ (.inl q)⟩
  refine codeAny_call_function hr.depth (kin _ _ lk) rfl S.co S.gen rfl (PySem.W.codeRec_of kin hcd) (hb _ _ _ _ (wpAny_newFunctionEnv_cells S.kind kinds fun env he s1 x => ?_))
  subst he
  refine ⟨lim.keeps x.toInCall.keep, codeAny_func ?_⟩
  obtain ⟨t, ht, hq⟩ := body cdv A outer s H vs Q p C d (hr.deeper _) ⟨⟨p.2, List.mem_singleton.mpr rfl, hz, hw⟩⟩ hv xc hsp
  have I : Inv (L2H.cxH CX0 P w K mg base N qual (defScope st) f cdv A outer s H E0 p) [] (L2.start N vs) H s1 := L2H.inv_startH S hpin e0 hl r x
  refine wpAny_mono (ht.run [] s1 (L2.start N vs) H _ I hq) (fun fl s' hs => ?_) fun e s' hs => hs
  cases fl with
  | ret u => obtain ⟨v, σ', H', J, rv, q⟩ := hs; exact ⟨v, H', J.os, J.bare, J.base, J.hok, rv, q⟩
  | next => obtain ⟨σ', H', J, q⟩ := hs; exact ⟨V.non, H', J.os, J.bare, J.base, J.hok, rfl, q⟩
  | brk => obtain ⟨_, _, _, q⟩ := hs; exact False.elim q
  | cont => obtain ⟨_, _, _, q⟩ := hs; exact False.elim q
/-- f(e) in the clause, e the error at a -/
def tErr (K : PySem.W.Frag) (C : Addr) (sp : Sp) (a : Addr) (t : TA) : TE := fun σ H Q => t σ H fun vs H1 => XcC K C ∧ (∃ r, vs = .ref a :: r) ∧ sp vs H1 Q E0
theorem pe_callE {X : Cx} {k : Nat} {f a C d : Addr} {fd : FuncData} {ps : List Str} {sp : Addr → Addr → Sp} {x : Str} {q pos : Pos} {e : Expr} {es : List Expr} {t : TA} (F : FnE X.prog X.w X.K X.mg X.base k f fd ps sp) (hr : L2H.RoomH k X.A) (R : ErrAt X a C d) (hot : X.A.handled = some (.ref a))
    (hg : Gl X x) (hm : X.mg x = some (.ref f)) (hk : PySem.W.keepIn X.K (.ref f) = true) (hb : Binds X.K fd ps []) (ha : PA X (e :: es) t) (hdb : (x == ("__debug__" : Str)) = false := by decide) (he : starEach (e :: es) X.env = (false, eval e X.env) :: starEach es X.env := by rfl) (hpl : (backTo pos (starEach es X.env)).any (·.1) = false := by rfl) :
    PE X (.Call (.Name x q) (e :: es) [] pos) (tErr X.K C (sp C d) a t) := by
  refine ⟨fun pins s σ H Q I h => wpAny_Call_Name_kw (ld_glob I hg hm (PySem.W.callWith_K (h₀ := X.base) I.ok.mod.kin hk (thn (ha.run pos pins s σ H _ I h) fun us s1 ⟨vs, H1, I1, r, T, hv, q⟩ => ⟨I1.kIn, ?_⟩) he hpl) hdb)⟩
  obtain ⟨oe, hp, hz, ws, hd⟩ := R.pin
  have hl : us.length = ps.length := by rw [← r.length]; exact F.len _ _ _ _ _ _ q
  have b := hb s1 us I1.kIn (by rw [List.append_nil]; exact hl)
  rw [List.append_nil] at b
  obtain ⟨p1, p2, p3, p4, p5⟩ := I1.pin (a, oe) (List.mem_append_left _ hp)
  have hpin : L2H.PinOk X.stack H1 s1 (a, oe) := ⟨p1, p2, fun hm => (List.mem_cons.mp (I1.stkSub a hm)).elim p3 p4, p5⟩
  refine wpAny_call (codeAny_mono (F.run X.A X.stack s1 H1 ⟨us, []⟩ us vs Q (a, oe) C d hr ⟨hot, ws, hd, hz.2.2 ws hd⟩ hpin hz ⟨ws, hd⟩ hv T I1.env0 b r q) fun r s' hq => ?_)
  cases r with
  | error e => exact (show False from hq).elim
  | ok fl =>
    cases fl with
    | ret u => exact I1.after hq
    | next => exact False.elim hq
    | brk => exact False.elim hq
    | cont => exact False.elim hq
end Hr

set_option Elab.async false
set_option linter.all false
set_option maxRecDepth 100000
set_option maxHeartbeats 4000000
/-! lambdas without parameters that are handed on and called further down -/
namespace Hr
open PySem PySem.Spec PyProof.Rows L2 LamX
/-- the lambda's object stands at f as it was laid, and what stood when it was laid (H0, h0) is kept; fr: the frames of its maker and of those below -/
structure Lam (fr : List Addr) (h0 : Heap) (H0 : Hp) (f : Addr) (ob : Obj) (h : Heap) (H : Hp) : Prop where
  obj : h.get? f = some ob
  fre : H f = none
  un : Un fr [] H0 H h0 h
theorem Lam.on {fr fs : List Addr} {h0 h h' : Heap} {H0 H H' : Hp} {f : Addr} {ob : Obj} (g : Lam fr h0 H0 f ob h H) (u : Un fs [] H H' h h') (h1 : ∀ b ∈ fs, b ∈ fr ∨ h0.get? b = none) (nf : f ∉ fs) : Lam fr h0 H0 f ob h' H' := by
  have out : ∀ {b o}, h0.get? b = some o → b ∉ fr → b ∉ fs := fun {b o} e n z => (h1 b z).elim n fun q => by rw [e] at q; cases q
  refine ⟨u.keep f ob g.obj g.fre nf (by simp), u.free f ob g.obj g.fre (by simp), ⟨fun b o e n hb _ => ?_, fun b o e n hb _ => ?_, fun b o e n _ => ?_, fun b o e _ => ?_, fun b xs e => u.tups b xs (g.un.tups b xs e), fun b o v e => u.frzs b o v (g.un.frzs b o v e), fun b ps e => ?_⟩⟩
  · exact u.keep b o (g.un.keep b o e n hb (by simp)) (g.un.free b o e n (by simp)) (out e hb) (by simp)
  · obtain ⟨sl, e1⟩ := g.un.slot b o e n hb (by simp)
    obtain ⟨sl2, e2⟩ := u.any e1 (g.un.free b o e n (by simp)) (by simp)
    exact ⟨sl2, e2⟩
  · obtain ⟨o', e1⟩ := g.un.there b o e (by simp)
    exact u.free b o' e1 (g.un.free b o e n (by simp)) (by simp)
  · obtain ⟨o', e1⟩ := g.un.there b o e (by simp)
    exact u.there b o' e1 (by simp)
  · obtain ⟨m1, e1⟩ := g.un.tbls b ps e
    obtain ⟨m2, e2⟩ := u.tbls b _ e1
    exact ⟨m1 ++ m2, by rw [e2, Array.append_assoc]⟩
/-- what a call of the lambda at f promises; tl E H Q: its body's reading -/
structure IsThunk (P : Program) (w : World) (K : PySem.W.Frag) (mg : Str → Option Value) (base : Heap) (j : Nat) (fr : List Addr) (h0 : Heap) (H0 : Hp) (f c' : Addr) (ob : Obj) (q : Str) (tl : XK → Hp → VK → Prop) : Prop where
  fn : ∀ h : Heap, h.get? f = some ob → PySem.W.FnAt f h
  call : ∀ (A : Around) (outer : List Env) (s : Shared) (H : Hp) (Q : VK) (E : XK), Lam fr h0 H0 f ob s.heap H → Room j A → Env0 P w K mg base A outer s H → H c' = some (CodeO c' q) → tl E H Q → codeAny (model P w) A (.call (.ref f) ⟨[], []⟩) (CR (L2N.CX P w) outer P w H s Q E) s
/-- the context of a def that has the lambda -/
structure Ent (fr : List Addr) (h0 : Heap) (H0 : Hp) (f : Addr) (ob : Obj) (Z : Cx) : Prop where
  lam : Lam fr h0 H0 f ob Z.s_0.heap Z.H_0
  fs : ∀ b ∈ Z.fs, b ∈ fr ∨ h0.get? b = none
  nf : f ∉ Z.fs
  ex : Z.ex = []
theorem Ent.at {fr : List Addr} {h0 : Heap} {H0 H : Hp} {f : Addr} {ob : Obj} {Z : Cx} {h : Heap} (en : Ent fr h0 H0 f ob Z) (u : Un Z.fs Z.ex Z.H_0 H Z.s_0.heap h) : Lam fr h0 H0 f ob h H := by
  rw [en.ex] at u
  exact en.lam.on u en.fs en.nf
section
variable {Z : Cx} {j k i : Nat} {fr : List Addr} {h0 : Heap} {H0 : Hp} {f c' g : Addr} {ob : Obj} {q a x : Str} {tl : XK → Hp → VK → Prop} {W : WX} {pn : List (Addr × Obj)} {xe : Value → Shared → Prop} {p p1 p2 pos : Pos}
def tThk (f c' : Addr) (q : Str) (i : Nat) (tl : XK → Hp → VK → Prop) (W : WX) : TE := fun σ H Q => σ[i]? = some (some (.ref f)) ∧ H c' = some (CodeO c' q) ∧ ∃ E : XK, (∀ cls d H', E cls d H' → W cls d σ H') ∧ tl E H Q
/-- a(), a the lambda -/
theorem pe_thunk (th : IsThunk Z.prog Z.w Z.K Z.mg Z.base j fr h0 H0 f c' ob q tl) (en : Ent fr h0 H0 f ob Z) (hr : Room j Z.A) (tk : L2N.Takes (Z.tr pn xe) W) (hN : Z.N[i]? = some a) (hv : Vis Z.env.scope a) (hd : (a == ("__debug__" : Str)) = false := by decide) (hcd : (a == ("__classdict__" : Str)) = false := by decide) :
    PE (Z.tr pn xe) (.Call (.Name a p1) [] [] p2) (tThk f c' q i tl W) := by
  refine ⟨fun pinsZ sZ σZ HZ Q IZ h => ?_⟩
  obtain ⟨hs, hc, E, hW, ht⟩ := h
  refine wpAny_Call_Name_kw (thn ((pe_var (X := Z.tr pn xe) (pos := p1) (i := i) hN hv hd hcd).run pinsZ sZ σZ HZ (fun v H1 => v = .ref f ∧ H1 = HZ) IZ ⟨.ref f, hs, rfl, rfl⟩) fun u s1 ⟨v, H1, I1, r1, ev, eH⟩ => ?_)
  subst ev
  rw [eH] at I1
  obtain rfl : u = Value.ref f := r1
  have lm := en.at I1.base
  refine PySem.W.callWith_F0 (th.fn _ lm.obj) (wpAny_call (codeAny_mono (th.call Z.A Z.stack s1 HZ Q E lm hr I1.env0 hc ht) fun r s' hq => ?_))
  cases r with
  | error e => exact tk e s' (L2N.XE.of_call I1 (fun cls d H' h => hW cls d H' h) hq)
  | ok fl =>
    cases fl with
    | ret u => exact I1.after hq
    | next => exact False.elim hq
    | brk => exact False.elim hq
    | cont => exact False.elim hq
end
/-- a def that is handed the lambda; TT: what it makes of the lambda's reading -/
structure FnT (P : Program) (w : World) (K : PySem.W.Frag) (mg : Str → Option Value) (base : Heap) (k j : Nat) (g : Addr) (TT : (XK → Hp → VK → Prop) → Hp → VK → Prop) : Prop where
  run : ∀ {fr : List Addr} {h0 : Heap} {H0 : Hp} {f c' : Addr} {ob : Obj} {q : Str} {tl : XK → Hp → VK → Prop}, IsThunk P w K mg base j fr h0 H0 f c' ob q tl → ∀ (A : Around) (outer : List Env) (s : Shared) (H : Hp) (Q : VK), Room k A → Env0 P w K mg base A outer s H → Lam fr h0 H0 f ob s.heap H → (∀ b ∈ frs outer, b ∈ fr ∨ h0.get? b = none) → f ∉ frs outer → H c' = some (CodeO c' q) → TT tl H Q →
    codeAny (model P w) A (.call (.ref g) ⟨[.ref f], []⟩) (CR CX0 outer P w H s Q E0) s
theorem Fun.okT {P : Program} {w : World} {K : PySem.W.Frag} {mg : Str → Option Value} {base : Heap} {x qual a : Str} {st : Stmt} {g : Addr} {fd : FuncData} {N : List Str} {k j : Nat} {TT : (XK → Hp → VK → Prop) → Hp → VK → Prop} (F : Fun K x qual st g fd) (S : FnScope N [a] (defScope st)) (hb : Binds K fd [a] [])
    (body : ∀ (cdv : Value) (A : Around) (outer : List Env) (s : Shared) (H : Hp) (Q : VK) {fr : List Addr} {h0 : Heap} {H0 : Hp} {f c' : Addr} {ob : Obj} {q : Str} {tl : XK → Hp → VK → Prop}, IsThunk P w K mg base j fr h0 H0 f c' ob q tl → Room k (A.deeper (envOfC qual (defScope st) s.heap.objs.size g cdv)) → Ent fr h0 H0 f ob (cxOf CX0 P w K mg base N qual (defScope st) g cdv A outer s H E0).nox → H c' = some (CodeO c' q) → TT tl H Q →
      ∃ t, PSs (cxOf CX0 P w K mg base N qual (defScope st) g cdv A outer s H E0).nox (defBody st) t ∧ t { nx := fun _ H' => Q .non H', rt := Q } (start N [.ref f]) H) : FnT P w K mg base (k + 1) j g TT := by
  obtain ⟨oc, od, kV, doc, pm, an, cdv, ct, osl, rfl, lk, hcd⟩ := F.ex
  refine ⟨fun {fr h0 H0 f c' ob q tl} th A outer s H Q hr e0 lm h1 nf hc ht => ?_⟩
  have kin : K.In s.heap := e0.mod.kin.keeps fun b o e => (e0.bs b o e).1
  have bd := hb s [.ref f] kin rfl
  refine run_ofS (us := [.ref f]) (vs := [.ref f]) lk hcd S hr e0 bd (.cons rfl .nil) rfl fun hr' => ?_
  obtain ⟨t, h, hq⟩ := body cdv A outer s H Q th hr' ⟨lm, h1, nf, rfl⟩ hc ht
  exact ⟨t, h.nox, hq⟩
section
variable {Z : Cx} {j k i : Nat} {fr : List Addr} {h0 : Heap} {H0 : Hp} {f c' g : Addr} {ob : Obj} {q a x : Str} {tl : XK → Hp → VK → Prop} {p p1 p2 pos : Pos} {TT : (XK → Hp → VK → Prop) → Hp → VK → Prop}
def tPass (f c' : Addr) (q : Str) (i : Nat) (tl : XK → Hp → VK → Prop) (TT : (XK → Hp → VK → Prop) → Hp → VK → Prop) : TE := fun σ H Q => σ[i]? = some (some (.ref f)) ∧ H c' = some (CodeO c' q) ∧ TT tl H Q
/-- x(a), a the lambda: it is handed on -/
theorem pe_pass (G : FnT Z.prog Z.w Z.K Z.mg Z.base k j g TT) (th : IsThunk Z.prog Z.w Z.K Z.mg Z.base j fr h0 H0 f c' ob q tl) (en : Ent fr h0 H0 f ob Z) (hs : Z.stack = Z.env :: Z.outer) (hf : Z.env.frame = some Z.env.locals) (hr : Room k Z.A) (hg : Gl Z x) (hm : Z.mg x = some (.ref g)) (hk : PySem.W.keepIn Z.K (.ref g) = true)
    (hN : Z.N[i]? = some a) (hv : Vis Z.env.scope a) (hd : (a == ("__debug__" : Str)) = false := by decide) (hcd : (a == ("__classdict__" : Str)) = false := by decide) (hdb : (x == ("__debug__" : Str)) = false := by decide)
    (he : starEach [.Name a p1] Z.env = (false, eval (.Name a p1) Z.env) :: starEach [] Z.env := by rfl) (hpl : (backTo pos (starEach [] Z.env)).any (·.1) = false := by rfl) :
    PE Z (.Call (.Name x p) [.Name a p1] [] pos) (tPass f c' q i tl TT) := by
  refine ⟨fun pinsZ sZ σZ HZ Q IZ h => ?_⟩
  obtain ⟨hsl, hc, ht⟩ := h
  have ha : PA Z [.Name a p1] (tCons (tVar i) tNil) := pa_cons (pe_var hN hv hd hcd) pa_nil
  refine wpAny_Call_Name_kw (ld_glob IZ hg hm (PySem.W.callWith_K (h₀ := Z.base) IZ.ok.mod.kin hk (thn (ha.run pos pinsZ sZ σZ HZ (fun vs H1 => vs = [V.ref f] ∧ H1 = HZ) IZ ⟨.ref f, hsl, rfl, rfl⟩) fun us s1 ⟨vs, H1, I1, r1, ev, eH⟩ => ⟨I1.kIn, ?_⟩) he hpl) hdb)
  subst ev
  rw [eH] at I1
  rw [Vals.ref1 r1]
  have lm := en.at I1.base
  have there : ∀ {b o}, h0.get? b = some o → b < Z.s_0.heap.objs.size := fun {b o} e => by
    obtain ⟨o', e1⟩ := en.lam.un.there b o e (by simp)
    exact Heap.lt_size e1
  have ab := I1.ok.above
  have mem : ∀ b ∈ frs Z.stack, b = Z.env.locals ∨ b ∈ Z.fs := fun b hb => by
    rw [hs] at hb
    unfold frs at hb
    rw [List.filterMap_cons, hf] at hb
    exact List.mem_cons.mp hb
  have h1 : ∀ b ∈ frs Z.stack, b ∈ fr ∨ h0.get? b = none := fun b hb => by
    rcases mem b hb with rfl | hb
    · right
      cases e : h0.get? Z.env.locals with
      | none => rfl
      | some o => exact absurd (there e) (Nat.not_lt.mpr ab)
    · exact en.fs b hb
  have nf : f ∉ frs Z.stack := fun z => by
    rcases mem f z with e | hb
    · have := Heap.lt_size en.lam.obj
      rw [e] at this
      exact absurd this (Nat.not_lt.mpr ab)
    · exact en.nf hb
  show wpAny _ _ (call (.ref g) [.ref f]) _ _ _
  refine wpAny_call (codeAny_mono (G.run th Z.A Z.stack s1 HZ Q hr I1.env0 lm h1 nf hc ht) fun r s' hq => ?_)
  cases r with
  | error e => exact (show False from hq).elim
  | ok fl =>
    cases fl with
    | ret u => exact I1.after hq
    | next => exact False.elim hq
    | brk => exact False.elim hq
    | cont => exact False.elim hq
end
/-! ### the lambda's own body -/
/-- the context of the body -/
def lamX (X : Cx) (A : Around) (outer : List Env) (s : Shared) (H : Hp) (E : XK) (scope : Scope) (f c' : Addr) : Cx :=
  (lamCx X A outer s H E scope f c').tr [] fun e s' => wpAny (model X.prog X.w) (A.deeper (lamEnv X scope s.heap.objs.size f c')) (leaving (lamEnv X scope s.heap.objs.size f c') e) (fun _ s'' => L2N.CX X.prog X.w outer H s E e s'') (fun e' s'' => L2N.CX X.prog X.w outer H s E e' s'') s'
theorem lamX_takes {X : Cx} {A : Around} {outer : List Env} {s : Shared} {H : Hp} {E : XK} {scope : Scope} {f c' : Addr} : L2N.Takes (lamX X A outer s H E scope f c') (fun cls d _ H' => E cls d H') := L2N.takes_of rfl rfl rfl rfl
section
variable {X : Cx} {pins : List (Addr × Obj)} {σ : L2.St} {H0 : Hp} {s0 : Shared}
theorem lam_thunk {k : Nat} {f c' : Addr} {pm ctv : Value} {params : Arguments} {body : Expr} {scope : Scope} {t : XK → TE} (I : Inv X pins σ H0 s0) (L : LamS X.env.scope scope)
    (hbind : bindArgs (PySem.W.kla_fn "<lambda>" (X.env.qual ++ "<lambda>") params body scope (cloFrom X.env.cells scope.names []) pm (.ref c') ctv) ⟨[], []⟩ = pure [])
    (hbody : ∀ (A : Around) (outer : List Env) (s : Shared) (H : Hp) (E : XK), Room k (A.deeper (lamEnv X scope s.heap.objs.size f c')) → PE (lamX X A outer s H E scope f c') body (t E)) :
    IsThunk X.prog X.w X.K X.mg X.base (k + 1) (frs X.stack) s0.heap H0 f c' (PySem.W.kla_obj "<lambda>" (X.env.qual ++ "<lambda>") params body scope (cloFrom X.env.cells scope.names []) pm c' ctv) (X.env.qual ++ "<lambda>") (fun E H Q => t E σ H Q) := by
  refine ⟨fun h e => ⟨_, _, _, _, e⟩, fun A outer s H Q E lm hr e0 hc ht => ?_⟩
  obtain ⟨⟨oc, vs, tk, hoc, hdc, hvc⟩, _, _⟩ := e0.hok c' _ hc
  have lim : s.heap.NoLimit := e0.mod.nolimit.keeps fun b o e => (e0.bs b o e).1
  refine PySem.W.kla_callFunE hr.depth lm.obj rfl L.co L.gen rfl ⟨c', oc, vs, tk, rfl, hoc, hdc, hvc⟩ ?_
  rw [hbind]
  refine wpAny_pure (wpAny_newFunctionEnv (fun y hy => (L.own y hy).2) (fun y hy => absurd hy (by simp)) (fun h₁ hns hsb => ⟨lim.fresh _ hsb, ?_⟩) L.kind)
  show codeAny _ _ (.expr body (lamEnv X scope s.heap.objs.size f c')) _ _
  have kp : ∀ b o, s.heap.get? b = some o → h₁.get? b = some o := fun b o e => hsb.extBut b o (Nat.ne_of_lt (Heap.lt_size e)) (Heap.get?_push_of_some _ e)
  have J := (lam_start2 (E := E) (f := f) (c' := c') (tk := s.toks + ([] : List (Str × Value)).length) I L e0 hr.hd lm.un hns kp).toTry (fun e s' => wpAny (model X.prog X.w) (A.deeper (lamEnv X scope s.heap.objs.size f c')) (leaving (lamEnv X scope s.heap.objs.size f c') e) (fun _ s'' => L2N.CX X.prog X.w outer H s E e s'') (fun e' s'' => L2N.CX X.prog X.w outer H s E e' s'') s')
  refine PySem.W.kla_codeExpr (wpAny_mono ((hbody A outer s H E (hr.deeper _)).run [] _ _ H Q J ht) (fun v s' hq => ?_) fun e s' hq => hq)
  obtain ⟨w', H', J', rv, qq⟩ := hq
  exact ⟨w', H', J'.os, J'.bare, J'.base, J'.hok, rv, qq⟩
/-- x(lambda: body) -/
theorem pe_lamT {T : List (Addr × Str)} {TT : (XK → Hp → VK → Prop) → Hp → VK → Prop} {x : Str} {g c P : Addr} {k m : Nat} {params : Arguments} {body : Expr} {scope : Scope} {t : XK → TE} {p lpos pos : Pos} (G : FnT X.prog X.w X.K X.mg X.base m (k + 1) g TT) (hg : Gl X x) (hm : X.mg x = some (.ref g)) (hk : PySem.W.keepIn X.K (.ref g) = true)
    (TB : TabB X.base X.mg c P) (hcode : X.env.code = .ref c) (hmT : (P, X.env.qual ++ "<lambda>") ∈ T) (hu : ∀ p ∈ T, p.1 = P → p.2 = X.env.qual ++ "<lambda>") (hr : Room m X.A) (L : LamS X.env.scope scope) (hdef : defaultsOf params X.env = ([], []))
    (hbind : ∀ (q : Str) (cl : List (Str × Addr)) (pm cv ctv : Value), bindArgs (PySem.W.kla_fn "<lambda>" q params body scope cl pm cv ctv) ⟨[], []⟩ = pure [])
    (hbody : ∀ (A : Around) (outer : List Env) (s : Shared) (H : Hp) (E : XK) (f c' : Addr), Room k (A.deeper (lamEnv X scope s.heap.objs.size f c')) → PE (lamX X A outer s H E scope f c') body (t E))
    (hdb : (x == ("__debug__" : Str)) = false := by decide) : PE X (.Call (.Name x p) [.Lambda params body scope lpos] [] pos) (tLam T TT t) := by
  refine ⟨fun pins s σ H Q I h => ?_⟩
  obtain ⟨hT, h⟩ := h
  refine wpAny_Call_Name_kw (ld_glob I hg hm (PySem.W.callWith_K (h₀ := X.base) I.ok.mod.kin hk ?_ (by rfl) (by rfl)) hdb)
  show wpAny _ _ (spliced ((false, eval (.Lambda params body scope lpos) X.env) :: backTo pos (starEach [] X.env))) _ _ s
  refine Calls.spliced_cons (lam_make2 I TB hcode hmT hu hT hdef (L.has I.ok) fun f c' pm' ctv H1 s' I1 eN T1 hf hfn hfr hco => Calls.spliced_nil ⟨I1.kIn, ?_⟩)
  have th := lam_thunk (t := t) (pm := pm') (ctv := ctv) I1 L (hbind _ _ _ _ _) fun A outer s H E hr2 => hbody A outer s H E f c' hr2
  refine wpAny_call (codeAny_mono (G.run th X.A X.stack s' H1 Q hr I1.env0 ⟨hf, hfn, Un.refl⟩ (fun b hb => .inl hb) hfr hco (h H1 eN T1)) fun r s2 hq => ?_)
  cases r with
  | error e => exact (show False from hq).elim
  | ok fl =>
    cases fl with
    | ret u => exact I1.after hq
    | next => exact False.elim hq
    | brk => exact False.elim hq
    | cont => exact False.elim hq
end
/-! ### what a new lambda leaves as it was -/
theorem ext_sq {K : PySem.W.Frag} {H H' : Hp} {a : Addr} {xs : List V} (e : ExtN H H') (h : SqL K H a xs) : SqL K H' a xs := by
  rcases h with (h | ⟨o, h⟩) | h
  · exact .inl (.inl (e _ _ h fun _ z => by cases z))
  · exact .inl (.inr ⟨o, e _ _ h fun _ z => by cases z⟩)
  · exact .inr h
theorem ext_sqT {K : PySem.W.Frag} {H H' : Hp} {a : Addr} {xs : List V} (e : ExtN H H') (h : SqT K H a xs) : SqT K H' a xs := by
  rcases h with (h | ⟨o, h⟩) | h
  · exact .inl (.inl (e _ _ h fun _ z => by cases z))
  · exact .inl (.inr ⟨o, e _ _ h fun _ z => by cases z⟩)
  · exact .inr h
mutual
theorem dp_ext {K : PySem.W.Frag} {H H' : Hp} (e : ExtN H H') : ∀ {v : V} {d : PyData}, Dp K H v d → Dp K H' v d
  | _, _, .non => .non
  | _, _, .bl b => .bl b
  | _, _, .int i => .int i
  | _, _, .str x => .str x
  | _, _, .lst h t => .lst (ext_sq e h) (dpa_ext e t)
  | _, _, .tup h t => .tup (ext_sqT e h) (dpa_ext e t)
theorem dpa_ext {K : PySem.W.Frag} {H H' : Hp} (e : ExtN H H') : ∀ {vs : List V} {ds : List PyData}, DpAll K H vs ds → DpAll K H' vs ds
  | _, _, .nil => .nil
  | _, _, .cons h t => .cons (dp_ext e h) (dpa_ext e t)
end
theorem ext_dl {H H' : Hp} {S : List Addr} (e : ExtN H H') : ExtN (dl H S) (dl H' S) := fun a o h n => by
  obtain ⟨h1, h2⟩ := dl_some h
  rw [dl_ne h1]
  exact e a o h2 n
end Hr

set_option Elab.async false
set_option linter.all false
set_option maxRecDepth 100000
set_option maxHeartbeats 4000000
/-! a, b = x, y while an error is handled; suites for errors of known classes -/
namespace Hr
open PySem PySem.Spec PyProof.Rows L2 HotX
section
variable {prog : Program} {w : World} {A : Around} {E : Value → Shared → Prop} {s : Shared}
theorem next_tup_end_hot {it t x1 : Addr} {i : Nat} {items : Array Value} {Q : Option Value → Shared → Prop} (hot : HotAt A x1 s.heap) (nx : x1 ≠ it) (hit : IsTupIter s.heap it t i) (ht : IsTup s.heap t items) (hx : items[i]? = none)
    (hQ : ∀ h', Heap.ExtBut it s.heap h' → Q none { s with heap := h' }) : wpAny (model prog w) A (pyNext (.ref it)) Q E s := by
  obtain ⟨hh, o1, vs1, h1, d1, c1⟩ := hot
  obtain ⟨o, ho, hc, hd⟩ := id hit
  obtain ⟨ol, hol, _, nl, hdl⟩ := ht
  unfold pyNext
  refine wpAny_bind (wpAny_attempt (wpAny_callSpecial?_slot (name := Str.ofString "__next__") hit.typeIs slot_tupleiter_next (wpAny_call_entry slot_tupleiter_next hit.typeIs entry_tupleiter_next ?_ (args_tupleiter_next _))))
  show wpAny _ _ (field (.ref it) 0 >>= _) _ _ s
  refine wpAny_bind (wpAny_field ho hd (x := .ref t) rfl ?_)
  show wpAny _ _ (if (Value.ref t == Value.none) = true then _ else _) _ _ s
  rw [if_neg (show ¬ ((Value.ref t == Value.none) = true) from Bool.false_ne_true)]
  show wpAny _ _ (field (.ref it) 1 >>= _) _ _ s
  refine wpAny_bind (wpAny_field ho hd (x := .int i 0) rfl ?_)
  show wpAny _ _ (seqItems? (.ref t) >>= _) _ _ s
  refine wpAny_bind (wpAny_seqItems hol hdl ?_)
  simp only [Int.toNat_natCast, hx]
  refine wpAny_bind (wpAny_rule (wpAny_bind (wpAny_setField ho hd (by simp) ?_)))
  show wpAny _ _ (newExc (.type "StopIteration") [] >>= _) _ _ _
  refine wpAny_bind ?_
  simp only [newExc, newTuple]
  refine wpAny_bind (wpAny_newObj_type ?_ (by size_fits))
  refine wpAny_bind (m := firstArgMember _ _) (wpAny_of_eq (a := Value.none) (by first | rfl | (simp only [firstArgMember]; rfl)) ?_)
  refine wpAny_newObj_type ?_ (by size_fits)
  have up : Heap.ExtBut it s.heap (s.heap.update it (Obj.mapFields (·.setIfInBounds 0 Value.none))) := (Heap.SameBut.update ..).extBut
  have g1 := Heap.get?_push_of_some (h := (s.heap.update it (Obj.mapFields (·.setIfInBounds 0 Value.none)))) { cls := .type "tuple", data := .seq ([] : List Value).toArray } (up x1 o1 nx h1)
  refine raiseNew_hot ⟨hh, o1, vs1, Heap.get?_push_of_some _ g1, d1, c1⟩ (Nat.ne_of_lt (Heap.lt_size g1)) (Heap.get?_push_size _ rfl) rfl (by first | (simp; done) | (simp; omega) | (simp only [Array.size_append]; simp; omega)) ?_
  refine wpAny_bind (wpAny_isInstance (T := "StopIteration") (b := true) ⟨_, Heap.get?_update_self _ (Heap.get?_push_size _ rfl) rfl, rfl⟩ isSubtype_stop (wpAny_pure (hQ _ fun b o nb e => ?_)))
  have e1 := Heap.get?_push_of_some (h := (s.heap.update it (Obj.mapFields (·.setIfInBounds 0 Value.none)))) { cls := .type "tuple", data := .seq ([] : List Value).toArray } (up b o nb e)
  rw [Heap.get?_update_other _ _ (Nat.ne_of_gt (Heap.lt_size e1))]
  exact Heap.get?_push_of_some _ e1
theorem unpack_hot {t x1 : Addr} {items : Array Value} {Q : List Value → Shared → Prop} (hot : HotAt A x1 s.heap) (ht : IsTup s.heap t items)
    (hQ : ∀ h', Heap.ExtBut s.heap.objs.size s.heap h' → Q items.toList { s with heap := h' }) : wpAny (model prog w) A (unpackItems (.ref t) items.size none) Q E s := by
  have hlt : t ≠ s.heap.objs.size := by obtain ⟨o, ho, _⟩ := ht; exact Nat.ne_of_lt (Heap.lt_size ho)
  obtain ⟨hh, o1, vs1, h1, d1, c1⟩ := hot
  have hl1 : x1 ≠ s.heap.objs.size := Nat.ne_of_lt (Heap.lt_size h1)
  unfold unpackItems
  refine wpAny_bind ?_
  unfold notIterableAtAll
  refine wpAny_bind (wpAny_specialOf ht.typeIs slot_tuple_iter.lookup (wpAny_pure ?_))
  simp only [Bool.false_eq_true, if_false]
  refine wpAny_bind (wpAny_holding (iter_tuple ht (wpAny_bind (wpAny_holding (draw_tuple hlt items.size 0 _ _ ⟨_, Heap.get?_push_size _ rfl, rfl, rfl⟩ (ht.push _) (by omega) fun h₁ hit₁ hs₁ => ?_)))))
  rw [show List.take items.size (List.drop 0 items.toList) = items.toList by rw [List.drop_zero]; exact List.take_of_length_le (by simp), if_neg (by simp)]
  refine wpAny_bind (wpAny_holding (next_tup_end_hot ⟨hh, o1, vs1, hs₁.extBut x1 o1 hl1 (Heap.get?_push_of_some _ h1), d1, c1⟩ hl1 hit₁ ((ht.push _).extBut hs₁.extBut hlt) (by simp) fun h₂ he₂ => ?_))
  simp only [Option.isSome_none, Bool.false_eq_true, if_false]
  exact wpAny_pure (hQ h₂ fun b o hb e => he₂ b o hb (hs₁.extBut b o hb (Heap.get?_push_of_some _ e)))
end
/-- a, b = x, y in a clause -/
theorem ps_parH {X : Cx} {i j : Nat} {x y : Str} {a b : Expr} {ta : TA} {px py pt pos : Pos} {kt k2 pt2} (hc : L2H.HotC X) (hN : X.N.Nodup) (hi : X.N[i]? = some x) (hj : X.N[j]? = some y) (hij : i ≠ j)
    (hx : X.env.scope.names.lookup x = some .local) (hy : X.env.scope.names.lookup y = some .local) (ha : PA X [a, b] ta)
    (hw : swappedStores [.Tuple [.Name x px, .Name y py] kt pt] (.Tuple [a, b] k2 pt2) X.env = pure (some [x, y]))
    (hs : swapsWithSole [.Tuple [.Name x px, .Name y py] kt pt] (.Tuple [a, b] k2 pt2) pos.line X.env = pure false := by rfl) :
    PS X (.Assign [.Tuple [.Name x px, .Name y py] kt pt] (.Tuple [a, b] k2 pt2) pos) (tPar i j ta) := by
  refine ⟨fun pins s σ H D I h => ?_⟩
  rw [exec_Assign_arm]
  refine wpAny_bind (wpAny_standAt ?_)
  rw [hs]
  refine wpAny_bind (wpAny_pure ?_)
  rw [if_neg (by decide)]
  refine wpAny_bind (Tuple_ (thn (ha.run _ pins s σ H _ I h) fun us s1 ⟨vs, H1, I1, r1, v, w, e1, q1⟩ => wpAny_newObj_type ?_ ?_))
  · subst e1
    cases r1 with
    | @cons _ u1 _ _ rv r2 =>
      cases r2 with
      | @cons _ u2 _ _ rw' r3 =>
        cases r3
        have I2 : Inv X pins σ H1 { s1 with heap := s1.heap.push { cls := .type "tuple", data := .seq [u1, u2].toArray } } := I1.kept (t' := s1.toks) fun b o e => Heap.get?_push_of_some _ e
        rw [hw]
        refine wpAny_bind (wpAny_pure ?_)
        show wpAny (model X.prog X.w) X.A (do rule "assign.swapped-stores"; let items ← unpackItems (.ref s1.heap.objs.size) 2 none; assignInOrder [fun v => bindName X.env y v, fun v => bindName X.env x v] items.reverse; pure Flow.next) _ _ _
        obtain ⟨x1, hot⟩ := hc.at I2
        refine wpAny_bind (wpAny_rule (wpAny_bind (unpack_hot (items := #[u1, u2]) hot (IsTup.new s1.heap _) fun h' hx' => ?_)))
        have I3 := I2.kept (h' := h') (t' := s1.toks) fun b o e => hx' b o (Nat.ne_of_lt (Heap.lt_size e)) e
        show wpAny _ _ (assignInOrder [fun v => bindName X.env y v, fun v => bindName X.env x v] [u2, u1] >>= fun _ => pure Flow.next) _ _ _
        refine wpAny_bind (assignInOrder_cons (wpAny_bindName (store_ok I3 hN hj (.inl hy) rw' (fun s2 I4 => assignInOrder_cons (wpAny_bindName (store_ok I4 hN hi (.inl hx) rv (fun s3 I5 => assignInOrder_nil (wpAny_pure ?_)) (.inr hx)))) (.inr hy))))
        rw [List.set_comm _ _ (Ne.symm hij)] at I5
        exact ⟨_, H1, I5, q1⟩
  · subst e1
    cases r1 with
    | cons rv r2 =>
      cases r2 with
      | cons rw' r3 =>
        cases r3
        show 2 ≤ sizeLine
        decide
/-- a suite for an error of a class of the program -/
def onErr (ts : Addr → Addr → Addr → TS) : Addr → Value → Option Addr → TS := fun a cls d => match cls, d with
  | .ref C, some dd => ts a C dd
  | _, _ => tNever
theorem suite_err {X : Cx} {ss : List Stmt} {ts : Addr → Addr → Addr → TS} (h : ∀ a oe C dd pn, L2N.Zn (.ref C) (some dd) oe → (∃ vs, oe.data = .fields vs) → PSs (X.suite a ((a, oe) :: pn)) ss (ts a C dd)) (a : Addr) (oe : Obj) (cls : Value) (d : Option Addr) (pn : List (Addr × Obj)) (hz : L2N.Zn cls d oe) (hf : ∃ vs, oe.data = .fields vs) :
    PSs (X.suite a ((a, oe) :: pn)) ss (onErr ts a cls d) := by
  unfold onErr
  split
  · exact h a oe _ _ pn hz hf
  · exact pss_never
theorem errAt_suite {X : Cx} {a C d : Addr} {oe : Obj} {pn : List (Addr × Obj)} (hz : L2N.Zn (.ref C) (some d) oe) (hf : ∃ vs, oe.data = .fields vs) : ErrAt (X.suite a ((a, oe) :: pn)) a C d := ⟨⟨oe, List.mem_cons_self, hz, hf⟩⟩
theorem hot_suite {X : Cx} {a C d : Addr} {oe : Obj} {pn : List (Addr × Obj)} (hz : L2N.Zn (.ref C) (some d) oe) (hf : ∃ vs, oe.data = .fields vs) : L2H.HotC (X.suite a ((a, oe) :: pn)) := by
  obtain ⟨vs, e⟩ := hf
  exact ⟨(a, oe), ⟨rfl, vs, e, hz.2.2 vs e⟩, List.mem_cons_self⟩
theorem pe_xfAK {X : Cx} {K : PySem.W.Frag} {a C d : Addr} {e : Expr} {te : TE} {pos : Pos} {n : Str} (R : ErrAt X a C d) (he : PE X e te) (hK : X.K = K := by rfl) (hb : attributeBase e n X.env (eval e X.env) = eval e X.env := by rfl) : PE X (.Attribute e n pos) (tXfA K a C d n te) := by
  subst hK
  exact pe_xfA R he hb
theorem pe_callEK {X : Cx} {K : PySem.W.Frag} {k : Nat} {f a C d : Addr} {fd : FuncData} {ps : List Str} {sp : Addr → Addr → Sp} {x : Str} {q pos : Pos} {e : Expr} {es : List Expr} {t : TA} (F : FnE X.prog X.w X.K X.mg X.base k f fd ps sp) (hr : L2H.RoomH k X.A) (R : ErrAt X a C d) (hot : X.A.handled = some (.ref a))
    (hg : Gl X x) (hm : X.mg x = some (.ref f)) (hk : PySem.W.keepIn X.K (.ref f) = true) (hb : Binds X.K fd ps []) (ha : PA X (e :: es) t) (hK : X.K = K := by rfl) (hdb : (x == ("__debug__" : Str)) = false := by decide) (he : starEach (e :: es) X.env = (false, eval e X.env) :: starEach es X.env := by rfl) (hpl : (backTo pos (starEach es X.env)).any (·.1) = false := by rfl) :
    PE X (.Call (.Name x q) (e :: es) [] pos) (tErr K C (sp C d) a t) := by
  subst hK
  exact pe_callE F hr R hot hg hm hk hb ha hdb he hpl
/-- as Fun.ok, the def's code object known -/
theorem Fun.okC {P : Program} {w : World} {K : PySem.W.Frag} {mg : Str → Option Value} {base : Heap} {x qual : Str} {st : Stmt} {f c : Addr} {fd : FuncData} {N ps : List Str} {k : Nat} {sp : Sp} (F : Fun K x qual st f fd) (hc : fd.code = .ref c) (S : FnScope N ps (defScope st)) (len : ∀ vs H Q E, sp vs H Q E → vs.length = ps.length)
    (body : ∀ (A : Around) (outer : List Env) (s : Shared) (H : Hp) (vs : List V) (Q : VK) (E : XK), Room k (A.deeper (envOfC qual (defScope st) s.heap.objs.size f (.ref c))) → sp vs H Q E →
      ∃ t, PSs (cxOf CX0 P w K mg base N qual (defScope st) f (.ref c) A outer s H E).nox (defBody st) t ∧ t { nx := fun _ H' => Q .non H', rt := Q } (start N vs) H) : FnOk P w K mg base CX0 (k + 1) f fd ps sp := by
  obtain ⟨oc, od, kV, doc, pm, an, cdv, ct, osl, rfl, lk, hcd⟩ := F.ex
  obtain rfl : cdv = .ref c := hc
  refine fn_of lk hcd S len fun A outer s H vs Q E hr hsp => ?_
  obtain ⟨t, h, q⟩ := body A outer s H vs Q E hr hsp
  exact ⟨t, h.nox, q⟩
/-! ### a law that makes lambdas -/
def tabT (PL : Addr) : List (Addr × Str) := [(PL, ("law" : Str) ++ ".<locals>." ++ "<lambda>")]
def sp_lawT (PL : Addr) (K : PySem.W.Frag) : Sp := fun vs H Q _ => ∃ (a : Addr) (ns : List Int), vs = [.ref a] ∧ SqL K H a (ns.map V.int) ∧ ns.length ≤ 63 ∧ LamX.Tabs (tabT PL) H ∧ ∀ H', Q (.bl true) H'
theorem law_at {l : PySem.W.OpenLaw} {w : World} {K : PySem.W.Frag} {k : Nat} {x : Str} {mg : Str → Option Value} {fa cL PL : Addr} {h : Heap} {ts : List Addr} (hT : ∀ P ∈ ts, h.get? P = some (PySem.W.tabObj #[])) (KX : K.In h)
    (F : ∃ fd : FuncData, (∀ (s : Shared) (v : Value), BindsTo s fd ⟨[v], []⟩ [(x, v)]) ∧ ∀ base : Heap, K.In base → base.Ns mainGlobals mg → LamX.TabB base mg cL PL → FnOk l.prog w K mg base CX0 k fa fd [x] (sp_lawT PL K))
    (h1 : PySem.W.codeHdIn K cL PL = true) (h2 : PL ∈ ts) (h3 : K.lookup PL = none) : LamX.LawAtS l w K CX0 k 63 x mg fa h := by
  obtain ⟨fd, hb, hF⟩ := F
  have one : ∀ {p : Addr × Addr}, p ∈ [(cL, PL)] → p = (cL, PL) := fun hp => List.mem_singleton.mp hp
  refine ⟨fd, [(cL, PL)], sp_lawT PL K, fun p hp => ?_, fun p hp => ?_, fun p hp => ?_, hb, fun H a ns hl _ ht hS => ⟨a, ns, rfl, hS, hl, fun p hp => ?_, fun _ => rfl⟩, fun base b1 b2 b3 => hF base b1 b2 (b3 _ (List.mem_singleton.mpr rfl))⟩
  · rw [one hp]
    exact hT PL h2
  · rw [one hp]
    exact h3
  · rw [one hp]
    exact PySem.W.codeHd_of_K KX h1
  · rw [List.mem_singleton.mp hp]
    exact LamX.TabS.nil (ht _ (List.mem_singleton.mpr rfl))
/-- x(lambda: body) in the law -/
theorem pe_lamL {X : Cx} {TT : (XK → Hp → VK → Prop) → Hp → VK → Prop} {x : Str} {g c PL : Addr} {k m : Nat} {params : Arguments} {body : Expr} {scope : Scope} {t : XK → TE} {p lpos pos : Pos} (G : FnT X.prog X.w X.K X.mg X.base m (k + 1) g TT) (hg : Gl X x) (hm : X.mg x = some (.ref g)) (hk : PySem.W.keepIn X.K (.ref g) = true)
    (TB : LamX.TabB X.base X.mg c PL) (hcode : X.env.code = .ref c) (hq : X.env.qual = ("law" : Str) ++ ".<locals>.") (hr : Room m X.A) (L : LamX.LamS X.env.scope scope) (hdef : defaultsOf params X.env = ([], []))
    (hbind : ∀ (q : Str) (cl : List (Str × Addr)) (pm cv ctv : Value), bindArgs (PySem.W.kla_fn "<lambda>" q params body scope cl pm cv ctv) ⟨[], []⟩ = pure [])
    (hbody : ∀ (A : Around) (outer : List Env) (s : Shared) (H : Hp) (E : XK) (f c' : Addr), Room k (A.deeper (LamX.lamEnv X scope s.heap.objs.size f c')) → PE (lamX X A outer s H E scope f c') body (t E))
    (hdb : (x == ("__debug__" : Str)) = false := by decide) : PE X (.Call (.Name x p) [.Lambda params body scope lpos] [] pos) (LamX.tLam (tabT PL) TT t) :=
  pe_lamT G hg hm hk TB hcode (by rw [hq]; exact List.mem_singleton.mpr rfl) (fun p hp _ => by rw [List.mem_singleton.mp hp, hq]) hr L hdef hbind hbody hdb
theorem bag_ext {H H' : Hp} {b l : Addr} (h : Bag H b l) (e : LamX.ExtN H H') : Bag H' b l := by
  obtain ⟨ns, i, g, t, h1, h2, r⟩ := h
  exact ⟨ns, i, g, t, e _ _ h1 (fun _ z => by cases z), e _ _ h2 (fun _ z => by cases z), r⟩
theorem tabs_dl {T : List (Addr × Str)} {H : Hp} {b l : Addr} (t : LamX.Tabs T H) (h : Bag H b l) : LamX.Tabs T (dl H [b]) := fun p hp => by
  obtain ⟨ns, i, g, u, h1, _⟩ := h
  have nb : ∀ {c o}, H c = some o → (∀ xs, o ≠ .lst xs) → c ∉ [b] := fun {c o} e n z => by
    rw [List.mem_singleton.mp z, h1] at e
    exact n _ (Option.some.inj e).symm
  obtain ⟨ps, a1, a2, a3⟩ := t p hp
  refine ⟨ps, by rw [dl_ne (nb a1 fun _ z => by cases z)]; exact a1, a2, fun pos cv hc => ?_⟩
  obtain ⟨c, e1, e2⟩ := a3 pos cv hc
  exact ⟨c, e1, by rw [dl_ne (nb e2 fun xs z => by unfold LamX.CodeO at z; cases z)]; exact e2⟩
theorem fz_ext {H H' : Hp} {xs : List V} {fs : List Fld} (h : FrzAll H xs fs) (e : LamX.ExtN H H') : FrzAll H' xs fs := ⟨h.1, fun i x f hx hf => by
  obtain ⟨b, e1, o, e2, e3⟩ := h.2 i x f hx hf
  exact ⟨b, e1, o, e2, e _ _ e3 fun _ z => by cases z⟩⟩
theorem sch_ext {K : PySem.W.Frag} {C : Addr} {H H' : Hp} {p : Addr} {fs : List Fld} (h : SchAt K C H p fs) (e : LamX.ExtN H H') : SchAt K C H' p fs := by
  obtain ⟨dx, a, c, h1, ⟨b, o, e1, e2, e3⟩, h3⟩ := h.ob
  have h1' := e _ _ h1 fun _ z => by cases z
  refine ⟨⟨dx, a, c, h1', ⟨b, o, e1, e2, e _ _ e3 fun _ z => by cases z⟩, dp_ext e h3⟩, fun dx' a' c' h' => ?_⟩
  rw [h1'] at h'
  injection h' with h'
  injection h' with _ _ h'
  rw [← sch_inj h']
  obtain ⟨ca, xs, k1, k2, k3⟩ := h.ch dx a c h1
  exact ⟨ca, xs, k1, e _ _ k2 (fun _ z => by cases z), fz_ext k3 e⟩
end Hr

set_option Elab.async false
set_option linter.all false
set_option maxRecDepth 100000
set_option maxHeartbeats 4000000
/-! errors without arguments; errors that are made and not raised; their fields; isinstance of an error that is held -/
namespace Hr
open PySem PySem.Spec PyProof.Rows L2
section
variable {X : Cx} {x : Str} {e : Expr} {es : List Expr} {ta : TA} {p pos : Pos} {C fI : Addr} {k : Nat} {fd : FuncData} {ps : List Str} {sp : Sp}
/-- C() as what is raised -/
theorem pmk_xc0 (T : XcC X.K C) (iC : PySem.W.findIn X.K (.ref C) "__init__" = some (some (.ref fI))) (tI : PySem.W.typeIn X.K (.ref fI) = some (.type "function")) (F1 : FnOk X.prog X.w X.K X.mg X.base CX0 k fI fd ps sp) (hr : Room (k + 1) X.A) (hb : Binds X.K fd ps []) (hg : Gl X x) (hm : X.mg x = some (.ref C))
    (hdb : (x == ("__debug__" : Str)) = false := by decide) : L2N.PMk X (.Call (.Name x p) [] [] pos) (tXmk C sp tNil) := by
  intro pins s σ H Q I h
  obtain ⟨hz, q1⟩ := h
  exact wpAny_Call_Name_kw (ld_glob I hg hm (PySem.W.callWith_K0 I.kIn T.kp (call_xc T iC tI F1 hr hb I .nil hz q1)) hdb)
/-- an error that is made and not raised -/
def tXc (C : Addr) (sp : Sp) (ta : TA) : TE := fun σ H Q => ta σ H fun vs H1 => vs.length ≤ 1000 ∧ ∀ a, H1 a = none → sp (.ref a :: vs) (upd H1 a (exo a C none)) (fun v H2 => v = .non ∧ Q (.ref a) H2) (fun _ _ _ => False)
theorem run_xc {pins : List (Addr × Obj)} {σ : L2.St} {H1 : Hp} {Q : VK} {s1 : Shared} {us : List Value} {vs : List V} (T : XcC X.K C) (iC : PySem.W.findIn X.K (.ref C) "__init__" = some (some (.ref fI))) (tI : PySem.W.typeIn X.K (.ref fI) = some (.type "function"))
    (F1 : FnOk X.prog X.w X.K X.mg X.base CX0 k fI fd ps sp) (hr : Room (k + 1) X.A) (hb : Binds X.K fd ps []) (I1 : Inv X pins σ H1 s1) (r1 : Vals vs us) (hz : vs.length ≤ 1000)
    (q1 : ∀ a, H1 a = none → sp (.ref a :: vs) (upd H1 a (exo a C none)) (fun v H2 => v = .non ∧ Q (.ref a) H2) (fun _ _ _ => False)) :
    wpAny (model X.prog X.w) X.A (call (.ref C) us) (EP X pins σ Q) X.xe s1 := by
  obtain ⟨B, newId, initId, bmB, f1, _, q3, _⟩ := T.fac
  obtain ⟨nm, N, qn, bs, bm, hdct, sn, sub, ab, col, dd, k0, k1, k2, k3, k5, hC, hT⟩ := PySem.W.excInit_of I1.kIn q3
  obtain ⟨hp, g, dr, tk, os⟩ := s1
  have old : ∀ b o, hp.get? b = some o → ((hp.push (PySem.W.kdv_tup us)).push (PySem.HandSPX.excO C hp.objs.size)).get? b = some o := fun b o z => Heap.get?_push_of_some _ (Heap.get?_push_of_some _ z)
  have at1 : ((hp.push (PySem.W.kdv_tup us)).push (PySem.HandSPX.excO C hp.objs.size)).get? (hp.objs.size + 1) = some (PySem.HandSPX.excO C hp.objs.size) := by heap_get
  have le1 : hp.objs.size ≤ hp.objs.size + 1 := Nat.le_succ _
  have hq := q1 (hp.objs.size + 1) (I1.hok.fresh le1)
  have I2 := I1.laid (t' := tk) (a := hp.objs.size + 1) (o := exo (hp.objs.size + 1) C none) old le1 (exo_ok at1)
  have r2 : Vals (V.ref (hp.objs.size + 1) :: vs) (Value.ref (hp.objs.size + 1) :: us) := .cons rfl r1
  have hl : (Value.ref (hp.objs.size + 1) :: us ++ []).length = ps.length := by
    rw [List.append_nil, ← r2.length]
    exact F1.len _ _ _ _ hq
  have b2 := hb _ (Value.ref (hp.objs.size + 1) :: us) I2.kIn hl
  rw [List.append_nil] at b2
  have hus : us.length ≤ sizeLine := by
    rw [← Paired.length r1, sizeLine_eq]
    omega
  refine wpAny_call (PySem.HandSPX.call_own f1 hT hC (PySem.W.looks_findIn I1.kIn iC) (fun self => PySem.W.bind_fn I1.kIn self tI) hus (codeAny_mono (F1.run _ X.stack _ _ ⟨Value.ref (hp.objs.size + 1) :: us, []⟩ _ _ _ (fun _ _ _ => False) (hr.make C us []) (I2.env0.make C us []) b2 r2 hq) fun r s' hq' => ?_))
  cases r with
  | error er => exact (show False from hq').elim
  | ok fl =>
    cases fl with
    | ret u =>
      obtain ⟨v, H2, os2, bare2, un2, hok2, rv, ev, q2⟩ := hq'
      subst ev
      obtain ⟨h2, g2, d2, t2, os'⟩ := s'
      obtain rfl : os' = os := os2
      exact ⟨rv, .ref (hp.objs.size + 1), H2, I2.call (h' := h2) (g' := g2) (d' := d2) (t' := t2) (ch := []) un2 hok2 bare2 (fun b z => absurd z (by simp)), rfl, q2⟩
    | next => exact False.elim hq'
    | brk => exact False.elim hq'
    | cont => exact False.elim hq'
theorem pe_xc (T : XcC X.K C) (iC : PySem.W.findIn X.K (.ref C) "__init__" = some (some (.ref fI))) (tI : PySem.W.typeIn X.K (.ref fI) = some (.type "function")) (F1 : FnOk X.prog X.w X.K X.mg X.base CX0 k fI fd ps sp) (hr : Room (k + 1) X.A) (hb : Binds X.K fd ps []) (hg : Gl X x) (hm : X.mg x = some (.ref C)) (ha : PA X (e :: es) ta)
    (hdb : (x == ("__debug__" : Str)) = false := by decide) (he : starEach (e :: es) X.env = (false, eval e X.env) :: starEach es X.env := by rfl) (hpl : (backTo pos (starEach es X.env)).any (·.1) = false := by rfl) :
    PE X (.Call (.Name x p) (e :: es) [] pos) (tXc C sp ta) := by
  refine ⟨fun pins s σ H Q I h => wpAny_Call_Name_kw (ld_glob I hg hm (PySem.W.callWith_K (h₀ := X.base) I.ok.mod.kin T.kp (thn (ha.run pos pins s σ H _ I h) fun us s1 ⟨vs, H1, I1, r1, hz, q1⟩ => ⟨I1.kIn, ?_⟩) he hpl) hdb)⟩
  exact run_xc T iC tI F1 hr hb I1 r1 hz q1
end
/-- e.n, e an error in the heap -/
def tXfO (K : PySem.W.Frag) (n : Str) (te : TE) : TE := fun σ H Q => te σ H fun x H1 => ∃ (a C d : Addr) (fs : List (Str × V)) (v : V), x = .ref a ∧ XcC K C ∧ PySem.W.findIn K (.ref C) n = some none ∧ H1 a = some (exo a C (some d)) ∧ H1 d = some (exd d fs) ∧ fs.lookup n = some v ∧ Q v H1
theorem pe_xfO {X : Cx} {e : Expr} {te : TE} {pos : Pos} {n : Str} (he : PE X e te) (hb : attributeBase e n X.env (eval e X.env) = eval e X.env := by rfl) : PE X (.Attribute e n pos) (tXfO X.K n te) := by
  refine ⟨fun pins s σ H Q I h => attr_of hb (thn (he.run pins s σ H _ I h) fun u s1 hh => ?_)⟩
  obtain ⟨x, H1, I1, rx, a, C, d, fs, v, ex, T, no, ea, ed, l, q⟩ := hh
  subst ex
  obtain rfl : u = Value.ref a := rx
  obtain ⟨t1, ho⟩ := exo_at I1.hok ea
  obtain ⟨mA, hns, hr⟩ := exd_at I1.hok ed
  obtain ⟨od, hod, hl⟩ := lookIn_ns hns
  obtain ⟨u, hu, ru⟩ := RelO.some_of (v := v) (o := mA n) (by rw [← l]; exact hr n)
  have J : PySem.W.InstAt s1.heap a _ C (some od) := ⟨ho, rfl, rfl, hod⟩
  exact HandSPX.exc_get I1.kIn J T.ga T.gg T.sub (PySem.W.findObj_own T.hd no rfl (by rw [hl, hu])) (handed_of ru) ⟨v, H1, I1.tok _, ru, q⟩
/-! ### isinstance of an error that has fields -/
section
open PySem.W PySem.Calls
variable {prog : Program} {w : World} {A : Around} {E : Value → Shared → Prop} {s : Shared} {K : PySem.W.Frag} {x D : Addr} {ox : Obj} {od : Option Obj}
theorem findObj_dataX {C : Addr} {name : Str} {a g : Value} (hc : (clsIn K C).isSome = true) (ha : findIn K (.ref C) name = some (some a)) (hg : specialIn K a "__get__" = some (some g)) (ht : takesIn K a = some true) : findObj K C od name = some (.bind g a) := by
  obtain ⟨cd, hc⟩ := Option.isSome_iff_exists.mp hc
  unfold findObj
  rw [hc, Option.bind_some, ha, Option.bind_some]
  simp [hg, ht]
theorem class_of_err {Q : Option Value → Shared → Prop} (T : ExcC K D) (X : K.In s.heap) (I : InstAt s.heap x ox D od) (h : Q (some (.ref D)) { s with toks := s.toks + 1 }) : wpAny (model prog w) A (getAttr? (.ref x) "__class__") Q E s := by
  have hf : findObj K D od "__class__" = some (.bind (.builtin "getset_descriptor.__get__") (.builtin "object.__class__")) := findObj_dataX (by obtain ⟨cd, hc, _⟩ := any_some T.hd; rw [hc]; rfl) T.ha T.hn T.ht
  obtain ⟨hp, g, d, t, os⟩ := s
  have L0 := I.type (M := model prog w)
  have L1 := looks_findIn (M := model prog w) X T.hg
  have L2 := looks_findIn (M := model prog w) X T.hk
  have L3 := looks_find (M := model prog w) X I hf
  have sub : Looks (model prog w) hp (isInstance (.ref x) (.type "BaseException")) true := L0.andThen (looks_subIn X T.hs)
  have e2 : (Value.builtin "BaseException.__getattribute__" == Value.builtin "object.__getattribute__") = false := by decide +kernel
  have e1 : (onTheHeap (Value.ref D) && Value.builtin "BaseException.__getattribute__" == Value.builtin "object.__getattribute__") = false := by rw [e2]; rfl
  unfold getAttr? getAttrBy? getAttrBy
  refine wpAny_bind (wpAny_mkText (wpAny_bind (wpAny_attempt (wpAny_holding (wpAny_bind (L0.at (wpAny_bind (L1.at ?_))))))))
  show wpAny _ _ (if (onTheHeap (Value.ref D) && Value.builtin "BaseException.__getattribute__" == Value.builtin "object.__getattribute__") = true then _ else _) _ _ _
  rw [e1, if_neg Bool.false_ne_true]
  unfold getAttrByItsOwn hookBefore
  refine wpAny_bind ?_
  rw [if_pos (show onTheHeap (Value.ref D) = true from rfl)]
  refine L2.at (wpAny_bind (wpAny_attempt (wpAny_holding ?_)))
  unfold callGetattribute
  rw [show (false && onTheHeap (Value.builtin "BaseException.__getattribute__")) = false from rfl, if_neg Bool.false_ne_true]
  unfold boundAndCalled
  rw [PySem.F.excAttr_ValueError.ga.bind (.ref x)]
  refine wpAny_bind (wpAny_pure ?_)
  show wpAny _ _ (call (.builtin "BaseException.__getattribute__") [.ref x, .str "__class__" t]) _ _ _
  refine wpAny_call (codeAny_call_builtin PySem.F.excAttr_ValueError.ga.plain PySem.F.entry_bexc_ga ?_)
  refine @check_slot (model prog w) _ _ ⟨hp, g, d, t + 1, os⟩ "BaseException.__getattribute__" "BaseException" "__getattribute__" (.ref x) [.str "__class__" t] [] _ (by decide +kernel) (by decide +kernel) sub (PySem.F.args_bexc_ga (.ref x) (.str "__class__" t)) ?_
  unfold Builtin.«object.__getattribute__»
  refine wpAny_bind (wpAny_of_eq (a := ((Value.ref x : Value), [Value.str "__class__" t])) (by first | rfl | (simp only [slotArgs]; rfl)) ?_)
  refine wpAny_bind (wpAny_pure (wpAny_bind (L0.at (wpAny_bind (L3.at ?_)))))
  show wpAny _ _ (holding [Value.builtin "object.__class__"] (call (.builtin "getset_descriptor.__get__") [.builtin "object.__class__", .ref x, .ref D]) >>= ret) _ _ _
  refine wpAny_bind (wpAny_holding (wpAny_call (class_get (s := ⟨hp, g, d, t + 1, os⟩) (ox := ox) (od := od) X I T.hm (wpAny_pure ?_))))
  show wpAny _ _ (handedOut (.ref D)) _ _ _
  rw [handedOut_of (v := .ref D) rfl]
  first
    | exact wpAny_pure (wpAny_pure h)
    | exact wpAny_pure h
    | exact wpAny_pure (wpAny_bind (wpAny_pure (wpAny_pure h)))
theorem kit_err (T : ExcC K D) : KitX K (.ref x) (.ref D) (fun h => InstAt h x ox D od) where
  ty := fun _ _ _ I => I.type
  it := fun _ _ X _ => by
    obtain ⟨cd, hc, _⟩ := any_some T.hd
    unfold clsIn at hc
    split at hc
    · rename_i c' d' cd' sl' ho
      intro A' Q' E' s' kk qq
      unfold isType loadHead
      exact wpAny_bind (wpAny_loadPart (kk _ _ (X _ _ ho)) (wpAny_pure qq))
    · cases hc
  ne := (handS_kitx_exc (x := x) (ox := ox) T.hg T.hk T.hs T.hd T.ha T.hn T.ht T.hm).ne
  ca := fun X I k => class_of_err T X I k
end
/-- isinstance(e, c), e the error at a with its dict at d -/
def rIsA (K : PySem.W.Frag) (D a d : Addr) : List V → Hp → VK → Prop := fun xs H Q => ∃ (c : V) (cv : Value) (b : Bool) (fs : List (Str × V)), xs = [.ref a, c] ∧ ExcC K D ∧ H d = some (.xd fs) ∧ ClsV c cv ∧ PySem.W.kitOne K (.ref D) cv = some b ∧ Q (.bl b) H
theorem call_isA {X : Cx} {a D d : Addr} (R : ErrAt X a D d) : CallR X (.builtin "isinstance") (rIsA X.K D a d) := by
  intro pins s σ H xs us Q I r h
  obtain ⟨c, cv, b, fs, rfl, C, hd, kc, e, q⟩ := h
  obtain ⟨u1, u2, rfl, r1, r2⟩ := vals2 r
  cases (show u1 = Value.ref a from r1)
  have e2 := kc.eq r2
  subst e2
  obtain ⟨oe, hp, hz, vs, hdt⟩ := R.pin
  obtain ⟨hg, _⟩ := I.pin (a, oe) (List.mem_append_left _ hp)
  obtain ⟨mA, hns, hr⟩ := (show ObjOk X.prog X.w H s.heap d (.xd fs) from I.hok d _ hd)
  obtain ⟨od, ho, hl⟩ := lookIn_ns hns
  have J : PySem.W.InstAt s.heap a oe D (some od) := ⟨hg, hz.1, by unfold PySem.W.notCls; rw [hdt] <;> rfl, by rw [hz.2.1]; exact ho⟩
  exact PySem.W.kia_one (kit_err (ox := oe) (od := some od) C) I.kIn J e (fun z => nomatch z) fun tk => ⟨.bl b, H, I.tok tk, rfl, q⟩
theorem call_isAK {X : Cx} {K : PySem.W.Frag} {a D d : Addr} (R : ErrAt X a D d) (e : X.K = K := by rfl) : CallR X (.builtin "isinstance") (rIsA K D a d) := e ▸ call_isA R
/-- f(e, ..) in a try, f a def that may raise: what is raised is told at the call -/
def tCallW (sp : Sp) (t : TA) (W : WX) : TE := fun σ H Q => t σ H fun vs H1 => ∃ E : XK, (∀ cls d H', E cls d H' → W cls d σ H') ∧ sp vs H1 Q E
theorem pe_callW {Z : Cx} {k : Nat} {f : Addr} {fd : FuncData} {ps : List Str} {sp : Sp} {x : Str} {q pos : Pos} {e : Expr} {es : List Expr} {t : TA} {W : WX} {pn : List (Addr × Obj)} {xe : Value → Shared → Prop} (F : FnOk Z.prog Z.w Z.K Z.mg Z.base (L2N.CX Z.prog Z.w) k f fd ps sp) (hr : Room k Z.A) (tk : L2N.Takes (Z.tr pn xe) W)
    (hg : Gl (Z.tr pn xe) x) (hm : Z.mg x = some (.ref f)) (hk : PySem.W.keepIn Z.K (.ref f) = true) (hb : Binds Z.K fd ps []) (ha : PA (Z.tr pn xe) (e :: es) t) (hdb : (x == ("__debug__" : Str)) = false := by decide) (he : starEach (e :: es) Z.env = (false, eval e Z.env) :: starEach es Z.env := by rfl) (hpl : (backTo pos (starEach es Z.env)).any (·.1) = false := by rfl) :
    PE (Z.tr pn xe) (.Call (.Name x q) (e :: es) [] pos) (tCallW sp t W) := by
  refine ⟨fun pins s σ H Q I h => wpAny_Call_Name_kw (ld_glob (X := Z.tr pn xe) I hg hm (PySem.W.callWith_K (h₀ := Z.base) I.ok.mod.kin hk (thn (ha.run pos pins s σ H _ I h) fun us s1 ⟨vs, H1, I1, r, E, hW, q⟩ => ⟨I1.kIn, ?_⟩) he hpl) hdb)⟩
  have hl : us.length = ps.length := by rw [← r.length]; exact F.len _ _ _ _ q
  have b := hb s1 us I1.kIn (by rw [List.append_nil]; exact hl)
  rw [List.append_nil] at b
  refine wpAny_call (codeAny_mono (F.run Z.A Z.stack s1 H1 ⟨us, []⟩ us vs Q E hr I1.env0 b r q) fun r s' hq => ?_)
  cases r with
  | error e => exact tk e s' (L2N.XE.of_call I1 (fun cls d H' h => hW cls d H' h) hq)
  | ok fl =>
    cases fl with
    | ret u => exact I1.after hq
    | next => exact False.elim hq
    | brk => exact False.elim hq
    | cont => exact False.elim hq
theorem pe_xfOK {X : Cx} {K : PySem.W.Frag} {e : Expr} {te : TE} {pos : Pos} {n : Str} (he : PE X e te) (hb : attributeBase e n X.env (eval e X.env) = eval e X.env := by rfl) (hK : X.K = K := by rfl) : PE X (.Attribute e n pos) (tXfO K n te) := hK ▸ pe_xfO he hb
end Hr

set_option Elab.async false
set_option linter.all false
set_option maxRecDepth 100000
set_option maxHeartbeats 4000000
namespace Hr
open PySem PySem.Spec PyProof.Rows L2
def eC : Nat → Str
  | 0 => "InvalidName"
  | 1 => "InvalidValue"
  | 2 => "DuplicateName"
  | 3 => "LimitReached"
  | 4 => "InvalidRequest"
  | 5 => "InvalidNumber"
  | 6 => "InvalidCondition"
  | 7 => "InvalidPair"
  | 8 => "InvalidReport"
  | 9 => "InvalidSlot"
  | 10 => "NotADeadlock"
  | 11 => "InvalidOutcomes"
  | 12 => "NothingMatches"
  | 13 => "SameRule"
  | 14 => "KnownOrder"
  | 15 => "Contradiction"
  | 16 => "InvalidMoment"
  | 17 => "InvalidCommand"
  | 18 => "BatchFailed"
  | 19 => "InvalidText"
  | 20 => "InvalidFile"
  | 21 => "UnknownField"
  | 22 => "UnknownValue"
  | 23 => "UnknownEffect"
  | 24 => "UnknownRule"
  | 25 => "NothingLeft"
  | _ => ""
/-- the facts that isinstance asks of a class of errors, in one look -/
def exB (K : PySem.W.Frag) (D : Addr) : Bool :=
  decide (PySem.W.findIn K (.ref D) "__getattribute__" = some (some (.builtin "BaseException.__getattribute__"))) && (decide (PySem.W.findIn K (.ref D) "__getattr__" = some none) && (decide (PySem.W.subIn K (.ref D) (.type "BaseException") = some true) && (PySem.W.hasDictIn K D && (decide (PySem.W.findIn K (.ref D) "__class__" = some (some (.builtin "object.__class__"))) &&
    (decide (PySem.W.specialIn K (.builtin "object.__class__") "__get__" = some (some (.builtin "getset_descriptor.__get__"))) && (decide (PySem.W.takesIn K (.builtin "object.__class__") = some true) && decide (PySem.W.mroIn K D (.type "object") = some true)))))))
theorem exB_of {K : PySem.W.Frag} {D : Addr} (q : exB K D = true) : ExcC K D := by
  unfold exB at q
  simp only [Bool.and_eq_true, decide_eq_true_eq] at q
  obtain ⟨a1, a2, a3, a4, a5, a6, a7, a8⟩ := q
  exact ⟨a1, a2, a3, a4, a5, a6, a7, a8⟩
def ekB (K : PySem.W.Frag) (as : List Addr) (nf : Addr) (k : Nat) : Bool :=
  exB K (as.getD k 0) && (decide (PySem.W.findIn K (.ref (as.getD k 0)) "word" = some none) && ((List.range 26).all (fun j => decide (PySem.W.kitOne K (.ref (as.getD k 0)) (.ref (as.getD j 0)) = some (decide (j = k)))) && (decide (PySem.W.kitOne K (.ref (as.getD k 0)) (.type "ValueError") = some (decide (k < 21))) &&
    (decide (PySem.W.kitOne K (.ref (as.getD k 0)) (.ref nf) = some (decide (21 ≤ k))) && (decide (PySem.W.kitOne K (.ref (as.getD k 0)) (.type "LookupError") = some (decide (21 ≤ k))) && decide (PySem.W.kitOne K (.ref (as.getD k 0)) (.type "KeyError") = some false))))))
def ekBA (K : PySem.W.Frag) (as : List Addr) (nf : Addr) : Bool := (List.range 26).all (ekB K as nf)
def topS (i : Nat) : Stmt := PySem.Challenge.pw_hiddenrank_k68_error_classes.main.body.getD i (.Pass ⟨0, 0, 0, 0⟩)
abbrev s_InvalidName___init__ : Stmt := inClass (topS 2) 0
abbrev N_InvalidName___init__ : List Str := ["self", "name"]
theorem sc_InvalidName___init__ : FnScope N_InvalidName___init__ ["self", "name"] (defScope s_InvalidName___init__) := ⟨rfl, rfl, rfl, by decide +kernel, rfl, by decide +kernel, by decide +kernel⟩
abbrev s_InvalidValue___init__ : Stmt := inClass (topS 3) 0
abbrev N_InvalidValue___init__ : List Str := ["self", "value"]
theorem sc_InvalidValue___init__ : FnScope N_InvalidValue___init__ ["self", "value"] (defScope s_InvalidValue___init__) := ⟨rfl, rfl, rfl, by decide +kernel, rfl, by decide +kernel, by decide +kernel⟩
abbrev s_DuplicateName___init__ : Stmt := inClass (topS 4) 0
abbrev N_DuplicateName___init__ : List Str := ["self", "name"]
theorem sc_DuplicateName___init__ : FnScope N_DuplicateName___init__ ["self", "name"] (defScope s_DuplicateName___init__) := ⟨rfl, rfl, rfl, by decide +kernel, rfl, by decide +kernel, by decide +kernel⟩
abbrev s_LimitReached___init__ : Stmt := inClass (topS 5) 0
abbrev N_LimitReached___init__ : List Str := ["self", "limit"]
theorem sc_LimitReached___init__ : FnScope N_LimitReached___init__ ["self", "limit"] (defScope s_LimitReached___init__) := ⟨rfl, rfl, rfl, by decide +kernel, rfl, by decide +kernel, by decide +kernel⟩
abbrev s_InvalidRequest___init__ : Stmt := inClass (topS 6) 0
abbrev N_InvalidRequest___init__ : List Str := ["self", "position"]
theorem sc_InvalidRequest___init__ : FnScope N_InvalidRequest___init__ ["self", "position"] (defScope s_InvalidRequest___init__) := ⟨rfl, rfl, rfl, by decide +kernel, rfl, by decide +kernel, by decide +kernel⟩
abbrev s_InvalidNumber___init__ : Stmt := inClass (topS 7) 0
abbrev N_InvalidNumber___init__ : List Str := ["self", "number"]
theorem sc_InvalidNumber___init__ : FnScope N_InvalidNumber___init__ ["self", "number"] (defScope s_InvalidNumber___init__) := ⟨rfl, rfl, rfl, by decide +kernel, rfl, by decide +kernel, by decide +kernel⟩
abbrev s_InvalidCondition___init__ : Stmt := inClass (topS 8) 0
abbrev N_InvalidCondition___init__ : List Str := ["self", "position"]
theorem sc_InvalidCondition___init__ : FnScope N_InvalidCondition___init__ ["self", "position"] (defScope s_InvalidCondition___init__) := ⟨rfl, rfl, rfl, by decide +kernel, rfl, by decide +kernel, by decide +kernel⟩
abbrev s_InvalidPair___init__ : Stmt := inClass (topS 9) 0
abbrev N_InvalidPair___init__ : List Str := ["self", "place"]
theorem sc_InvalidPair___init__ : FnScope N_InvalidPair___init__ ["self", "place"] (defScope s_InvalidPair___init__) := ⟨rfl, rfl, rfl, by decide +kernel, rfl, by decide +kernel, by decide +kernel⟩
abbrev s_InvalidReport___init__ : Stmt := inClass (topS 10) 0
abbrev N_InvalidReport___init__ : List Str := ["self", "place"]
theorem sc_InvalidReport___init__ : FnScope N_InvalidReport___init__ ["self", "place"] (defScope s_InvalidReport___init__) := ⟨rfl, rfl, rfl, by decide +kernel, rfl, by decide +kernel, by decide +kernel⟩
abbrev s_InvalidSlot___init__ : Stmt := inClass (topS 11) 0
abbrev N_InvalidSlot___init__ : List Str := ["self", "slot"]
theorem sc_InvalidSlot___init__ : FnScope N_InvalidSlot___init__ ["self", "slot"] (defScope s_InvalidSlot___init__) := ⟨rfl, rfl, rfl, by decide +kernel, rfl, by decide +kernel, by decide +kernel⟩
abbrev s_NotADeadlock___init__ : Stmt := inClass (topS 12) 0
abbrev N_NotADeadlock___init__ : List Str := ["self"]
theorem sc_NotADeadlock___init__ : FnScope N_NotADeadlock___init__ ["self"] (defScope s_NotADeadlock___init__) := ⟨rfl, rfl, rfl, by decide +kernel, rfl, by decide +kernel, by decide +kernel⟩
abbrev s_InvalidOutcomes___init__ : Stmt := inClass (topS 13) 0
abbrev N_InvalidOutcomes___init__ : List Str := ["self"]
theorem sc_InvalidOutcomes___init__ : FnScope N_InvalidOutcomes___init__ ["self"] (defScope s_InvalidOutcomes___init__) := ⟨rfl, rfl, rfl, by decide +kernel, rfl, by decide +kernel, by decide +kernel⟩
abbrev s_NothingMatches___init__ : Stmt := inClass (topS 14) 0
abbrev N_NothingMatches___init__ : List Str := ["self", "number"]
theorem sc_NothingMatches___init__ : FnScope N_NothingMatches___init__ ["self", "number"] (defScope s_NothingMatches___init__) := ⟨rfl, rfl, rfl, by decide +kernel, rfl, by decide +kernel, by decide +kernel⟩
abbrev s_SameRule___init__ : Stmt := inClass (topS 15) 0
abbrev N_SameRule___init__ : List Str := ["self", "name"]
theorem sc_SameRule___init__ : FnScope N_SameRule___init__ ["self", "name"] (defScope s_SameRule___init__) := ⟨rfl, rfl, rfl, by decide +kernel, rfl, by decide +kernel, by decide +kernel⟩
abbrev s_KnownOrder___init__ : Stmt := inClass (topS 16) 0
abbrev N_KnownOrder___init__ : List Str := ["self", "name", "other"]
theorem sc_KnownOrder___init__ : FnScope N_KnownOrder___init__ ["self", "name", "other"] (defScope s_KnownOrder___init__) := ⟨rfl, rfl, rfl, by decide +kernel, rfl, by decide +kernel, by decide +kernel⟩
abbrev s_Contradiction___init__ : Stmt := inClass (topS 17) 0
abbrev N_Contradiction___init__ : List Str := ["self", "deadlock"]
theorem sc_Contradiction___init__ : FnScope N_Contradiction___init__ ["self", "deadlock"] (defScope s_Contradiction___init__) := ⟨rfl, rfl, rfl, by decide +kernel, rfl, by decide +kernel, by decide +kernel⟩
abbrev s_InvalidMoment___init__ : Stmt := inClass (topS 18) 0
abbrev N_InvalidMoment___init__ : List Str := ["self", "moment"]
theorem sc_InvalidMoment___init__ : FnScope N_InvalidMoment___init__ ["self", "moment"] (defScope s_InvalidMoment___init__) := ⟨rfl, rfl, rfl, by decide +kernel, rfl, by decide +kernel, by decide +kernel⟩
abbrev s_InvalidCommand___init__ : Stmt := inClass (topS 19) 0
abbrev N_InvalidCommand___init__ : List Str := ["self"]
theorem sc_InvalidCommand___init__ : FnScope N_InvalidCommand___init__ ["self"] (defScope s_InvalidCommand___init__) := ⟨rfl, rfl, rfl, by decide +kernel, rfl, by decide +kernel, by decide +kernel⟩
abbrev s_BatchFailed___init__ : Stmt := inClass (topS 20) 0
abbrev N_BatchFailed___init__ : List Str := ["self", "position", "reason"]
theorem sc_BatchFailed___init__ : FnScope N_BatchFailed___init__ ["self", "position", "reason"] (defScope s_BatchFailed___init__) := ⟨rfl, rfl, rfl, by decide +kernel, rfl, by decide +kernel, by decide +kernel⟩
abbrev s_InvalidText___init__ : Stmt := inClass (topS 21) 0
abbrev N_InvalidText___init__ : List Str := ["self"]
theorem sc_InvalidText___init__ : FnScope N_InvalidText___init__ ["self"] (defScope s_InvalidText___init__) := ⟨rfl, rfl, rfl, by decide +kernel, rfl, by decide +kernel, by decide +kernel⟩
abbrev s_InvalidFile___init__ : Stmt := inClass (topS 22) 0
abbrev N_InvalidFile___init__ : List Str := ["self", "line"]
theorem sc_InvalidFile___init__ : FnScope N_InvalidFile___init__ ["self", "line"] (defScope s_InvalidFile___init__) := ⟨rfl, rfl, rfl, by decide +kernel, rfl, by decide +kernel, by decide +kernel⟩
abbrev s_UnknownField___init__ : Stmt := inClass (topS 24) 0
abbrev N_UnknownField___init__ : List Str := ["self", "name"]
theorem sc_UnknownField___init__ : FnScope N_UnknownField___init__ ["self", "name"] (defScope s_UnknownField___init__) := ⟨rfl, rfl, rfl, by decide +kernel, rfl, by decide +kernel, by decide +kernel⟩
abbrev s_UnknownValue___init__ : Stmt := inClass (topS 25) 0
abbrev N_UnknownValue___init__ : List Str := ["self", "value"]
theorem sc_UnknownValue___init__ : FnScope N_UnknownValue___init__ ["self", "value"] (defScope s_UnknownValue___init__) := ⟨rfl, rfl, rfl, by decide +kernel, rfl, by decide +kernel, by decide +kernel⟩
abbrev s_UnknownEffect___init__ : Stmt := inClass (topS 26) 0
abbrev N_UnknownEffect___init__ : List Str := ["self", "name"]
theorem sc_UnknownEffect___init__ : FnScope N_UnknownEffect___init__ ["self", "name"] (defScope s_UnknownEffect___init__) := ⟨rfl, rfl, rfl, by decide +kernel, rfl, by decide +kernel, by decide +kernel⟩
abbrev s_UnknownRule___init__ : Stmt := inClass (topS 27) 0
abbrev N_UnknownRule___init__ : List Str := ["self", "name"]
theorem sc_UnknownRule___init__ : FnScope N_UnknownRule___init__ ["self", "name"] (defScope s_UnknownRule___init__) := ⟨rfl, rfl, rfl, by decide +kernel, rfl, by decide +kernel, by decide +kernel⟩
abbrev s_NothingLeft___init__ : Stmt := inClass (topS 28) 0
abbrev N_NothingLeft___init__ : List Str := ["self"]
theorem sc_NothingLeft___init__ : FnScope N_NothingLeft___init__ ["self"] (defScope s_NothingLeft___init__) := ⟨rfl, rfl, rfl, by decide +kernel, rfl, by decide +kernel, by decide +kernel⟩
abbrev s__law_bag : Stmt := topS 30
abbrev N__law_bag : List Str := ["_law_script"]
theorem sc__law_bag : FnScope N__law_bag ["_law_script"] (defScope s__law_bag) := ⟨rfl, rfl, rfl, by decide +kernel, rfl, by decide +kernel, by decide +kernel⟩
abbrev s__law_pull : Stmt := topS 31
abbrev N__law_pull : List Str := ["_law_bag_here", "_law_sides", "_law_twice", "_law_cell", "_law_digit"]
theorem sc__law_pull : FnScope N__law_pull ["_law_bag_here", "_law_sides"] (defScope s__law_pull) := ⟨rfl, rfl, rfl, by decide +kernel, rfl, by decide +kernel, by decide +kernel⟩
abbrev s__law_same : Stmt := topS 32
abbrev N__law_same : List Str := ["_law_found", "_law_due", "_law_one", "_law_two"]
theorem sc__law_same : FnScope N__law_same ["_law_found", "_law_due"] (defScope s__law_same) := ⟨rfl, rfl, rfl, by decide +kernel, rfl, by decide +kernel, by decide +kernel⟩
abbrev s__law_early : Stmt := topS 33
abbrev N__law_early : List Str := ["_law_at", "_law_a", "_law_b"]
theorem sc__law_early : FnScope N__law_early ["_law_at", "_law_a", "_law_b"] (defScope s__law_early) := ⟨rfl, rfl, rfl, by decide +kernel, rfl, by decide +kernel, by decide +kernel⟩
abbrev s__law_middle : Stmt := topS 34
abbrev N__law_middle : List Str := ["_law_at", "_law_a", "_law_b"]
theorem sc__law_middle : FnScope N__law_middle ["_law_at", "_law_a", "_law_b"] (defScope s__law_middle) := ⟨rfl, rfl, rfl, by decide +kernel, rfl, by decide +kernel, by decide +kernel⟩
abbrev s__law_late : Stmt := topS 35
abbrev N__law_late : List Str := ["_law_at", "_law_a", "_law_b"]
theorem sc__law_late : FnScope N__law_late ["_law_at", "_law_a", "_law_b"] (defScope s__law_late) := ⟨rfl, rfl, rfl, by decide +kernel, rfl, by decide +kernel, by decide +kernel⟩
abbrev s__law_flags : Stmt := topS 36
abbrev N__law_flags : List Str := ["_law_e", "_law_row"]
theorem sc__law_flags : FnScope N__law_flags ["_law_e"] (defScope s__law_flags) := ⟨rfl, rfl, rfl, by decide +kernel, rfl, by decide +kernel, by decide +kernel⟩
abbrev s__law_words : Stmt := topS 37
abbrev N__law_words : List Str := ["_law_found"]
theorem sc__law_words : FnScope N__law_words [] (defScope s__law_words) := ⟨rfl, rfl, rfl, by decide +kernel, rfl, by decide +kernel, by decide +kernel⟩
abbrev s__law_raised : Stmt := topS 38
abbrev N__law_raised : List Str := ["_law_at", "_law_a", "_law_b"]
theorem sc__law_raised : FnScope N__law_raised ["_law_at", "_law_a", "_law_b"] (defScope s__law_raised) := ⟨rfl, rfl, rfl, by decide +kernel, rfl, by decide +kernel, by decide +kernel⟩
abbrev s_law : Stmt := topS 39
abbrev N_law : List Str := ["_law_script", "_law_bag_here", "_law_step", "_law_some", "_law_a", "_law_b", "_law_first", "_law_e", "_law_due", "_law_at", "_law_found", "_law_k"]
theorem sc_law : FnScope N_law ["_law_script"] (defScope s_law) := ⟨rfl, rfl, rfl, by decide +kernel, rfl, by decide +kernel, by decide +kernel⟩
structure Txt (K : PySem.W.Frag) (mg : Str → Option Value) : Prop where
  m_KeyError : mg "KeyError" = none
  m_LookupError : mg "LookupError" = none
  m_ValueError : mg "ValueError" = none
  m_abs : mg "abs" = none
  m_all : mg "all" = none
  m_bool : mg "bool" = none
  m_int : mg "int" = none
  m_isinstance : mg "isinstance" = none
  m_len : mg "len" = none
  m_list : mg "list" = none
  m_range : mg "range" = none
  m_str : mg "str" = none
  m_tuple : mg "tuple" = none
  m_zip : mg "zip" = none
  g_RankError : mg "RankError" = some (.ref (adr (mg "RankError")))
  g_NotFound : mg "NotFound" = some (.ref (adr (mg "NotFound")))
  g_InvalidName : mg "InvalidName" = some (.ref (adr (mg "InvalidName")))
  x_InvalidName : XcC K (adr (mg "InvalidName"))
  n_InvalidName_name : PySem.W.findIn K (.ref (adr (mg "InvalidName"))) "name" = some none
  n_InvalidName_word : PySem.W.findIn K (.ref (adr (mg "InvalidName"))) "word" = some none
  h_InvalidName___init__ : ∃ f fd, Fun K "__init__" "InvalidName.__init__" s_InvalidName___init__ f fd ∧ Binds K fd ["self", "name"] [] ∧ PySem.W.findIn K (.ref (adr (mg "InvalidName"))) "__init__" = some (some (.ref f)) ∧ PySem.W.typeIn K (.ref f) = some (.type "function")
  e_InvalidName : PySem.W.exmOne K (.ref (adr (mg "InvalidName"))) (.ref (adr (mg "RankError"))) = some true
  g_InvalidValue : mg "InvalidValue" = some (.ref (adr (mg "InvalidValue")))
  x_InvalidValue : XcC K (adr (mg "InvalidValue"))
  n_InvalidValue_value : PySem.W.findIn K (.ref (adr (mg "InvalidValue"))) "value" = some none
  n_InvalidValue_word : PySem.W.findIn K (.ref (adr (mg "InvalidValue"))) "word" = some none
  h_InvalidValue___init__ : ∃ f fd, Fun K "__init__" "InvalidValue.__init__" s_InvalidValue___init__ f fd ∧ Binds K fd ["self", "value"] [] ∧ PySem.W.findIn K (.ref (adr (mg "InvalidValue"))) "__init__" = some (some (.ref f)) ∧ PySem.W.typeIn K (.ref f) = some (.type "function")
  e_InvalidValue : PySem.W.exmOne K (.ref (adr (mg "InvalidValue"))) (.ref (adr (mg "RankError"))) = some true
  g_DuplicateName : mg "DuplicateName" = some (.ref (adr (mg "DuplicateName")))
  x_DuplicateName : XcC K (adr (mg "DuplicateName"))
  n_DuplicateName_name : PySem.W.findIn K (.ref (adr (mg "DuplicateName"))) "name" = some none
  n_DuplicateName_word : PySem.W.findIn K (.ref (adr (mg "DuplicateName"))) "word" = some none
  h_DuplicateName___init__ : ∃ f fd, Fun K "__init__" "DuplicateName.__init__" s_DuplicateName___init__ f fd ∧ Binds K fd ["self", "name"] [] ∧ PySem.W.findIn K (.ref (adr (mg "DuplicateName"))) "__init__" = some (some (.ref f)) ∧ PySem.W.typeIn K (.ref f) = some (.type "function")
  e_DuplicateName : PySem.W.exmOne K (.ref (adr (mg "DuplicateName"))) (.ref (adr (mg "RankError"))) = some true
  g_LimitReached : mg "LimitReached" = some (.ref (adr (mg "LimitReached")))
  x_LimitReached : XcC K (adr (mg "LimitReached"))
  n_LimitReached_limit : PySem.W.findIn K (.ref (adr (mg "LimitReached"))) "limit" = some none
  n_LimitReached_word : PySem.W.findIn K (.ref (adr (mg "LimitReached"))) "word" = some none
  h_LimitReached___init__ : ∃ f fd, Fun K "__init__" "LimitReached.__init__" s_LimitReached___init__ f fd ∧ Binds K fd ["self", "limit"] [] ∧ PySem.W.findIn K (.ref (adr (mg "LimitReached"))) "__init__" = some (some (.ref f)) ∧ PySem.W.typeIn K (.ref f) = some (.type "function")
  e_LimitReached : PySem.W.exmOne K (.ref (adr (mg "LimitReached"))) (.ref (adr (mg "RankError"))) = some true
  g_InvalidRequest : mg "InvalidRequest" = some (.ref (adr (mg "InvalidRequest")))
  x_InvalidRequest : XcC K (adr (mg "InvalidRequest"))
  n_InvalidRequest_position : PySem.W.findIn K (.ref (adr (mg "InvalidRequest"))) "position" = some none
  n_InvalidRequest_word : PySem.W.findIn K (.ref (adr (mg "InvalidRequest"))) "word" = some none
  h_InvalidRequest___init__ : ∃ f fd, Fun K "__init__" "InvalidRequest.__init__" s_InvalidRequest___init__ f fd ∧ Binds K fd ["self", "position"] [] ∧ PySem.W.findIn K (.ref (adr (mg "InvalidRequest"))) "__init__" = some (some (.ref f)) ∧ PySem.W.typeIn K (.ref f) = some (.type "function")
  e_InvalidRequest : PySem.W.exmOne K (.ref (adr (mg "InvalidRequest"))) (.ref (adr (mg "RankError"))) = some true
  g_InvalidNumber : mg "InvalidNumber" = some (.ref (adr (mg "InvalidNumber")))
  x_InvalidNumber : XcC K (adr (mg "InvalidNumber"))
  n_InvalidNumber_number : PySem.W.findIn K (.ref (adr (mg "InvalidNumber"))) "number" = some none
  n_InvalidNumber_word : PySem.W.findIn K (.ref (adr (mg "InvalidNumber"))) "word" = some none
  h_InvalidNumber___init__ : ∃ f fd, Fun K "__init__" "InvalidNumber.__init__" s_InvalidNumber___init__ f fd ∧ Binds K fd ["self", "number"] [] ∧ PySem.W.findIn K (.ref (adr (mg "InvalidNumber"))) "__init__" = some (some (.ref f)) ∧ PySem.W.typeIn K (.ref f) = some (.type "function")
  e_InvalidNumber : PySem.W.exmOne K (.ref (adr (mg "InvalidNumber"))) (.ref (adr (mg "RankError"))) = some true
  g_InvalidCondition : mg "InvalidCondition" = some (.ref (adr (mg "InvalidCondition")))
  x_InvalidCondition : XcC K (adr (mg "InvalidCondition"))
  n_InvalidCondition_position : PySem.W.findIn K (.ref (adr (mg "InvalidCondition"))) "position" = some none
  n_InvalidCondition_word : PySem.W.findIn K (.ref (adr (mg "InvalidCondition"))) "word" = some none
  h_InvalidCondition___init__ : ∃ f fd, Fun K "__init__" "InvalidCondition.__init__" s_InvalidCondition___init__ f fd ∧ Binds K fd ["self", "position"] [] ∧ PySem.W.findIn K (.ref (adr (mg "InvalidCondition"))) "__init__" = some (some (.ref f)) ∧ PySem.W.typeIn K (.ref f) = some (.type "function")
  e_InvalidCondition : PySem.W.exmOne K (.ref (adr (mg "InvalidCondition"))) (.ref (adr (mg "RankError"))) = some true
  g_InvalidPair : mg "InvalidPair" = some (.ref (adr (mg "InvalidPair")))
  x_InvalidPair : XcC K (adr (mg "InvalidPair"))
  n_InvalidPair_place : PySem.W.findIn K (.ref (adr (mg "InvalidPair"))) "place" = some none
  n_InvalidPair_word : PySem.W.findIn K (.ref (adr (mg "InvalidPair"))) "word" = some none
  h_InvalidPair___init__ : ∃ f fd, Fun K "__init__" "InvalidPair.__init__" s_InvalidPair___init__ f fd ∧ Binds K fd ["self", "place"] [] ∧ PySem.W.findIn K (.ref (adr (mg "InvalidPair"))) "__init__" = some (some (.ref f)) ∧ PySem.W.typeIn K (.ref f) = some (.type "function")
  e_InvalidPair : PySem.W.exmOne K (.ref (adr (mg "InvalidPair"))) (.ref (adr (mg "RankError"))) = some true
  g_InvalidReport : mg "InvalidReport" = some (.ref (adr (mg "InvalidReport")))
  x_InvalidReport : XcC K (adr (mg "InvalidReport"))
  n_InvalidReport_place : PySem.W.findIn K (.ref (adr (mg "InvalidReport"))) "place" = some none
  n_InvalidReport_word : PySem.W.findIn K (.ref (adr (mg "InvalidReport"))) "word" = some none
  h_InvalidReport___init__ : ∃ f fd, Fun K "__init__" "InvalidReport.__init__" s_InvalidReport___init__ f fd ∧ Binds K fd ["self", "place"] [] ∧ PySem.W.findIn K (.ref (adr (mg "InvalidReport"))) "__init__" = some (some (.ref f)) ∧ PySem.W.typeIn K (.ref f) = some (.type "function")
  e_InvalidReport : PySem.W.exmOne K (.ref (adr (mg "InvalidReport"))) (.ref (adr (mg "RankError"))) = some true
  g_InvalidSlot : mg "InvalidSlot" = some (.ref (adr (mg "InvalidSlot")))
  x_InvalidSlot : XcC K (adr (mg "InvalidSlot"))
  n_InvalidSlot_slot : PySem.W.findIn K (.ref (adr (mg "InvalidSlot"))) "slot" = some none
  n_InvalidSlot_word : PySem.W.findIn K (.ref (adr (mg "InvalidSlot"))) "word" = some none
  h_InvalidSlot___init__ : ∃ f fd, Fun K "__init__" "InvalidSlot.__init__" s_InvalidSlot___init__ f fd ∧ Binds K fd ["self", "slot"] [] ∧ PySem.W.findIn K (.ref (adr (mg "InvalidSlot"))) "__init__" = some (some (.ref f)) ∧ PySem.W.typeIn K (.ref f) = some (.type "function")
  e_InvalidSlot : PySem.W.exmOne K (.ref (adr (mg "InvalidSlot"))) (.ref (adr (mg "RankError"))) = some true
  g_NotADeadlock : mg "NotADeadlock" = some (.ref (adr (mg "NotADeadlock")))
  x_NotADeadlock : XcC K (adr (mg "NotADeadlock"))
  n_NotADeadlock_word : PySem.W.findIn K (.ref (adr (mg "NotADeadlock"))) "word" = some none
  h_NotADeadlock___init__ : ∃ f fd, Fun K "__init__" "NotADeadlock.__init__" s_NotADeadlock___init__ f fd ∧ Binds K fd ["self"] [] ∧ PySem.W.findIn K (.ref (adr (mg "NotADeadlock"))) "__init__" = some (some (.ref f)) ∧ PySem.W.typeIn K (.ref f) = some (.type "function")
  e_NotADeadlock : PySem.W.exmOne K (.ref (adr (mg "NotADeadlock"))) (.ref (adr (mg "RankError"))) = some true
  g_InvalidOutcomes : mg "InvalidOutcomes" = some (.ref (adr (mg "InvalidOutcomes")))
  x_InvalidOutcomes : XcC K (adr (mg "InvalidOutcomes"))
  n_InvalidOutcomes_word : PySem.W.findIn K (.ref (adr (mg "InvalidOutcomes"))) "word" = some none
  h_InvalidOutcomes___init__ : ∃ f fd, Fun K "__init__" "InvalidOutcomes.__init__" s_InvalidOutcomes___init__ f fd ∧ Binds K fd ["self"] [] ∧ PySem.W.findIn K (.ref (adr (mg "InvalidOutcomes"))) "__init__" = some (some (.ref f)) ∧ PySem.W.typeIn K (.ref f) = some (.type "function")
  e_InvalidOutcomes : PySem.W.exmOne K (.ref (adr (mg "InvalidOutcomes"))) (.ref (adr (mg "RankError"))) = some true
  g_NothingMatches : mg "NothingMatches" = some (.ref (adr (mg "NothingMatches")))
  x_NothingMatches : XcC K (adr (mg "NothingMatches"))
  n_NothingMatches_number : PySem.W.findIn K (.ref (adr (mg "NothingMatches"))) "number" = some none
  n_NothingMatches_word : PySem.W.findIn K (.ref (adr (mg "NothingMatches"))) "word" = some none
  h_NothingMatches___init__ : ∃ f fd, Fun K "__init__" "NothingMatches.__init__" s_NothingMatches___init__ f fd ∧ Binds K fd ["self", "number"] [] ∧ PySem.W.findIn K (.ref (adr (mg "NothingMatches"))) "__init__" = some (some (.ref f)) ∧ PySem.W.typeIn K (.ref f) = some (.type "function")
  e_NothingMatches : PySem.W.exmOne K (.ref (adr (mg "NothingMatches"))) (.ref (adr (mg "RankError"))) = some true
  g_SameRule : mg "SameRule" = some (.ref (adr (mg "SameRule")))
  x_SameRule : XcC K (adr (mg "SameRule"))
  n_SameRule_name : PySem.W.findIn K (.ref (adr (mg "SameRule"))) "name" = some none
  n_SameRule_word : PySem.W.findIn K (.ref (adr (mg "SameRule"))) "word" = some none
  h_SameRule___init__ : ∃ f fd, Fun K "__init__" "SameRule.__init__" s_SameRule___init__ f fd ∧ Binds K fd ["self", "name"] [] ∧ PySem.W.findIn K (.ref (adr (mg "SameRule"))) "__init__" = some (some (.ref f)) ∧ PySem.W.typeIn K (.ref f) = some (.type "function")
  e_SameRule : PySem.W.exmOne K (.ref (adr (mg "SameRule"))) (.ref (adr (mg "RankError"))) = some true
  g_KnownOrder : mg "KnownOrder" = some (.ref (adr (mg "KnownOrder")))
  x_KnownOrder : XcC K (adr (mg "KnownOrder"))
  n_KnownOrder_name : PySem.W.findIn K (.ref (adr (mg "KnownOrder"))) "name" = some none
  n_KnownOrder_other : PySem.W.findIn K (.ref (adr (mg "KnownOrder"))) "other" = some none
  n_KnownOrder_word : PySem.W.findIn K (.ref (adr (mg "KnownOrder"))) "word" = some none
  h_KnownOrder___init__ : ∃ f fd, Fun K "__init__" "KnownOrder.__init__" s_KnownOrder___init__ f fd ∧ Binds K fd ["self", "name", "other"] [] ∧ PySem.W.findIn K (.ref (adr (mg "KnownOrder"))) "__init__" = some (some (.ref f)) ∧ PySem.W.typeIn K (.ref f) = some (.type "function")
  e_KnownOrder : PySem.W.exmOne K (.ref (adr (mg "KnownOrder"))) (.ref (adr (mg "RankError"))) = some true
  g_Contradiction : mg "Contradiction" = some (.ref (adr (mg "Contradiction")))
  x_Contradiction : XcC K (adr (mg "Contradiction"))
  n_Contradiction_deadlock : PySem.W.findIn K (.ref (adr (mg "Contradiction"))) "deadlock" = some none
  n_Contradiction_word : PySem.W.findIn K (.ref (adr (mg "Contradiction"))) "word" = some none
  h_Contradiction___init__ : ∃ f fd, Fun K "__init__" "Contradiction.__init__" s_Contradiction___init__ f fd ∧ Binds K fd ["self", "deadlock"] [] ∧ PySem.W.findIn K (.ref (adr (mg "Contradiction"))) "__init__" = some (some (.ref f)) ∧ PySem.W.typeIn K (.ref f) = some (.type "function")
  e_Contradiction : PySem.W.exmOne K (.ref (adr (mg "Contradiction"))) (.ref (adr (mg "RankError"))) = some true
  g_InvalidMoment : mg "InvalidMoment" = some (.ref (adr (mg "InvalidMoment")))
  x_InvalidMoment : XcC K (adr (mg "InvalidMoment"))
  n_InvalidMoment_moment : PySem.W.findIn K (.ref (adr (mg "InvalidMoment"))) "moment" = some none
  n_InvalidMoment_word : PySem.W.findIn K (.ref (adr (mg "InvalidMoment"))) "word" = some none
  h_InvalidMoment___init__ : ∃ f fd, Fun K "__init__" "InvalidMoment.__init__" s_InvalidMoment___init__ f fd ∧ Binds K fd ["self", "moment"] [] ∧ PySem.W.findIn K (.ref (adr (mg "InvalidMoment"))) "__init__" = some (some (.ref f)) ∧ PySem.W.typeIn K (.ref f) = some (.type "function")
  e_InvalidMoment : PySem.W.exmOne K (.ref (adr (mg "InvalidMoment"))) (.ref (adr (mg "RankError"))) = some true
  g_InvalidCommand : mg "InvalidCommand" = some (.ref (adr (mg "InvalidCommand")))
  x_InvalidCommand : XcC K (adr (mg "InvalidCommand"))
  n_InvalidCommand_word : PySem.W.findIn K (.ref (adr (mg "InvalidCommand"))) "word" = some none
  h_InvalidCommand___init__ : ∃ f fd, Fun K "__init__" "InvalidCommand.__init__" s_InvalidCommand___init__ f fd ∧ Binds K fd ["self"] [] ∧ PySem.W.findIn K (.ref (adr (mg "InvalidCommand"))) "__init__" = some (some (.ref f)) ∧ PySem.W.typeIn K (.ref f) = some (.type "function")
  e_InvalidCommand : PySem.W.exmOne K (.ref (adr (mg "InvalidCommand"))) (.ref (adr (mg "RankError"))) = some true
  g_BatchFailed : mg "BatchFailed" = some (.ref (adr (mg "BatchFailed")))
  x_BatchFailed : XcC K (adr (mg "BatchFailed"))
  n_BatchFailed_position : PySem.W.findIn K (.ref (adr (mg "BatchFailed"))) "position" = some none
  n_BatchFailed_reason : PySem.W.findIn K (.ref (adr (mg "BatchFailed"))) "reason" = some none
  n_BatchFailed_word : PySem.W.findIn K (.ref (adr (mg "BatchFailed"))) "word" = some none
  h_BatchFailed___init__ : ∃ f fd, Fun K "__init__" "BatchFailed.__init__" s_BatchFailed___init__ f fd ∧ Binds K fd ["self", "position", "reason"] [] ∧ PySem.W.findIn K (.ref (adr (mg "BatchFailed"))) "__init__" = some (some (.ref f)) ∧ PySem.W.typeIn K (.ref f) = some (.type "function")
  e_BatchFailed : PySem.W.exmOne K (.ref (adr (mg "BatchFailed"))) (.ref (adr (mg "RankError"))) = some true
  g_InvalidText : mg "InvalidText" = some (.ref (adr (mg "InvalidText")))
  x_InvalidText : XcC K (adr (mg "InvalidText"))
  n_InvalidText_word : PySem.W.findIn K (.ref (adr (mg "InvalidText"))) "word" = some none
  h_InvalidText___init__ : ∃ f fd, Fun K "__init__" "InvalidText.__init__" s_InvalidText___init__ f fd ∧ Binds K fd ["self"] [] ∧ PySem.W.findIn K (.ref (adr (mg "InvalidText"))) "__init__" = some (some (.ref f)) ∧ PySem.W.typeIn K (.ref f) = some (.type "function")
  e_InvalidText : PySem.W.exmOne K (.ref (adr (mg "InvalidText"))) (.ref (adr (mg "RankError"))) = some true
  g_InvalidFile : mg "InvalidFile" = some (.ref (adr (mg "InvalidFile")))
  x_InvalidFile : XcC K (adr (mg "InvalidFile"))
  n_InvalidFile_line : PySem.W.findIn K (.ref (adr (mg "InvalidFile"))) "line" = some none
  n_InvalidFile_word : PySem.W.findIn K (.ref (adr (mg "InvalidFile"))) "word" = some none
  h_InvalidFile___init__ : ∃ f fd, Fun K "__init__" "InvalidFile.__init__" s_InvalidFile___init__ f fd ∧ Binds K fd ["self", "line"] [] ∧ PySem.W.findIn K (.ref (adr (mg "InvalidFile"))) "__init__" = some (some (.ref f)) ∧ PySem.W.typeIn K (.ref f) = some (.type "function")
  e_InvalidFile : PySem.W.exmOne K (.ref (adr (mg "InvalidFile"))) (.ref (adr (mg "RankError"))) = some true
  g_UnknownField : mg "UnknownField" = some (.ref (adr (mg "UnknownField")))
  x_UnknownField : XcC K (adr (mg "UnknownField"))
  n_UnknownField_name : PySem.W.findIn K (.ref (adr (mg "UnknownField"))) "name" = some none
  n_UnknownField_word : PySem.W.findIn K (.ref (adr (mg "UnknownField"))) "word" = some none
  h_UnknownField___init__ : ∃ f fd, Fun K "__init__" "UnknownField.__init__" s_UnknownField___init__ f fd ∧ Binds K fd ["self", "name"] [] ∧ PySem.W.findIn K (.ref (adr (mg "UnknownField"))) "__init__" = some (some (.ref f)) ∧ PySem.W.typeIn K (.ref f) = some (.type "function")
  e_UnknownField : PySem.W.exmOne K (.ref (adr (mg "UnknownField"))) (.ref (adr (mg "RankError"))) = some false
  e2_UnknownField : PySem.W.exmOne K (.ref (adr (mg "UnknownField"))) (.ref (adr (mg "NotFound"))) = some true
  g_UnknownValue : mg "UnknownValue" = some (.ref (adr (mg "UnknownValue")))
  x_UnknownValue : XcC K (adr (mg "UnknownValue"))
  n_UnknownValue_value : PySem.W.findIn K (.ref (adr (mg "UnknownValue"))) "value" = some none
  n_UnknownValue_word : PySem.W.findIn K (.ref (adr (mg "UnknownValue"))) "word" = some none
  h_UnknownValue___init__ : ∃ f fd, Fun K "__init__" "UnknownValue.__init__" s_UnknownValue___init__ f fd ∧ Binds K fd ["self", "value"] [] ∧ PySem.W.findIn K (.ref (adr (mg "UnknownValue"))) "__init__" = some (some (.ref f)) ∧ PySem.W.typeIn K (.ref f) = some (.type "function")
  e_UnknownValue : PySem.W.exmOne K (.ref (adr (mg "UnknownValue"))) (.ref (adr (mg "RankError"))) = some false
  e2_UnknownValue : PySem.W.exmOne K (.ref (adr (mg "UnknownValue"))) (.ref (adr (mg "NotFound"))) = some true
  g_UnknownEffect : mg "UnknownEffect" = some (.ref (adr (mg "UnknownEffect")))
  x_UnknownEffect : XcC K (adr (mg "UnknownEffect"))
  n_UnknownEffect_name : PySem.W.findIn K (.ref (adr (mg "UnknownEffect"))) "name" = some none
  n_UnknownEffect_word : PySem.W.findIn K (.ref (adr (mg "UnknownEffect"))) "word" = some none
  h_UnknownEffect___init__ : ∃ f fd, Fun K "__init__" "UnknownEffect.__init__" s_UnknownEffect___init__ f fd ∧ Binds K fd ["self", "name"] [] ∧ PySem.W.findIn K (.ref (adr (mg "UnknownEffect"))) "__init__" = some (some (.ref f)) ∧ PySem.W.typeIn K (.ref f) = some (.type "function")
  e_UnknownEffect : PySem.W.exmOne K (.ref (adr (mg "UnknownEffect"))) (.ref (adr (mg "RankError"))) = some false
  e2_UnknownEffect : PySem.W.exmOne K (.ref (adr (mg "UnknownEffect"))) (.ref (adr (mg "NotFound"))) = some true
  g_UnknownRule : mg "UnknownRule" = some (.ref (adr (mg "UnknownRule")))
  x_UnknownRule : XcC K (adr (mg "UnknownRule"))
  n_UnknownRule_name : PySem.W.findIn K (.ref (adr (mg "UnknownRule"))) "name" = some none
  n_UnknownRule_word : PySem.W.findIn K (.ref (adr (mg "UnknownRule"))) "word" = some none
  h_UnknownRule___init__ : ∃ f fd, Fun K "__init__" "UnknownRule.__init__" s_UnknownRule___init__ f fd ∧ Binds K fd ["self", "name"] [] ∧ PySem.W.findIn K (.ref (adr (mg "UnknownRule"))) "__init__" = some (some (.ref f)) ∧ PySem.W.typeIn K (.ref f) = some (.type "function")
  e_UnknownRule : PySem.W.exmOne K (.ref (adr (mg "UnknownRule"))) (.ref (adr (mg "RankError"))) = some false
  e2_UnknownRule : PySem.W.exmOne K (.ref (adr (mg "UnknownRule"))) (.ref (adr (mg "NotFound"))) = some true
  g_NothingLeft : mg "NothingLeft" = some (.ref (adr (mg "NothingLeft")))
  x_NothingLeft : XcC K (adr (mg "NothingLeft"))
  n_NothingLeft_word : PySem.W.findIn K (.ref (adr (mg "NothingLeft"))) "word" = some none
  h_NothingLeft___init__ : ∃ f fd, Fun K "__init__" "NothingLeft.__init__" s_NothingLeft___init__ f fd ∧ Binds K fd ["self"] [] ∧ PySem.W.findIn K (.ref (adr (mg "NothingLeft"))) "__init__" = some (some (.ref f)) ∧ PySem.W.typeIn K (.ref f) = some (.type "function")
  e_NothingLeft : PySem.W.exmOne K (.ref (adr (mg "NothingLeft"))) (.ref (adr (mg "RankError"))) = some false
  e2_NothingLeft : PySem.W.exmOne K (.ref (adr (mg "NothingLeft"))) (.ref (adr (mg "NotFound"))) = some true
  ek : ekBA K ((List.range 26).map fun k => adr (mg (eC k))) (adr (mg "NotFound")) = true
  h__law_bag : ∃ f fd, Fun K "_law_bag" "_law_bag" s__law_bag f fd ∧ Binds K fd ["_law_script"] [] ∧ mg "_law_bag" = some (.ref f)
  h__law_pull : ∃ f fd, Fun K "_law_pull" "_law_pull" s__law_pull f fd ∧ Binds K fd ["_law_bag_here", "_law_sides"] [] ∧ mg "_law_pull" = some (.ref f)
  h__law_same : ∃ f fd, Fun K "_law_same" "_law_same" s__law_same f fd ∧ Binds K fd ["_law_found", "_law_due"] [] ∧ mg "_law_same" = some (.ref f)
  h__law_early : ∃ f fd, Fun K "_law_early" "_law_early" s__law_early f fd ∧ Binds K fd ["_law_at", "_law_a", "_law_b"] [] ∧ mg "_law_early" = some (.ref f)
  h__law_middle : ∃ f fd, Fun K "_law_middle" "_law_middle" s__law_middle f fd ∧ Binds K fd ["_law_at", "_law_a", "_law_b"] [] ∧ mg "_law_middle" = some (.ref f)
  h__law_late : ∃ f fd, Fun K "_law_late" "_law_late" s__law_late f fd ∧ Binds K fd ["_law_at", "_law_a", "_law_b"] [] ∧ mg "_law_late" = some (.ref f)
  h__law_flags : ∃ f fd, Fun K "_law_flags" "_law_flags" s__law_flags f fd ∧ Binds K fd ["_law_e"] [] ∧ mg "_law_flags" = some (.ref f)
  h__law_words : ∃ f fd, Fun K "_law_words" "_law_words" s__law_words f fd ∧ Binds K fd [] [] ∧ mg "_law_words" = some (.ref f)
  h__law_raised : ∃ f fd, Fun K "_law_raised" "_law_raised" s__law_raised f fd ∧ Binds K fd ["_law_at", "_law_a", "_law_b"] [] ∧ mg "_law_raised" = some (.ref f)
section
variable {P : Program} {w : World} {K : PySem.W.Frag} {mg : Str → Option Value} {base : Heap}
theorem seqI {t1 t2 : TS} {D : Ends} {σ : L2.St} {H : Hp} (I : L2.St → Hp → Prop) (h2 : ∀ σ' H', I σ' H' → t2 D σ' H') (h1 : ∀ N : L2.St → Hp → Prop, (∀ σ' H', I σ' H' → N σ' H') → t1 { D with nx := N } σ H) : tSeq t1 t2 D σ H := h1 (t2 D) h2
theorem cut_ints (ns : List Int) (lo hi : Option Int) : ∃ ms : List Int, cutV (ns.map V.int) lo hi = ms.map V.int ∧ ms.length ≤ ns.length := by
  refine ⟨(ns.drop (HT.sIx (ns.map V.int).length 0 lo)).take (HT.sIx (ns.map V.int).length (ns.map V.int).length hi - HT.sIx (ns.map V.int).length 0 lo), ?_, ?_⟩
  · unfold cutV
    rw [List.map_take, List.map_drop]
  · rw [List.length_take, List.length_drop]
    omega
theorem at_int {ns : List Int} {i : Int} (h0 : 0 ≤ i) (h1 : i < ns.length) : ∃ c : Int, atI (ns.map V.int) i = some (.int c) := by
  have hk : i.toNat < ns.length := by omega
  have ek : i = ((i.toNat : Nat) : Int) := by omega
  have q : atI (ns.map V.int) ((i.toNat : Nat) : Int) = some (.int ns[i.toNat]) := atI_nat (by rw [List.getElem?_map, List.getElem?_eq_getElem hk] <;> rfl)
  rw [← ek] at q
  exact ⟨_, q⟩
theorem fmod_in {a n : Int} (h : 0 < n) : 0 ≤ a.fmod n ∧ a.fmod n < n := ⟨Int.fmod_nonneg_of_pos _ h, Int.fmod_lt_of_pos _ h⟩
theorem fdiv_in {a n : Int} (h : 0 < n) (h0 : 0 ≤ a) : 0 ≤ a.fdiv n := by
  rw [Int.fdiv_eq_ediv_of_nonneg _ (by omega)]
  exact Int.ediv_nonneg h0 (by omega)
theorem bag_at {H : Hp} {b l : Addr} {ns : List Int} {i g t : Int} (nl : l ≠ b) (hl : H l = some (.lst (ns.map V.int))) (h : ns.length ≤ 63) (h1 : 0 ≤ i) (h2 : 0 ≤ g) (h3 : 0 ≤ t) (h4 : t < 2147483647) : Bag (upd H b (.lst [.ref l, .int i, .int g, .int t])) b l :=
  ⟨ns, i, g, t, upd_same, by rw [upd_ne nl]; exact hl, h, h1, h2, h3, h4⟩
theorem bag_ne {b l : Addr} {ns : List Int} {i g s : Int} {H : Hp} (h : H b = some (.lst [.ref l, .int i, .int g, .int s])) (h' : H l = some (.lst (ns.map V.int))) : l ≠ b := by
  refine ne_of h' h fun e => ?_
  cases ns with
  | nil => cases e
  | cons n r => cases (List.cons.inj (HO.lst.inj e)).1
theorem ok__law_bag {f : Addr} {fd : FuncData} (T : Txt K mg) (F : Fun K "_law_bag" "_law_bag" s__law_bag f fd) : FnOk P w K mg base CX0 1 f fd ["_law_script"] (sp_bag K) := by
  refine F.ok sc__law_bag (fun vs H Q E h => ?_) (fun cdv A outer s H vs Q E hr h => ?_)
  · obtain ⟨a, ns, rfl, _⟩ := h
    rfl
  obtain ⟨a, ns, rfl, hS, hn, q⟩ := h
  refine ⟨_, (pss_one (ps_ret (pe_lst (pa_cons (pe_callTy (call_list_ofK (K := K)) (by rfl) T.m_list (by decide +kernel) (pa_cons (pe_slice (sl_listK (K := K)) (pv 0) po_none (po_some pe_int)) pa_nil)) (pa_cons pe_int (pa_cons pe_int (pa_cons pe_int pa_nil))))))), ?_⟩
  obtain ⟨ms, em, hm⟩ := cut_ints ns none (some 63)
  refine ⟨_, rfl, 63, rfl, a, _, rfl, hS, fun p hp => ⟨p, ms.map V.int, rfl, .inl (.inl (.inl (by rw [upd_same, em]))), fun l hl => ⟨by show 4 ≤ sizeLine; decide, fun b hb => ?_⟩⟩⟩
  have s1 : Same H (upd H p (.lst (cutV (ns.map V.int) none (some 63)))) := same_new hp
  have s2 := same_new (o := .lst (ms.map V.int)) hl
  have s3 := same_new (o := .lst [V.ref l, .int 0, .int 0, .int 9485]) hb
  exact q b l _ ⟨ms, 0, 0, 9485, upd_same, s3 _ _ upd_same, by omega, by omega, by omega, by omega, by omega⟩ ((s1.trans s2).free hb) ((s1.trans s2).trans s3)
theorem ok__law_pull {f : Addr} {fd : FuncData} (T : Txt K mg) (F : Fun K "_law_pull" "_law_pull" s__law_pull f fd) : FnOk P w K mg base CX0 1 f fd ["_law_bag_here", "_law_sides"] sp_pull := by
  refine F.ok sc__law_pull (fun vs H Q E h => ?_) (fun cdv A outer s H vs Q E hr h => ?_)
  · obtain ⟨b, l, n, rfl, _⟩ := h
    rfl
  obtain ⟨b, l, n, rfl, ⟨ns, i, g, t, hb, hl, hlen, hi, hg, ht, ht'⟩, hn1, hn2, q⟩ := h
  have nl : l ≠ b := bag_ne hb hl
  refine ⟨_, (pss_cons (ps_if (PW.pt (pw_and (pt_cmpR op_eq (pe_ix (ix_listK (K := K)) (pv 0) pe_int (fun _ _ => rfl)) pe_int (nomark _)) (pw_and1 (pt_cmpR op_lt (pe_ix (ix_listK (K := K)) (pv 0) pe_int (fun _ _ => rfl)) (pe_callB (call_len_seqK (K := K)) (by rfl) T.m_len PySem.boot_len (pa_cons (pe_ix (ix_listK (K := K)) (pv 0) pe_int (fun _ _ => rfl)) pa_nil)) (nomark _))))) (pss_cons (ps_set (i := 3) sc__law_pull.nd rfl (.inl rfl) (pe_ix (ix_listK (K := K)) (pe_ix (ix_listK (K := K)) (pv 0) pe_int (fun _ _ => rfl)) (pe_ix (ix_listK (K := K)) (pv 0) pe_int (fun _ _ => rfl)) (fun _ _ => rfl)))
      (pss_cons (ps_asg (pe_op op_add (pe_ix (ix_listK (K := K)) (pv 0) pe_int (fun _ _ => rfl)) pe_int) (pg_sub (pv 0) pe_int set_list))
      (pss_one (ps_if (pt_cmpR op_ge (pe_callB call_abs (by rfl) T.m_abs (by decide +kernel) (pa_cons (pv 3) pa_nil)) (pe_op op_pow pe_int pe_int) (nomark _)) (pss_one (ps_asg (pe_callB call_abs (by rfl) T.m_abs (by decide +kernel) (pa_cons (pv 3) pa_nil)) (pg_sub (pv 0) pe_int set_list))) (pss_one (ps_asg (pe_op op_modN (pe_op op_add (pe_op op_add (pe_op op_mul (pe_ix (ix_listK (K := K)) (pv 0) pe_int (fun _ _ => rfl)) pe_int) (pe_op op_mul (pe_op op_modN (pv 3) pe_int) pe_int)) pe_int) pe_int) (pg_sub (pv 0) pe_int set_list))))))) pss_nil)
      (pss_cons (ps_if (pt_cmpR op_gt (pe_ix (ix_listK (K := K)) (pv 0) pe_int (fun _ _ => rfl)) pe_int (nomark _)) (pss_cons (ps_set (i := 4) sc__law_pull.nd rfl (.inl rfl) (pe_op op_modN (pe_ix (ix_listK (K := K)) (pv 0) pe_int (fun _ _ => rfl)) (pv 1)))
      (pss_cons (ps_asg (pe_op op_fdivN (pe_ix (ix_listK (K := K)) (pv 0) pe_int (fun _ _ => rfl)) (pv 1)) (pg_sub (pv 0) pe_int set_list))
      (pss_one (ps_ret (pv 4))))) pss_nil)
      (pss_cons (ps_set (i := 2) sc__law_pull.nd rfl (.inl rfl) (pe_op op_modN (pe_op op_mul (pe_ix (ix_listK (K := K)) (pv 0) pe_int (fun _ _ => rfl)) (pe_ix (ix_listK (K := K)) (pv 0) pe_int (fun _ _ => rfl))) pe_int))
      (pss_cons (ps_asg (pe_op op_modN (pe_op op_add (pe_op op_add (pe_op op_mul (pv 2) pe_int) (pe_op op_mul (pe_ix (ix_listK (K := K)) (pv 0) pe_int (fun _ _ => rfl)) pe_int)) pe_int) pe_int) (pg_sub (pv 0) pe_int set_list))
      (pss_one (ps_ret (pe_op op_modN (pe_op op_fdivN (pe_ix (ix_listK (K := K)) (pv 0) pe_int (fun _ _ => rfl)) pe_int) (pv 1)))))))), ?_⟩
  refine seqI (fun σ' H' => ∃ (x : Option V) (i g t : Int), σ' = [some (.ref b), some (.int n), none, x, none] ∧ H' = upd H b (.lst [.ref l, .int i, .int g, .int t]) ∧ 0 ≤ i ∧ 0 ≤ g ∧ 0 ≤ t ∧ t < 2147483647) ?_ ?_
  · rintro σ' H' ⟨x, i, g, t, rfl, rfl, hi, hg, ht, ht'⟩
    have hb1 : (upd H b (.lst [.ref l, .int i, .int g, .int t])) b = some (.lst [.ref l, .int i, .int g, .int t]) := upd_same
    refine ⟨_, rfl, b, _, _, _, rfl, rfl, SqL.of hb1, rfl, _, _, rfl, rfl, _, rfl, ite2 (fun c => ?_) (fun c => ?_)⟩
    · have e := fmod_in (a := g) (n := n) (by omega)
      refine ⟨_, rfl, b, _, _, _, rfl, rfl, SqL.of hb1, rfl, _, rfl, _, _, rfl, rfl, by omega, ?_⟩
      refine ⟨_, rfl, b, _, _, _, rfl, rfl, SqL.of hb1, rfl, _, rfl, _, _, rfl, rfl, ⟨by omega, by omega⟩, ?_⟩
      refine ⟨_, rfl, b, _, 2, 2, rfl, rfl, hb1, rfl, _, rfl, ?_⟩
      rw [upd_upd]
      exact q _ _ e.1 e.2 (Bx.bagstep (bag_at nl hl hlen hi (fdiv_in (by omega) hg) ht ht'))
    · refine ⟨_, rfl, b, _, _, _, rfl, rfl, SqL.of hb1, rfl, _, rfl, b, _, _, _, rfl, rfl, SqL.of hb1, rfl, _, _, rfl, rfl, .inl ⟨by omega, by omega⟩, _, _, rfl, rfl, by omega, ?_⟩
      have e1 := fmod_in (a := t * t) (n := 2147483629) (by omega)
      refine ⟨_, rfl, _, _, rfl, rfl, .inl ⟨by omega, by omega⟩, _, rfl, b, _, _, _, rfl, rfl, SqL.of hb1, rfl, _, _, rfl, rfl, .inl ⟨by omega, by omega⟩, _, _, rfl, rfl, _, _, rfl, rfl, _, _, rfl, rfl, by omega, ?_⟩
      have e2 := fmod_in (a := (t * t).fmod 2147483629 * 16807 + t * 40692 + 12345) (n := 2147483647) (by omega)
      refine ⟨_, rfl, b, _, 3, 3, rfl, rfl, hb1, rfl, ?_⟩
      refine ⟨_, rfl, b, _, 3, _, rfl, rfl, SqL.of upd_same, rfl, _, _, rfl, rfl, ⟨by omega, by omega⟩, _, rfl, _, _, rfl, rfl, by omega, ?_⟩
      have e3 := fmod_in (a := (((t * t).fmod 2147483629 * 16807 + t * 40692 + 12345).fmod 2147483647).fdiv 64) (n := n) (by omega)
      rw [upd_upd]
      exact q _ _ e3.1 e3.2 (Bx.bagstep (bag_at nl hl hlen hi hg e2.1 e2.2))
  · intro N hN
    refine ⟨_, rfl, b, _, _, _, rfl, rfl, SqL.of hb, rfl, rfl, _, rfl, ite2 (fun c => ?_) (fun c => ?_)⟩
    · refine ⟨_, rfl, b, _, _, _, rfl, rfl, SqL.of hb, rfl, _, rfl, b, _, _, _, rfl, rfl, SqL.of hb, rfl, l, _, rfl, .inl (SqL.of hl), _, _, rfl, rfl, _, rfl, ite2 (fun c2 => ?_) (fun c2 => ?_)⟩
      · have c3 : i < ns.length := by
          have := of_decide_eq_true c2
          rw [List.length_map] at this
          exact this
        obtain ⟨v, hv⟩ := at_int hi c3
        refine ⟨_, rfl, b, _, _, _, rfl, rfl, SqL.of hb, rfl, _, rfl, b, _, _, _, rfl, rfl, SqL.of hb, rfl, l, _, i, .int v, rfl, rfl, SqL.of hl, hv, ?_⟩
        refine ⟨_, rfl, b, _, _, _, rfl, rfl, SqL.of hb, rfl, _, _, rfl, rfl, _, rfl, b, _, 1, 1, rfl, rfl, hb, rfl, ?_⟩
        refine ⟨_, rfl, v, rfl, 10, 18, rfl, rfl, ⟨by decide, by decide, by decide⟩, _, _, rfl, rfl, _, rfl, ite2 (fun c4 => ?_) (fun c4 => ?_)⟩
        · refine ⟨_, rfl, v, rfl, _, rfl, b, _, 2, 2, rfl, rfl, upd_same, rfl, ?_⟩
          refine hN _ _ ⟨_, i + 1, (if v < 0 then -v else v), t, rfl, ?_, by omega, by split <;> omega, ht, ht'⟩
          rw [upd_upd]
          rfl
        · have e1 := fmod_in (a := v) (n := 1000003) (by omega)
          have e2 := fmod_in (a := t * 48271 + v.fmod 1000003 * 911 + 7) (n := 2147483647) (by omega)
          refine ⟨_, rfl, b, _, 3, .int t, rfl, rfl, SqL.of upd_same, rfl, _, _, rfl, rfl, .inl ⟨by omega, by omega⟩, _, rfl, _, _, rfl, rfl, by omega, _, _, rfl, rfl, .inl ⟨by omega, by omega⟩, _, _, rfl, rfl, _, _, rfl, rfl, _, _, rfl, rfl, by omega, ?_⟩
          refine ⟨_, rfl, b, _, 3, 3, rfl, rfl, upd_same, rfl, ?_⟩
          refine hN _ _ ⟨_, i + 1, g, _, rfl, ?_, by omega, hg, e2.1, e2.2⟩
          rw [upd_upd]
          rfl
      · exact hN _ _ ⟨none, i, g, t, rfl, (upd_id hb).symm, hi, hg, ht, ht'⟩
    · exact hN _ _ ⟨none, i, g, t, rfl, (upd_id hb).symm, hi, hg, ht, ht'⟩
theorem ok__law_same_step {f : Addr} {fd : FuncData} {n : Nat} (T : Txt K mg) (F : Fun K "_law_same" "_law_same" s__law_same f fd) (G__law_same : FnOk P w K mg base CX0 n f fd ["_law_found", "_law_due"] (sp_same K n)) (b__law_same : Binds K fd ["_law_found", "_law_due"] []) (g__law_same : mg "_law_same" = some (.ref f)) : FnOk P w K mg base CX0 (n + 1) f fd ["_law_found", "_law_due"] (sp_same K (n + 1)) := by
  have F__law_same := F
  refine F.ok sc__law_same (fun vs H Q E h => ?_) (fun cdv A outer s H vs Q E hr h => ?_)
  · obtain ⟨x, y, d, rfl, _⟩ := h
    rfl
  obtain ⟨x, y, d, rfl, hx, hy, hd, q⟩ := h
  have hr__law_same := hr
  refine ⟨_, (pss_cons (ps_if (pt_cmpR op_isN (pv 1) pe_non (nomark _)) (pss_one (ps_ret (pe_cmpR op_isN (pv 0) pe_non (nomark _)))) pss_nil)
      (pss_cons (ps_if (PW.pt (pw_or (pt_val (pe_callB (call_isiK' (K := K)) (by rfl) T.m_isinstance (by decide +kernel) (pa_cons (pv 1) (pa_cons (pe_bltn (v := .ty "bool") (by rfl) T.m_bool (by decide +kernel) rfl) pa_nil)))) (pw_or1 (pt_val (pe_callB (call_isiK' (K := K)) (by rfl) T.m_isinstance (by decide +kernel) (pa_cons (pv 0) (pa_cons (pe_bltn (v := .ty "bool") (by rfl) T.m_bool (by decide +kernel) rfl) pa_nil))))))) (pss_one (ps_ret (pe_and (pe_callB (call_isiK' (K := K)) (by rfl) T.m_isinstance (by decide +kernel) (pa_cons (pv 1) (pa_cons (pe_bltn (v := .ty "bool") (by rfl) T.m_bool (by decide +kernel) rfl) pa_nil))) (pe_and (pe_callB (call_isiK' (K := K)) (by rfl) T.m_isinstance (by decide +kernel) (pa_cons (pv 0) (pa_cons (pe_bltn (v := .ty "bool") (by rfl) T.m_bool (by decide +kernel) rfl) pa_nil))) (pe_one (pe_cmpR op_eq (pv 0) (pv 1) (nomark _))))))) pss_nil)
      (pss_cons (ps_if (PW.pt (pw_or (pt_val (pe_callB (call_isiK' (K := K)) (by rfl) T.m_isinstance (by decide +kernel) (pa_cons (pv 1) (pa_cons (pe_bltn (v := .ty "int") (by rfl) T.m_int (by decide +kernel) rfl) pa_nil)))) (pw_or1 (pt_val (pe_callB (call_isiK' (K := K)) (by rfl) T.m_isinstance (by decide +kernel) (pa_cons (pv 1) (pa_cons (pe_bltn (v := .ty "str") (by rfl) T.m_str (by decide +kernel) rfl) pa_nil))))))) (pss_one (ps_ret (pe_and (pe_cmpR op_eq (pe_callB (call_isiK' (K := K)) (by rfl) T.m_isinstance (by decide +kernel) (pa_cons (pv 0) (pa_cons (pe_bltn (v := .ty "int") (by rfl) T.m_int (by decide +kernel) rfl) pa_nil))) (pe_callB (call_isiK' (K := K)) (by rfl) T.m_isinstance (by decide +kernel) (pa_cons (pv 1) (pa_cons (pe_bltn (v := .ty "int") (by rfl) T.m_int (by decide +kernel) rfl) pa_nil))) (nomark _)) (pe_and (pe_cmpR op_eq (pe_callB (call_isiK' (K := K)) (by rfl) T.m_isinstance (by decide +kernel) (pa_cons (pv 0) (pa_cons (pe_bltn (v := .ty "str") (by rfl) T.m_str (by decide +kernel) rfl) pa_nil))) (pe_callB (call_isiK' (K := K)) (by rfl) T.m_isinstance (by decide +kernel) (pa_cons (pv 1) (pa_cons (pe_bltn (v := .ty "str") (by rfl) T.m_str (by decide +kernel) rfl) pa_nil))) (nomark _)) (pe_one (pe_cmpR op_eq (pv 0) (pv 1) (nomark _))))))) pss_nil)
      (pss_cons (ps_if (PW.pt (pw_or (pt_cmpR op_ne (pe_callB (call_isiK' (K := K)) (by rfl) T.m_isinstance (by decide +kernel) (pa_cons (pv 1) (pa_cons (pe_bltn (v := .ty "list") (by rfl) T.m_list (by decide +kernel) rfl) pa_nil))) (pe_callB (call_isiK' (K := K)) (by rfl) T.m_isinstance (by decide +kernel) (pa_cons (pv 0) (pa_cons (pe_bltn (v := .ty "list") (by rfl) T.m_list (by decide +kernel) rfl) pa_nil))) (nomark _)) (pw_or1 (pt_cmpR op_ne (pe_callB (call_isiK' (K := K)) (by rfl) T.m_isinstance (by decide +kernel) (pa_cons (pv 1) (pa_cons (pe_bltn (v := .ty "tuple") (by rfl) T.m_tuple (by decide +kernel) rfl) pa_nil))) (pe_callB (call_isiK' (K := K)) (by rfl) T.m_isinstance (by decide +kernel) (pa_cons (pv 0) (pa_cons (pe_bltn (v := .ty "tuple") (by rfl) T.m_tuple (by decide +kernel) rfl) pa_nil))) (nomark _))))) (pss_one (ps_ret pe_bl)) pss_nil)
      (pss_one (ps_ret (pe_and (pe_cmpR op_eq (pe_callB (call_len_seqK (K := K)) (by rfl) T.m_len PySem.boot_len (pa_cons (pv 0) pa_nil)) (pe_callB (call_len_seqK (K := K)) (by rfl) T.m_len PySem.boot_len (pa_cons (pv 1) pa_nil)) (nomark _)) (pe_one (pe_callB (cr_allK (K := K) rfl) (by rfl) T.m_all (by decide +kernel) (pa_cons (pe_lc (own := [("_law_one", 2), ("_law_two", 3)]) (g := gTup K 2 (gCons (gName 2) (gCons (gName 3) gNil))) (by rfl) sc__law_same.nd (RZ.pi_zipA (by rfl) T.m_zip (pa_cons (pv 0) (pa_cons (pv 1) pa_nil))) (blkOk_by (own := [("_law_one", 2), ("_law_two", 3)]) (N := N__law_same) (sc := defScope s__law_same) (by decide +kernel)) (fun _ _ _ _ _ => pg_tup rfl (pgs_cons (pg_name (i := 2) sc__law_same.nd rfl (.inl rfl)) (pgs_cons (pg_name (i := 3) sc__law_same.nd rfl (.inl rfl)) pgs_nil))) (fun _ _ _ _ _ => pts_nil) (fun _ _ _ _ _ => (pe_call G__law_same hr__law_same (by rfl) g__law_same F__law_same.kp b__law_same .nil pass0 (pa_cons (pv 2) (pa_cons (pv 3) pa_nil))))) pa_nil)))))))))), ?_⟩
  have hxx := hx
  have hyy := hy
  have qq := q H (Same.refl _)
  rcases deep_cases d with ⟨ds, rfl⟩ | ⟨ds, rfl⟩ | ⟨ds, rfl⟩ | rfl | ⟨b, rfl⟩ | ⟨i, rfl⟩ | ⟨z, rfl⟩
  · cases hx with
    | @lst a xs _ h1 t1 =>
      cases hy with
      | @lst a2 ys _ h2 t2 =>
        have l1 := dpa_len t1
        have l2 := dpa_len t2
        refine ⟨_, rfl, rfl, _, rfl, ifF (fun z => nomatch z) ?_⟩
        refine ⟨_, rfl, _, _, _, _, _, rfl, .ty _, ty_of hyy, kit_ty kit_list_bool, ⟨_, rfl, iteF ⟨_, rfl, _, _, _, _, _, rfl, .ty _, ty_of hxx, kit_ty kit_list_bool, ⟨_, rfl, iteF ?_⟩⟩⟩⟩
        refine ⟨_, rfl, _, _, _, _, _, rfl, .ty _, ty_of hyy, kit_ty kit_list_int, ⟨_, rfl, iteF ⟨_, rfl, _, _, _, _, _, rfl, .ty _, ty_of hyy, kit_ty kit_list_str, ⟨_, rfl, iteF ?_⟩⟩⟩⟩
        refine ⟨_, rfl, _, _, _, _, _, rfl, .ty _, ty_of hyy, kit_ty kit_list_list, ⟨_, rfl, _, _, _, _, _, rfl, .ty _, ty_of hxx, kit_ty kit_list_list, ⟨rfl, _, rfl, iteF ⟨_, rfl, _, _, _, _, _, rfl, .ty _, ty_of hyy, kit_ty kit_list_tuple, ⟨_, rfl, _, _, _, _, _, rfl, .ty _, ty_of hxx, kit_ty kit_list_tuple, ⟨rfl, _, rfl, iteF ?_⟩⟩⟩⟩⟩⟩
        refine ⟨_, rfl, a, xs, rfl, .inl h1, _, rfl, a2, ys, rfl, .inl h2, rfl, _, rfl, ifT (by rw [l1, l2]) ?_⟩
        refine ⟨_, rfl, _, rfl, a, a2, xs, ys, rfl, .inl ⟨h1, h2, fun D hD => ?_⟩⟩
        refine lc_val (n := ds.length) (walk_zip (xs := xs) (ys := ys) (by rw [l1, l2]; simp)) hD (fun _ => .bl true) (fun H' s' => ⟨s'.seq h1, s'.seq h2⟩) (Nat.lt_trans (deep_list hd).1 (by decide)) (fun i x H1 H' Qe Z hi sm hq hy => ?_) (fun H1 sm hL => ?_)
        · obtain ⟨p, u, v, rfl, np, rfl, e1, e2⟩ := hy
          obtain ⟨d1, g1, k1⟩ := dpa_get t1 e1
          obtain ⟨d2, g2, k2⟩ := dpa_get t2 e2
          have ed : d1 = d2 := Option.some.inj (g1.symm.trans g2)
          subst ed
          have s1 := same_new (o := .tup [u, v]) np
          refine ⟨p, [u, v], rfl, .inl (.inl upd_same), rfl, u, [v], rfl, v, [], rfl, rfl, rfl, yes ?_⟩
          exact ⟨_, rfl, _, rfl, u, v, d1, rfl, dp_mono (sm.trans s1) k1, dp_mono (sm.trans s1) k2, deep_get (deep_list hd).2 g1, fun H4 s4 => hq H4 (s1.trans s4)⟩
        · exact ⟨D, List.replicate ds.length true, rfl, .inl (.inl (by rw [hL, all_true.1])), by rw [all_true.2]; exact q H1 sm⟩
  · cases hx with
    | @tup a xs _ h1 t1 =>
      cases hy with
      | @tup a2 ys _ h2 t2 =>
        have l1 := dpa_len t1
        have l2 := dpa_len t2
        refine ⟨_, rfl, rfl, _, rfl, ifF (fun z => nomatch z) ?_⟩
        refine ⟨_, rfl, _, _, _, _, _, rfl, .ty _, ty_of hyy, kit_ty kit_tuple_bool, ⟨_, rfl, iteF ⟨_, rfl, _, _, _, _, _, rfl, .ty _, ty_of hxx, kit_ty kit_tuple_bool, ⟨_, rfl, iteF ?_⟩⟩⟩⟩
        refine ⟨_, rfl, _, _, _, _, _, rfl, .ty _, ty_of hyy, kit_ty kit_tuple_int, ⟨_, rfl, iteF ⟨_, rfl, _, _, _, _, _, rfl, .ty _, ty_of hyy, kit_ty kit_tuple_str, ⟨_, rfl, iteF ?_⟩⟩⟩⟩
        refine ⟨_, rfl, _, _, _, _, _, rfl, .ty _, ty_of hyy, kit_ty kit_tuple_list, ⟨_, rfl, _, _, _, _, _, rfl, .ty _, ty_of hxx, kit_ty kit_tuple_list, ⟨rfl, _, rfl, iteF ⟨_, rfl, _, _, _, _, _, rfl, .ty _, ty_of hyy, kit_ty kit_tuple_tuple, ⟨_, rfl, _, _, _, _, _, rfl, .ty _, ty_of hxx, kit_ty kit_tuple_tuple, ⟨rfl, _, rfl, iteF ?_⟩⟩⟩⟩⟩⟩
        refine ⟨_, rfl, a, xs, rfl, .inr h1, _, rfl, a2, ys, rfl, .inr h2, rfl, _, rfl, ifT (by rw [l1, l2]) ?_⟩
        refine ⟨_, rfl, _, rfl, a, a2, xs, ys, rfl, .inr ⟨h1, h2, fun D hD => ?_⟩⟩
        refine lc_val (n := ds.length) (walk_zipT (xs := xs) (ys := ys) l1 l2) hD (fun _ => .bl true) (fun H' s' => ⟨Same.seqT s' h1, Same.seqT s' h2⟩) (Nat.lt_trans (deep_tuple hd).1 (by decide)) (fun i x H1 H' Qe Z hi sm hq hy => ?_) (fun H1 sm hL => ?_)
        · obtain ⟨p, u, v, rfl, np, rfl, e1, e2⟩ := hy
          obtain ⟨d1, g1, k1⟩ := dpa_get t1 e1
          obtain ⟨d2, g2, k2⟩ := dpa_get t2 e2
          have ed : d1 = d2 := Option.some.inj (g1.symm.trans g2)
          subst ed
          have s1 := same_new (o := .tup [u, v]) np
          refine ⟨p, [u, v], rfl, .inl (.inl upd_same), rfl, u, [v], rfl, v, [], rfl, rfl, rfl, yes ?_⟩
          exact ⟨_, rfl, _, rfl, u, v, d1, rfl, dp_mono (sm.trans s1) k1, dp_mono (sm.trans s1) k2, deep_get (deep_tuple hd).2 g1, fun H4 s4 => hq H4 (s1.trans s4)⟩
        · exact ⟨D, List.replicate ds.length true, rfl, .inl (.inl (by rw [hL, all_true.1])), by rw [all_true.2]; exact q H1 sm⟩
  · cases hx
  · cases hx
    cases hy
    exact ⟨_, rfl, rfl, _, rfl, ifT rfl ⟨_, rfl, rfl, qq⟩⟩
  · cases hx
    cases hy
    refine ⟨_, rfl, rfl, _, rfl, ifF (fun z => nomatch z) ?_⟩
    refine ⟨_, rfl, _, _, _, _, _, rfl, .ty _, ty_of hyy, kit_ty kit_bool_bool, ⟨_, rfl, iteT ?_⟩⟩
    refine iteT ⟨_, rfl, _, _, _, _, _, rfl, .ty _, ty_of hyy, kit_ty kit_bool_bool, ⟨_, rfl, iteT ⟨_, rfl, _, _, _, _, _, rfl, .ty _, ty_of hxx, kit_ty kit_bool_bool, ⟨_, rfl, iteT ⟨_, rfl, _, rfl, rfl, ?_⟩⟩⟩⟩⟩
    rw [decide_eq_true rfl]
    exact qq
  · cases hx
    cases hy
    refine ⟨_, rfl, rfl, _, rfl, ifF (fun z => nomatch z) ?_⟩
    refine ⟨_, rfl, _, _, _, _, _, rfl, .ty _, ty_of hyy, kit_ty kit_int_bool, ⟨_, rfl, iteF ⟨_, rfl, _, _, _, _, _, rfl, .ty _, ty_of hxx, kit_ty kit_int_bool, ⟨_, rfl, iteF ?_⟩⟩⟩⟩
    refine ⟨_, rfl, _, _, _, _, _, rfl, .ty _, ty_of hyy, kit_ty kit_int_int, ⟨_, rfl, iteT ?_⟩⟩
    refine iteT ⟨_, rfl, _, _, _, _, _, rfl, .ty _, ty_of hxx, kit_ty kit_int_int, ⟨_, rfl, _, _, _, _, _, rfl, .ty _, ty_of hyy, kit_ty kit_int_int, ⟨rfl, _, rfl, ifT rfl ⟨_, rfl, _, _, _, _, _, rfl, .ty _, ty_of hxx, kit_ty kit_int_str, ⟨_, rfl, _, _, _, _, _, rfl, .ty _, ty_of hyy, kit_ty kit_int_str, ⟨rfl, _, rfl, ifT rfl ⟨_, rfl, _, rfl, rfl, ?_⟩⟩⟩⟩⟩⟩⟩
    rw [decide_eq_true rfl]
    exact qq
  · cases hx
    cases hy
    refine ⟨_, rfl, rfl, _, rfl, ifF (fun z => nomatch z) ?_⟩
    refine ⟨_, rfl, _, _, _, _, _, rfl, .ty _, ty_of hyy, kit_ty kit_str_bool, ⟨_, rfl, iteF ⟨_, rfl, _, _, _, _, _, rfl, .ty _, ty_of hxx, kit_ty kit_str_bool, ⟨_, rfl, iteF ?_⟩⟩⟩⟩
    refine ⟨_, rfl, _, _, _, _, _, rfl, .ty _, ty_of hyy, kit_ty kit_str_int, ⟨_, rfl, iteF ⟨_, rfl, _, _, _, _, _, rfl, .ty _, ty_of hyy, kit_ty kit_str_str, ⟨_, rfl, ?_⟩⟩⟩⟩
    refine iteT ⟨_, rfl, _, _, _, _, _, rfl, .ty _, ty_of hxx, kit_ty kit_str_int, ⟨_, rfl, _, _, _, _, _, rfl, .ty _, ty_of hyy, kit_ty kit_str_int, ⟨rfl, _, rfl, ifT rfl ⟨_, rfl, _, _, _, _, _, rfl, .ty _, ty_of hxx, kit_ty kit_str_str, ⟨_, rfl, _, _, _, _, _, rfl, .ty _, ty_of hyy, kit_ty kit_str_str, ⟨rfl, _, rfl, ifT rfl ⟨_, rfl, _, rfl, rfl, ?_⟩⟩⟩⟩⟩⟩⟩
    rw [decide_eq_true rfl]
    exact qq
theorem ok__law_same (T : Txt K mg) {f : Addr} {fd : FuncData} (F : Fun K "_law_same" "_law_same" s__law_same f fd) (b : Binds K fd ["_law_found", "_law_due"] []) (g : mg "_law_same" = some (.ref f)) : ∀ n, FnOk P w K mg base CX0 n f fd ["_law_found", "_law_due"] (sp_same K n)
  | 0 => by
    have no : ∀ vs H Q E, ¬ sp_same K 0 vs H Q E := fun vs H Q E h => by
      obtain ⟨x, y, d, _, _, _, hd, _⟩ := h
      rw [deep_zero] at hd
      cases hd
    exact ⟨fun vs H Q E h => absurd h (no vs H Q E), fun A outer s H args us vs Q E _ _ _ _ h => absurd h (no vs H Q E)⟩
  | n + 1 => ok__law_same_step T F (ok__law_same T F b g n) b g
end
end Hr

set_option Elab.async false
set_option linter.all false
set_option maxRecDepth 100000
set_option maxHeartbeats 4000000
namespace Hr
open PySem PySem.Spec PyProof.Rows L2
section
variable {P : Program} {w : World} {K : PySem.W.Frag} {mg : Str → Option Value} {base : Heap}
/-! ### errors with one field -/
def sp_xi (C : Addr) (n word : Str) : Sp := fun vs H Q _ => ∃ (a : Addr) (v : V), vs = [.ref a, v] ∧ H a = some (exo a C none) ∧ ∀ d H', d ≠ a → H d = none → H' a = some (exo a C (some d)) → H' d = some (exd d [("word", .str word), (n, v)]) → (∀ b o, b ≠ a → H b = some o → H' b = some o) → Q .non H'
theorem xi_end {C a dx : Addr} {n word : Str} {v : V} {H : Hp} {Q : VK} (ne : dx ≠ a) (hn : H dx = none) (q : ∀ d H', d ≠ a → H d = none → H' a = some (exo a C (some d)) → H' d = some (exd d [("word", .str word), (n, v)]) → (∀ b o, b ≠ a → H b = some o → H' b = some o) → Q .non H') :
    Q .non (upd (upd (upd H dx (exd dx [(n, v)])) a (exo a C (some dx))) dx (exd dx [("word", .str word), (n, v)])) := by
  refine q dx _ ne hn ?_ upd_same fun b o nb e => ?_
  · rw [upd_ne ne.symm, upd_same]
  · rw [upd_ne (ne_of_none e hn), upd_ne nb, upd_ne (ne_of_none e hn)]
    exact e
theorem xmk_on {C : Addr} {n word : Str} {v : V} {H1 : Hp} {E : XK} (q : Rsd C [("word", .str word), (n, v)] H1 E) : ([v] : List V).length ≤ 1000 ∧ ∀ a, H1 a = none → sp_xi C n word (.ref a :: [v]) (upd H1 a (exo a C none))
    (fun v H2 => v = .non ∧ ∃ (d : Addr) (fs : List (Str × V)), H2 a = some (exo a C (some d)) ∧ H2 d = some (exd d fs) ∧ H1 d = none ∧ E (.ref C) (some d) (upd (del H2 a) d (.xd fs))) (fun _ _ _ => False) := by
  refine ⟨by show 1 ≤ 1000; decide, fun a na => ⟨a, v, rfl, upd_same, fun d H' nd hd e1 e2 k => ?_⟩⟩
  rw [upd_ne nd] at hd
  refine ⟨rfl, d, _, e1, e2, hd, q d _ (fun b o e => ?_) hd upd_same⟩
  have nb := ne_of_none e na
  rw [upd_ne (ne_of_none e hd), del_ne nb]
  exact k b o nb (by rw [upd_ne nb]; exact e)
/-! ### errors with no field, and with two -/
def sp_xi0 (C : Addr) (word : Str) : Sp := fun vs H Q _ => ∃ (a : Addr), vs = [.ref a] ∧ H a = some (exo a C none) ∧ ∀ d H', d ≠ a → H d = none → H' a = some (exo a C (some d)) → H' d = some (exd d [("word", .str word)]) → (∀ b o, b ≠ a → H b = some o → H' b = some o) → Q .non H'
def sp_xi2 (C : Addr) (n m word : Str) : Sp := fun vs H Q _ => ∃ (a : Addr) (v u : V), vs = [.ref a, v, u] ∧ H a = some (exo a C none) ∧ ∀ d H', d ≠ a → H d = none → H' a = some (exo a C (some d)) → H' d = some (exd d [("word", .str word), (m, u), (n, v)]) → (∀ b o, b ≠ a → H b = some o → H' b = some o) → Q .non H'
theorem xmk_end {C a d : Addr} {fs : List (Str × V)} {H1 H' : Hp} {E : XK} (q : Rsd C fs H1 E) (na : H1 a = none) (hd : H1 d = none) (k : ∀ b o, b ≠ a → (upd H1 a (exo a C none)) b = some o → H' b = some o) : E (.ref C) (some d) (upd (del H' a) d (.xd fs)) := by
  refine q d _ (fun b o e => ?_) hd upd_same
  have nb := ne_of_none e na
  rw [upd_ne (ne_of_none e hd), del_ne nb]
  exact k b o nb (by rw [upd_ne nb]; exact e)
theorem xmk_on0 {C : Addr} {word : Str} {H1 : Hp} {E : XK} (q : Rsd C [("word", .str word)] H1 E) : ([] : List V).length ≤ 1000 ∧ ∀ a, H1 a = none → sp_xi0 C word [.ref a] (upd H1 a (exo a C none))
    (fun v H2 => v = .non ∧ ∃ (d : Addr) (fs : List (Str × V)), H2 a = some (exo a C (some d)) ∧ H2 d = some (exd d fs) ∧ H1 d = none ∧ E (.ref C) (some d) (upd (del H2 a) d (.xd fs))) (fun _ _ _ => False) := by
  refine ⟨Nat.zero_le _, fun a na => ⟨a, rfl, upd_same, fun d H' nd hd e1 e2 k => ?_⟩⟩
  rw [upd_ne nd] at hd
  exact ⟨rfl, d, _, e1, e2, hd, xmk_end q na hd k⟩
theorem xmk_on2 {C : Addr} {n m word : Str} {v u : V} {H1 : Hp} {E : XK} (q : Rsd C [("word", .str word), (m, u), (n, v)] H1 E) : ([v, u] : List V).length ≤ 1000 ∧ ∀ a, H1 a = none → sp_xi2 C n m word (.ref a :: [v, u]) (upd H1 a (exo a C none))
    (fun v H2 => v = .non ∧ ∃ (d : Addr) (fs : List (Str × V)), H2 a = some (exo a C (some d)) ∧ H2 d = some (exd d fs) ∧ H1 d = none ∧ E (.ref C) (some d) (upd (del H2 a) d (.xd fs))) (fun _ _ _ => False) := by
  refine ⟨by show 2 ≤ 1000; decide, fun a na => ⟨a, v, u, rfl, upd_same, fun d H' nd hd e1 e2 k => ?_⟩⟩
  rw [upd_ne nd] at hd
  exact ⟨rfl, d, _, e1, e2, hd, xmk_end q na hd k⟩
theorem ok_InvalidName___init__ {f : Addr} {fd : FuncData} (T : Txt K mg) (F : Fun K "__init__" "InvalidName.__init__" s_InvalidName___init__ f fd) : FnOk P w K mg base CX0 1 f fd ["self", "name"] (sp_xi (adr (mg "InvalidName")) "name" "invalidname") := by
  refine F.ok sc_InvalidName___init__ (fun vs H Q E h => ?_) (fun cdv A outer s H vs Q E hr h => ?_)
  · obtain ⟨a, v, rfl, _⟩ := h
    rfl
  obtain ⟨a, v, rfl, ha, q⟩ := h
  refine ⟨_, (pss_cons (ps_xst (pv 0) (pv 1) rfl)
      (pss_one (ps_xst (pv 0) pe_str rfl))), ?_⟩
  refine ⟨_, rfl, _, rfl, a, adr (mg "InvalidName"), rfl, T.x_InvalidName, T.n_InvalidName_name, .inl ⟨ha, fun dx hn ne => ?_⟩⟩
  exact ⟨_, rfl, a, adr (mg "InvalidName"), rfl, T.x_InvalidName, T.n_InvalidName_word, .inr ⟨dx, [("name", v)], upd_same, by rw [upd_ne ne]; exact upd_same, by show 1 ≤ 900; decide, xi_end ne hn q⟩⟩
theorem ok_InvalidValue___init__ {f : Addr} {fd : FuncData} (T : Txt K mg) (F : Fun K "__init__" "InvalidValue.__init__" s_InvalidValue___init__ f fd) : FnOk P w K mg base CX0 1 f fd ["self", "value"] (sp_xi (adr (mg "InvalidValue")) "value" "invalidvalue") := by
  refine F.ok sc_InvalidValue___init__ (fun vs H Q E h => ?_) (fun cdv A outer s H vs Q E hr h => ?_)
  · obtain ⟨a, v, rfl, _⟩ := h
    rfl
  obtain ⟨a, v, rfl, ha, q⟩ := h
  refine ⟨_, (pss_cons (ps_xst (pv 0) (pv 1) rfl)
      (pss_one (ps_xst (pv 0) pe_str rfl))), ?_⟩
  refine ⟨_, rfl, _, rfl, a, adr (mg "InvalidValue"), rfl, T.x_InvalidValue, T.n_InvalidValue_value, .inl ⟨ha, fun dx hn ne => ?_⟩⟩
  exact ⟨_, rfl, a, adr (mg "InvalidValue"), rfl, T.x_InvalidValue, T.n_InvalidValue_word, .inr ⟨dx, [("value", v)], upd_same, by rw [upd_ne ne]; exact upd_same, by show 1 ≤ 900; decide, xi_end ne hn q⟩⟩
theorem ok_DuplicateName___init__ {f : Addr} {fd : FuncData} (T : Txt K mg) (F : Fun K "__init__" "DuplicateName.__init__" s_DuplicateName___init__ f fd) : FnOk P w K mg base CX0 1 f fd ["self", "name"] (sp_xi (adr (mg "DuplicateName")) "name" "duplicatename") := by
  refine F.ok sc_DuplicateName___init__ (fun vs H Q E h => ?_) (fun cdv A outer s H vs Q E hr h => ?_)
  · obtain ⟨a, v, rfl, _⟩ := h
    rfl
  obtain ⟨a, v, rfl, ha, q⟩ := h
  refine ⟨_, (pss_cons (ps_xst (pv 0) (pv 1) rfl)
      (pss_one (ps_xst (pv 0) pe_str rfl))), ?_⟩
  refine ⟨_, rfl, _, rfl, a, adr (mg "DuplicateName"), rfl, T.x_DuplicateName, T.n_DuplicateName_name, .inl ⟨ha, fun dx hn ne => ?_⟩⟩
  exact ⟨_, rfl, a, adr (mg "DuplicateName"), rfl, T.x_DuplicateName, T.n_DuplicateName_word, .inr ⟨dx, [("name", v)], upd_same, by rw [upd_ne ne]; exact upd_same, by show 1 ≤ 900; decide, xi_end ne hn q⟩⟩
theorem ok_LimitReached___init__ {f : Addr} {fd : FuncData} (T : Txt K mg) (F : Fun K "__init__" "LimitReached.__init__" s_LimitReached___init__ f fd) : FnOk P w K mg base CX0 1 f fd ["self", "limit"] (sp_xi (adr (mg "LimitReached")) "limit" "limitreached") := by
  refine F.ok sc_LimitReached___init__ (fun vs H Q E h => ?_) (fun cdv A outer s H vs Q E hr h => ?_)
  · obtain ⟨a, v, rfl, _⟩ := h
    rfl
  obtain ⟨a, v, rfl, ha, q⟩ := h
  refine ⟨_, (pss_cons (ps_xst (pv 0) (pv 1) rfl)
      (pss_one (ps_xst (pv 0) pe_str rfl))), ?_⟩
  refine ⟨_, rfl, _, rfl, a, adr (mg "LimitReached"), rfl, T.x_LimitReached, T.n_LimitReached_limit, .inl ⟨ha, fun dx hn ne => ?_⟩⟩
  exact ⟨_, rfl, a, adr (mg "LimitReached"), rfl, T.x_LimitReached, T.n_LimitReached_word, .inr ⟨dx, [("limit", v)], upd_same, by rw [upd_ne ne]; exact upd_same, by show 1 ≤ 900; decide, xi_end ne hn q⟩⟩
theorem ok_InvalidRequest___init__ {f : Addr} {fd : FuncData} (T : Txt K mg) (F : Fun K "__init__" "InvalidRequest.__init__" s_InvalidRequest___init__ f fd) : FnOk P w K mg base CX0 1 f fd ["self", "position"] (sp_xi (adr (mg "InvalidRequest")) "position" "invalidrequest") := by
  refine F.ok sc_InvalidRequest___init__ (fun vs H Q E h => ?_) (fun cdv A outer s H vs Q E hr h => ?_)
  · obtain ⟨a, v, rfl, _⟩ := h
    rfl
  obtain ⟨a, v, rfl, ha, q⟩ := h
  refine ⟨_, (pss_cons (ps_xst (pv 0) (pv 1) rfl)
      (pss_one (ps_xst (pv 0) pe_str rfl))), ?_⟩
  refine ⟨_, rfl, _, rfl, a, adr (mg "InvalidRequest"), rfl, T.x_InvalidRequest, T.n_InvalidRequest_position, .inl ⟨ha, fun dx hn ne => ?_⟩⟩
  exact ⟨_, rfl, a, adr (mg "InvalidRequest"), rfl, T.x_InvalidRequest, T.n_InvalidRequest_word, .inr ⟨dx, [("position", v)], upd_same, by rw [upd_ne ne]; exact upd_same, by show 1 ≤ 900; decide, xi_end ne hn q⟩⟩
theorem ok_InvalidNumber___init__ {f : Addr} {fd : FuncData} (T : Txt K mg) (F : Fun K "__init__" "InvalidNumber.__init__" s_InvalidNumber___init__ f fd) : FnOk P w K mg base CX0 1 f fd ["self", "number"] (sp_xi (adr (mg "InvalidNumber")) "number" "invalidnumber") := by
  refine F.ok sc_InvalidNumber___init__ (fun vs H Q E h => ?_) (fun cdv A outer s H vs Q E hr h => ?_)
  · obtain ⟨a, v, rfl, _⟩ := h
    rfl
  obtain ⟨a, v, rfl, ha, q⟩ := h
  refine ⟨_, (pss_cons (ps_xst (pv 0) (pv 1) rfl)
      (pss_one (ps_xst (pv 0) pe_str rfl))), ?_⟩
  refine ⟨_, rfl, _, rfl, a, adr (mg "InvalidNumber"), rfl, T.x_InvalidNumber, T.n_InvalidNumber_number, .inl ⟨ha, fun dx hn ne => ?_⟩⟩
  exact ⟨_, rfl, a, adr (mg "InvalidNumber"), rfl, T.x_InvalidNumber, T.n_InvalidNumber_word, .inr ⟨dx, [("number", v)], upd_same, by rw [upd_ne ne]; exact upd_same, by show 1 ≤ 900; decide, xi_end ne hn q⟩⟩
theorem ok_InvalidCondition___init__ {f : Addr} {fd : FuncData} (T : Txt K mg) (F : Fun K "__init__" "InvalidCondition.__init__" s_InvalidCondition___init__ f fd) : FnOk P w K mg base CX0 1 f fd ["self", "position"] (sp_xi (adr (mg "InvalidCondition")) "position" "invalidcondition") := by
  refine F.ok sc_InvalidCondition___init__ (fun vs H Q E h => ?_) (fun cdv A outer s H vs Q E hr h => ?_)
  · obtain ⟨a, v, rfl, _⟩ := h
    rfl
  obtain ⟨a, v, rfl, ha, q⟩ := h
  refine ⟨_, (pss_cons (ps_xst (pv 0) (pv 1) rfl)
      (pss_one (ps_xst (pv 0) pe_str rfl))), ?_⟩
  refine ⟨_, rfl, _, rfl, a, adr (mg "InvalidCondition"), rfl, T.x_InvalidCondition, T.n_InvalidCondition_position, .inl ⟨ha, fun dx hn ne => ?_⟩⟩
  exact ⟨_, rfl, a, adr (mg "InvalidCondition"), rfl, T.x_InvalidCondition, T.n_InvalidCondition_word, .inr ⟨dx, [("position", v)], upd_same, by rw [upd_ne ne]; exact upd_same, by show 1 ≤ 900; decide, xi_end ne hn q⟩⟩
theorem ok_InvalidPair___init__ {f : Addr} {fd : FuncData} (T : Txt K mg) (F : Fun K "__init__" "InvalidPair.__init__" s_InvalidPair___init__ f fd) : FnOk P w K mg base CX0 1 f fd ["self", "place"] (sp_xi (adr (mg "InvalidPair")) "place" "invalidpair") := by
  refine F.ok sc_InvalidPair___init__ (fun vs H Q E h => ?_) (fun cdv A outer s H vs Q E hr h => ?_)
  · obtain ⟨a, v, rfl, _⟩ := h
    rfl
  obtain ⟨a, v, rfl, ha, q⟩ := h
  refine ⟨_, (pss_cons (ps_xst (pv 0) (pv 1) rfl)
      (pss_one (ps_xst (pv 0) pe_str rfl))), ?_⟩
  refine ⟨_, rfl, _, rfl, a, adr (mg "InvalidPair"), rfl, T.x_InvalidPair, T.n_InvalidPair_place, .inl ⟨ha, fun dx hn ne => ?_⟩⟩
  exact ⟨_, rfl, a, adr (mg "InvalidPair"), rfl, T.x_InvalidPair, T.n_InvalidPair_word, .inr ⟨dx, [("place", v)], upd_same, by rw [upd_ne ne]; exact upd_same, by show 1 ≤ 900; decide, xi_end ne hn q⟩⟩
theorem ok_InvalidReport___init__ {f : Addr} {fd : FuncData} (T : Txt K mg) (F : Fun K "__init__" "InvalidReport.__init__" s_InvalidReport___init__ f fd) : FnOk P w K mg base CX0 1 f fd ["self", "place"] (sp_xi (adr (mg "InvalidReport")) "place" "invalidreport") := by
  refine F.ok sc_InvalidReport___init__ (fun vs H Q E h => ?_) (fun cdv A outer s H vs Q E hr h => ?_)
  · obtain ⟨a, v, rfl, _⟩ := h
    rfl
  obtain ⟨a, v, rfl, ha, q⟩ := h
  refine ⟨_, (pss_cons (ps_xst (pv 0) (pv 1) rfl)
      (pss_one (ps_xst (pv 0) pe_str rfl))), ?_⟩
  refine ⟨_, rfl, _, rfl, a, adr (mg "InvalidReport"), rfl, T.x_InvalidReport, T.n_InvalidReport_place, .inl ⟨ha, fun dx hn ne => ?_⟩⟩
  exact ⟨_, rfl, a, adr (mg "InvalidReport"), rfl, T.x_InvalidReport, T.n_InvalidReport_word, .inr ⟨dx, [("place", v)], upd_same, by rw [upd_ne ne]; exact upd_same, by show 1 ≤ 900; decide, xi_end ne hn q⟩⟩
theorem ok_InvalidSlot___init__ {f : Addr} {fd : FuncData} (T : Txt K mg) (F : Fun K "__init__" "InvalidSlot.__init__" s_InvalidSlot___init__ f fd) : FnOk P w K mg base CX0 1 f fd ["self", "slot"] (sp_xi (adr (mg "InvalidSlot")) "slot" "invalidslot") := by
  refine F.ok sc_InvalidSlot___init__ (fun vs H Q E h => ?_) (fun cdv A outer s H vs Q E hr h => ?_)
  · obtain ⟨a, v, rfl, _⟩ := h
    rfl
  obtain ⟨a, v, rfl, ha, q⟩ := h
  refine ⟨_, (pss_cons (ps_xst (pv 0) (pv 1) rfl)
      (pss_one (ps_xst (pv 0) pe_str rfl))), ?_⟩
  refine ⟨_, rfl, _, rfl, a, adr (mg "InvalidSlot"), rfl, T.x_InvalidSlot, T.n_InvalidSlot_slot, .inl ⟨ha, fun dx hn ne => ?_⟩⟩
  exact ⟨_, rfl, a, adr (mg "InvalidSlot"), rfl, T.x_InvalidSlot, T.n_InvalidSlot_word, .inr ⟨dx, [("slot", v)], upd_same, by rw [upd_ne ne]; exact upd_same, by show 1 ≤ 900; decide, xi_end ne hn q⟩⟩
theorem ok_NotADeadlock___init__ {f : Addr} {fd : FuncData} (T : Txt K mg) (F : Fun K "__init__" "NotADeadlock.__init__" s_NotADeadlock___init__ f fd) : FnOk P w K mg base CX0 1 f fd ["self"] (sp_xi0 (adr (mg "NotADeadlock")) "notadeadlock") := by
  refine F.ok sc_NotADeadlock___init__ (fun vs H Q E h => ?_) (fun cdv A outer s H vs Q E hr h => ?_)
  · obtain ⟨a, rfl, _⟩ := h
    rfl
  obtain ⟨a, rfl, ha, q⟩ := h
  refine ⟨_, (pss_one (ps_xst (pv 0) pe_str rfl)), ?_⟩
  refine ⟨_, rfl, a, adr (mg "NotADeadlock"), rfl, T.x_NotADeadlock, T.n_NotADeadlock_word, .inl ⟨ha, fun dx hn ne => ?_⟩⟩
  exact q dx _ ne hn upd_same (by rw [upd_ne ne]; exact upd_same) fun b o nb e => by
    rw [upd_ne nb, upd_ne (ne_of_none e hn)]
    exact e
theorem ok_InvalidOutcomes___init__ {f : Addr} {fd : FuncData} (T : Txt K mg) (F : Fun K "__init__" "InvalidOutcomes.__init__" s_InvalidOutcomes___init__ f fd) : FnOk P w K mg base CX0 1 f fd ["self"] (sp_xi0 (adr (mg "InvalidOutcomes")) "invalidoutcomes") := by
  refine F.ok sc_InvalidOutcomes___init__ (fun vs H Q E h => ?_) (fun cdv A outer s H vs Q E hr h => ?_)
  · obtain ⟨a, rfl, _⟩ := h
    rfl
  obtain ⟨a, rfl, ha, q⟩ := h
  refine ⟨_, (pss_one (ps_xst (pv 0) pe_str rfl)), ?_⟩
  refine ⟨_, rfl, a, adr (mg "InvalidOutcomes"), rfl, T.x_InvalidOutcomes, T.n_InvalidOutcomes_word, .inl ⟨ha, fun dx hn ne => ?_⟩⟩
  exact q dx _ ne hn upd_same (by rw [upd_ne ne]; exact upd_same) fun b o nb e => by
    rw [upd_ne nb, upd_ne (ne_of_none e hn)]
    exact e
theorem ok_NothingMatches___init__ {f : Addr} {fd : FuncData} (T : Txt K mg) (F : Fun K "__init__" "NothingMatches.__init__" s_NothingMatches___init__ f fd) : FnOk P w K mg base CX0 1 f fd ["self", "number"] (sp_xi (adr (mg "NothingMatches")) "number" "nothingmatches") := by
  refine F.ok sc_NothingMatches___init__ (fun vs H Q E h => ?_) (fun cdv A outer s H vs Q E hr h => ?_)
  · obtain ⟨a, v, rfl, _⟩ := h
    rfl
  obtain ⟨a, v, rfl, ha, q⟩ := h
  refine ⟨_, (pss_cons (ps_xst (pv 0) (pv 1) rfl)
      (pss_one (ps_xst (pv 0) pe_str rfl))), ?_⟩
  refine ⟨_, rfl, _, rfl, a, adr (mg "NothingMatches"), rfl, T.x_NothingMatches, T.n_NothingMatches_number, .inl ⟨ha, fun dx hn ne => ?_⟩⟩
  exact ⟨_, rfl, a, adr (mg "NothingMatches"), rfl, T.x_NothingMatches, T.n_NothingMatches_word, .inr ⟨dx, [("number", v)], upd_same, by rw [upd_ne ne]; exact upd_same, by show 1 ≤ 900; decide, xi_end ne hn q⟩⟩
theorem ok_SameRule___init__ {f : Addr} {fd : FuncData} (T : Txt K mg) (F : Fun K "__init__" "SameRule.__init__" s_SameRule___init__ f fd) : FnOk P w K mg base CX0 1 f fd ["self", "name"] (sp_xi (adr (mg "SameRule")) "name" "samerule") := by
  refine F.ok sc_SameRule___init__ (fun vs H Q E h => ?_) (fun cdv A outer s H vs Q E hr h => ?_)
  · obtain ⟨a, v, rfl, _⟩ := h
    rfl
  obtain ⟨a, v, rfl, ha, q⟩ := h
  refine ⟨_, (pss_cons (ps_xst (pv 0) (pv 1) rfl)
      (pss_one (ps_xst (pv 0) pe_str rfl))), ?_⟩
  refine ⟨_, rfl, _, rfl, a, adr (mg "SameRule"), rfl, T.x_SameRule, T.n_SameRule_name, .inl ⟨ha, fun dx hn ne => ?_⟩⟩
  exact ⟨_, rfl, a, adr (mg "SameRule"), rfl, T.x_SameRule, T.n_SameRule_word, .inr ⟨dx, [("name", v)], upd_same, by rw [upd_ne ne]; exact upd_same, by show 1 ≤ 900; decide, xi_end ne hn q⟩⟩
theorem ok_KnownOrder___init__ {f : Addr} {fd : FuncData} (T : Txt K mg) (F : Fun K "__init__" "KnownOrder.__init__" s_KnownOrder___init__ f fd) : FnOk P w K mg base CX0 1 f fd ["self", "name", "other"] (sp_xi2 (adr (mg "KnownOrder")) "name" "other" "knownorder") := by
  refine F.ok sc_KnownOrder___init__ (fun vs H Q E h => ?_) (fun cdv A outer s H vs Q E hr h => ?_)
  · obtain ⟨a, v, u, rfl, _⟩ := h
    rfl
  obtain ⟨a, v, u, rfl, ha, q⟩ := h
  refine ⟨_, (pss_cons (ps_xst (pv 0) (pv 1) rfl)
      (pss_cons (ps_xst (pv 0) (pv 2) rfl)
      (pss_one (ps_xst (pv 0) pe_str rfl)))), ?_⟩
  refine ⟨_, rfl, _, rfl, a, adr (mg "KnownOrder"), rfl, T.x_KnownOrder, T.n_KnownOrder_name, .inl ⟨ha, fun dx hn ne => ?_⟩⟩
  refine ⟨_, rfl, _, rfl, a, adr (mg "KnownOrder"), rfl, T.x_KnownOrder, T.n_KnownOrder_other, .inr ⟨dx, [("name", v)], upd_same, by rw [upd_ne ne]; exact upd_same, by show 1 ≤ 900; decide, ?_⟩⟩
  refine ⟨_, rfl, a, adr (mg "KnownOrder"), rfl, T.x_KnownOrder, T.n_KnownOrder_word, .inr ⟨dx, [("other", u), ("name", v)], by rw [upd_ne ne.symm]; exact upd_same, upd_same, by show 2 ≤ 900; decide, ?_⟩⟩
  refine q dx _ ne hn (by rw [upd_ne ne.symm, upd_ne ne.symm]; exact upd_same) upd_same fun b o nb e => ?_
  rw [upd_ne (ne_of_none e hn), upd_ne (ne_of_none e hn), upd_ne nb, upd_ne (ne_of_none e hn)]
  exact e
theorem ok_Contradiction___init__ {f : Addr} {fd : FuncData} (T : Txt K mg) (F : Fun K "__init__" "Contradiction.__init__" s_Contradiction___init__ f fd) : FnOk P w K mg base CX0 1 f fd ["self", "deadlock"] (sp_xi (adr (mg "Contradiction")) "deadlock" "contradiction") := by
  refine F.ok sc_Contradiction___init__ (fun vs H Q E h => ?_) (fun cdv A outer s H vs Q E hr h => ?_)
  · obtain ⟨a, v, rfl, _⟩ := h
    rfl
  obtain ⟨a, v, rfl, ha, q⟩ := h
  refine ⟨_, (pss_cons (ps_xst (pv 0) (pv 1) rfl)
      (pss_one (ps_xst (pv 0) pe_str rfl))), ?_⟩
  refine ⟨_, rfl, _, rfl, a, adr (mg "Contradiction"), rfl, T.x_Contradiction, T.n_Contradiction_deadlock, .inl ⟨ha, fun dx hn ne => ?_⟩⟩
  exact ⟨_, rfl, a, adr (mg "Contradiction"), rfl, T.x_Contradiction, T.n_Contradiction_word, .inr ⟨dx, [("deadlock", v)], upd_same, by rw [upd_ne ne]; exact upd_same, by show 1 ≤ 900; decide, xi_end ne hn q⟩⟩
theorem ok_InvalidMoment___init__ {f : Addr} {fd : FuncData} (T : Txt K mg) (F : Fun K "__init__" "InvalidMoment.__init__" s_InvalidMoment___init__ f fd) : FnOk P w K mg base CX0 1 f fd ["self", "moment"] (sp_xi (adr (mg "InvalidMoment")) "moment" "invalidmoment") := by
  refine F.ok sc_InvalidMoment___init__ (fun vs H Q E h => ?_) (fun cdv A outer s H vs Q E hr h => ?_)
  · obtain ⟨a, v, rfl, _⟩ := h
    rfl
  obtain ⟨a, v, rfl, ha, q⟩ := h
  refine ⟨_, (pss_cons (ps_xst (pv 0) (pv 1) rfl)
      (pss_one (ps_xst (pv 0) pe_str rfl))), ?_⟩
  refine ⟨_, rfl, _, rfl, a, adr (mg "InvalidMoment"), rfl, T.x_InvalidMoment, T.n_InvalidMoment_moment, .inl ⟨ha, fun dx hn ne => ?_⟩⟩
  exact ⟨_, rfl, a, adr (mg "InvalidMoment"), rfl, T.x_InvalidMoment, T.n_InvalidMoment_word, .inr ⟨dx, [("moment", v)], upd_same, by rw [upd_ne ne]; exact upd_same, by show 1 ≤ 900; decide, xi_end ne hn q⟩⟩
theorem ok_InvalidCommand___init__ {f : Addr} {fd : FuncData} (T : Txt K mg) (F : Fun K "__init__" "InvalidCommand.__init__" s_InvalidCommand___init__ f fd) : FnOk P w K mg base CX0 1 f fd ["self"] (sp_xi0 (adr (mg "InvalidCommand")) "invalidcommand") := by
  refine F.ok sc_InvalidCommand___init__ (fun vs H Q E h => ?_) (fun cdv A outer s H vs Q E hr h => ?_)
  · obtain ⟨a, rfl, _⟩ := h
    rfl
  obtain ⟨a, rfl, ha, q⟩ := h
  refine ⟨_, (pss_one (ps_xst (pv 0) pe_str rfl)), ?_⟩
  refine ⟨_, rfl, a, adr (mg "InvalidCommand"), rfl, T.x_InvalidCommand, T.n_InvalidCommand_word, .inl ⟨ha, fun dx hn ne => ?_⟩⟩
  exact q dx _ ne hn upd_same (by rw [upd_ne ne]; exact upd_same) fun b o nb e => by
    rw [upd_ne nb, upd_ne (ne_of_none e hn)]
    exact e
theorem ok_BatchFailed___init__ {f : Addr} {fd : FuncData} (T : Txt K mg) (F : Fun K "__init__" "BatchFailed.__init__" s_BatchFailed___init__ f fd) : FnOk P w K mg base CX0 1 f fd ["self", "position", "reason"] (sp_xi2 (adr (mg "BatchFailed")) "position" "reason" "batchfailed") := by
  refine F.ok sc_BatchFailed___init__ (fun vs H Q E h => ?_) (fun cdv A outer s H vs Q E hr h => ?_)
  · obtain ⟨a, v, u, rfl, _⟩ := h
    rfl
  obtain ⟨a, v, u, rfl, ha, q⟩ := h
  refine ⟨_, (pss_cons (ps_xst (pv 0) (pv 1) rfl)
      (pss_cons (ps_xst (pv 0) (pv 2) rfl)
      (pss_one (ps_xst (pv 0) pe_str rfl)))), ?_⟩
  refine ⟨_, rfl, _, rfl, a, adr (mg "BatchFailed"), rfl, T.x_BatchFailed, T.n_BatchFailed_position, .inl ⟨ha, fun dx hn ne => ?_⟩⟩
  refine ⟨_, rfl, _, rfl, a, adr (mg "BatchFailed"), rfl, T.x_BatchFailed, T.n_BatchFailed_reason, .inr ⟨dx, [("position", v)], upd_same, by rw [upd_ne ne]; exact upd_same, by show 1 ≤ 900; decide, ?_⟩⟩
  refine ⟨_, rfl, a, adr (mg "BatchFailed"), rfl, T.x_BatchFailed, T.n_BatchFailed_word, .inr ⟨dx, [("reason", u), ("position", v)], by rw [upd_ne ne.symm]; exact upd_same, upd_same, by show 2 ≤ 900; decide, ?_⟩⟩
  refine q dx _ ne hn (by rw [upd_ne ne.symm, upd_ne ne.symm]; exact upd_same) upd_same fun b o nb e => ?_
  rw [upd_ne (ne_of_none e hn), upd_ne (ne_of_none e hn), upd_ne nb, upd_ne (ne_of_none e hn)]
  exact e
theorem ok_InvalidText___init__ {f : Addr} {fd : FuncData} (T : Txt K mg) (F : Fun K "__init__" "InvalidText.__init__" s_InvalidText___init__ f fd) : FnOk P w K mg base CX0 1 f fd ["self"] (sp_xi0 (adr (mg "InvalidText")) "invalidtext") := by
  refine F.ok sc_InvalidText___init__ (fun vs H Q E h => ?_) (fun cdv A outer s H vs Q E hr h => ?_)
  · obtain ⟨a, rfl, _⟩ := h
    rfl
  obtain ⟨a, rfl, ha, q⟩ := h
  refine ⟨_, (pss_one (ps_xst (pv 0) pe_str rfl)), ?_⟩
  refine ⟨_, rfl, a, adr (mg "InvalidText"), rfl, T.x_InvalidText, T.n_InvalidText_word, .inl ⟨ha, fun dx hn ne => ?_⟩⟩
  exact q dx _ ne hn upd_same (by rw [upd_ne ne]; exact upd_same) fun b o nb e => by
    rw [upd_ne nb, upd_ne (ne_of_none e hn)]
    exact e
theorem ok_InvalidFile___init__ {f : Addr} {fd : FuncData} (T : Txt K mg) (F : Fun K "__init__" "InvalidFile.__init__" s_InvalidFile___init__ f fd) : FnOk P w K mg base CX0 1 f fd ["self", "line"] (sp_xi (adr (mg "InvalidFile")) "line" "invalidfile") := by
  refine F.ok sc_InvalidFile___init__ (fun vs H Q E h => ?_) (fun cdv A outer s H vs Q E hr h => ?_)
  · obtain ⟨a, v, rfl, _⟩ := h
    rfl
  obtain ⟨a, v, rfl, ha, q⟩ := h
  refine ⟨_, (pss_cons (ps_xst (pv 0) (pv 1) rfl)
      (pss_one (ps_xst (pv 0) pe_str rfl))), ?_⟩
  refine ⟨_, rfl, _, rfl, a, adr (mg "InvalidFile"), rfl, T.x_InvalidFile, T.n_InvalidFile_line, .inl ⟨ha, fun dx hn ne => ?_⟩⟩
  exact ⟨_, rfl, a, adr (mg "InvalidFile"), rfl, T.x_InvalidFile, T.n_InvalidFile_word, .inr ⟨dx, [("line", v)], upd_same, by rw [upd_ne ne]; exact upd_same, by show 1 ≤ 900; decide, xi_end ne hn q⟩⟩
theorem ok_UnknownField___init__ {f : Addr} {fd : FuncData} (T : Txt K mg) (F : Fun K "__init__" "UnknownField.__init__" s_UnknownField___init__ f fd) : FnOk P w K mg base CX0 1 f fd ["self", "name"] (sp_xi (adr (mg "UnknownField")) "name" "unknownfield") := by
  refine F.ok sc_UnknownField___init__ (fun vs H Q E h => ?_) (fun cdv A outer s H vs Q E hr h => ?_)
  · obtain ⟨a, v, rfl, _⟩ := h
    rfl
  obtain ⟨a, v, rfl, ha, q⟩ := h
  refine ⟨_, (pss_cons (ps_xst (pv 0) (pv 1) rfl)
      (pss_one (ps_xst (pv 0) pe_str rfl))), ?_⟩
  refine ⟨_, rfl, _, rfl, a, adr (mg "UnknownField"), rfl, T.x_UnknownField, T.n_UnknownField_name, .inl ⟨ha, fun dx hn ne => ?_⟩⟩
  exact ⟨_, rfl, a, adr (mg "UnknownField"), rfl, T.x_UnknownField, T.n_UnknownField_word, .inr ⟨dx, [("name", v)], upd_same, by rw [upd_ne ne]; exact upd_same, by show 1 ≤ 900; decide, xi_end ne hn q⟩⟩
theorem ok_UnknownValue___init__ {f : Addr} {fd : FuncData} (T : Txt K mg) (F : Fun K "__init__" "UnknownValue.__init__" s_UnknownValue___init__ f fd) : FnOk P w K mg base CX0 1 f fd ["self", "value"] (sp_xi (adr (mg "UnknownValue")) "value" "unknownvalue") := by
  refine F.ok sc_UnknownValue___init__ (fun vs H Q E h => ?_) (fun cdv A outer s H vs Q E hr h => ?_)
  · obtain ⟨a, v, rfl, _⟩ := h
    rfl
  obtain ⟨a, v, rfl, ha, q⟩ := h
  refine ⟨_, (pss_cons (ps_xst (pv 0) (pv 1) rfl)
      (pss_one (ps_xst (pv 0) pe_str rfl))), ?_⟩
  refine ⟨_, rfl, _, rfl, a, adr (mg "UnknownValue"), rfl, T.x_UnknownValue, T.n_UnknownValue_value, .inl ⟨ha, fun dx hn ne => ?_⟩⟩
  exact ⟨_, rfl, a, adr (mg "UnknownValue"), rfl, T.x_UnknownValue, T.n_UnknownValue_word, .inr ⟨dx, [("value", v)], upd_same, by rw [upd_ne ne]; exact upd_same, by show 1 ≤ 900; decide, xi_end ne hn q⟩⟩
theorem ok_UnknownEffect___init__ {f : Addr} {fd : FuncData} (T : Txt K mg) (F : Fun K "__init__" "UnknownEffect.__init__" s_UnknownEffect___init__ f fd) : FnOk P w K mg base CX0 1 f fd ["self", "name"] (sp_xi (adr (mg "UnknownEffect")) "name" "unknowneffect") := by
  refine F.ok sc_UnknownEffect___init__ (fun vs H Q E h => ?_) (fun cdv A outer s H vs Q E hr h => ?_)
  · obtain ⟨a, v, rfl, _⟩ := h
    rfl
  obtain ⟨a, v, rfl, ha, q⟩ := h
  refine ⟨_, (pss_cons (ps_xst (pv 0) (pv 1) rfl)
      (pss_one (ps_xst (pv 0) pe_str rfl))), ?_⟩
  refine ⟨_, rfl, _, rfl, a, adr (mg "UnknownEffect"), rfl, T.x_UnknownEffect, T.n_UnknownEffect_name, .inl ⟨ha, fun dx hn ne => ?_⟩⟩
  exact ⟨_, rfl, a, adr (mg "UnknownEffect"), rfl, T.x_UnknownEffect, T.n_UnknownEffect_word, .inr ⟨dx, [("name", v)], upd_same, by rw [upd_ne ne]; exact upd_same, by show 1 ≤ 900; decide, xi_end ne hn q⟩⟩
theorem ok_UnknownRule___init__ {f : Addr} {fd : FuncData} (T : Txt K mg) (F : Fun K "__init__" "UnknownRule.__init__" s_UnknownRule___init__ f fd) : FnOk P w K mg base CX0 1 f fd ["self", "name"] (sp_xi (adr (mg "UnknownRule")) "name" "unknownrule") := by
  refine F.ok sc_UnknownRule___init__ (fun vs H Q E h => ?_) (fun cdv A outer s H vs Q E hr h => ?_)
  · obtain ⟨a, v, rfl, _⟩ := h
    rfl
  obtain ⟨a, v, rfl, ha, q⟩ := h
  refine ⟨_, (pss_cons (ps_xst (pv 0) (pv 1) rfl)
      (pss_one (ps_xst (pv 0) pe_str rfl))), ?_⟩
  refine ⟨_, rfl, _, rfl, a, adr (mg "UnknownRule"), rfl, T.x_UnknownRule, T.n_UnknownRule_name, .inl ⟨ha, fun dx hn ne => ?_⟩⟩
  exact ⟨_, rfl, a, adr (mg "UnknownRule"), rfl, T.x_UnknownRule, T.n_UnknownRule_word, .inr ⟨dx, [("name", v)], upd_same, by rw [upd_ne ne]; exact upd_same, by show 1 ≤ 900; decide, xi_end ne hn q⟩⟩
theorem ok_NothingLeft___init__ {f : Addr} {fd : FuncData} (T : Txt K mg) (F : Fun K "__init__" "NothingLeft.__init__" s_NothingLeft___init__ f fd) : FnOk P w K mg base CX0 1 f fd ["self"] (sp_xi0 (adr (mg "NothingLeft")) "nothingleft") := by
  refine F.ok sc_NothingLeft___init__ (fun vs H Q E h => ?_) (fun cdv A outer s H vs Q E hr h => ?_)
  · obtain ⟨a, rfl, _⟩ := h
    rfl
  obtain ⟨a, rfl, ha, q⟩ := h
  refine ⟨_, (pss_one (ps_xst (pv 0) pe_str rfl)), ?_⟩
  refine ⟨_, rfl, a, adr (mg "NothingLeft"), rfl, T.x_NothingLeft, T.n_NothingLeft_word, .inl ⟨ha, fun dx hn ne => ?_⟩⟩
  exact q dx _ ne hn upd_same (by rw [upd_ne ne]; exact upd_same) fun b o nb e => by
    rw [upd_ne nb, upd_ne (ne_of_none e hn)]
    exact e
end
end Hr

set_option Elab.async false
set_option linter.all false
set_option maxRecDepth 100000
set_option maxHeartbeats 4000000
namespace Hr
open PySem PySem.Spec PyProof.Rows L2
section
variable {P : Program} {w : World} {K : PySem.W.Frag} {mg : Str → Option Value} {base : Heap}
/-! ### the errors by their number -/
def eW : Nat → Str
  | 0 => "invalidname"
  | 1 => "invalidvalue"
  | 2 => "duplicatename"
  | 3 => "limitreached"
  | 4 => "invalidrequest"
  | 5 => "invalidnumber"
  | 6 => "invalidcondition"
  | 7 => "invalidpair"
  | 8 => "invalidreport"
  | 9 => "invalidslot"
  | 10 => "notadeadlock"
  | 11 => "invalidoutcomes"
  | 12 => "nothingmatches"
  | 13 => "samerule"
  | 14 => "knownorder"
  | 15 => "contradiction"
  | 16 => "invalidmoment"
  | 17 => "invalidcommand"
  | 18 => "batchfailed"
  | 19 => "invalidtext"
  | 20 => "invalidfile"
  | 21 => "unknownfield"
  | 22 => "unknownvalue"
  | 23 => "unknowneffect"
  | 24 => "unknownrule"
  | 25 => "nothingleft"
  | _ => ""
def eF (a b : V) : Nat → List (Str × V)
  | 0 => [("word", .str "invalidname"), ("name", a)]
  | 1 => [("word", .str "invalidvalue"), ("value", a)]
  | 2 => [("word", .str "duplicatename"), ("name", a)]
  | 3 => [("word", .str "limitreached"), ("limit", a)]
  | 4 => [("word", .str "invalidrequest"), ("position", a)]
  | 5 => [("word", .str "invalidnumber"), ("number", a)]
  | 6 => [("word", .str "invalidcondition"), ("position", a)]
  | 7 => [("word", .str "invalidpair"), ("place", a)]
  | 8 => [("word", .str "invalidreport"), ("place", a)]
  | 9 => [("word", .str "invalidslot"), ("slot", a)]
  | 10 => [("word", .str "notadeadlock")]
  | 11 => [("word", .str "invalidoutcomes")]
  | 12 => [("word", .str "nothingmatches"), ("number", a)]
  | 13 => [("word", .str "samerule"), ("name", a)]
  | 14 => [("word", .str "knownorder"), ("other", b), ("name", a)]
  | 15 => [("word", .str "contradiction"), ("deadlock", a)]
  | 16 => [("word", .str "invalidmoment"), ("moment", a)]
  | 17 => [("word", .str "invalidcommand")]
  | 18 => [("word", .str "batchfailed"), ("reason", b), ("position", a)]
  | 19 => [("word", .str "invalidtext")]
  | 20 => [("word", .str "invalidfile"), ("line", a)]
  | 21 => [("word", .str "unknownfield"), ("name", a)]
  | 22 => [("word", .str "unknownvalue"), ("value", a)]
  | 23 => [("word", .str "unknowneffect"), ("name", a)]
  | 24 => [("word", .str "unknownrule"), ("name", a)]
  | 25 => [("word", .str "nothingleft")]
  | _ => []
def RK (mg : Str → Option Value) (k : Nat) (a b : V) (H : Hp) (E : XK) : Prop := Rsd (adr (mg (eC k))) (eF a b k) H E
def sp_early (mg : Str → Option Value) : Sp := fun vs H Q E => ∃ (k : Nat) (a b : V), vs = [.int k, a, b] ∧ 0 ≤ k ∧ (k < 9 → RK mg k a b H E) ∧ (9 ≤ k → Q .non H)
theorem ok__law_earlyR {f : Addr} {fd : FuncData} (T : Txt K mg) (F : Fun K "_law_early" "_law_early" s__law_early f fd) : FnOk P w K mg base (L2N.CX P w) 3 f fd ["_law_at", "_law_a", "_law_b"] (sp_early mg) := by
  obtain ⟨f_InvalidName___init__, fd_InvalidName___init__, F_InvalidName___init__, b_InvalidName___init__, i_InvalidName___init__, t_InvalidName___init__⟩ := T.h_InvalidName___init__
  obtain ⟨f_InvalidValue___init__, fd_InvalidValue___init__, F_InvalidValue___init__, b_InvalidValue___init__, i_InvalidValue___init__, t_InvalidValue___init__⟩ := T.h_InvalidValue___init__
  obtain ⟨f_DuplicateName___init__, fd_DuplicateName___init__, F_DuplicateName___init__, b_DuplicateName___init__, i_DuplicateName___init__, t_DuplicateName___init__⟩ := T.h_DuplicateName___init__
  obtain ⟨f_LimitReached___init__, fd_LimitReached___init__, F_LimitReached___init__, b_LimitReached___init__, i_LimitReached___init__, t_LimitReached___init__⟩ := T.h_LimitReached___init__
  obtain ⟨f_InvalidRequest___init__, fd_InvalidRequest___init__, F_InvalidRequest___init__, b_InvalidRequest___init__, i_InvalidRequest___init__, t_InvalidRequest___init__⟩ := T.h_InvalidRequest___init__
  obtain ⟨f_InvalidNumber___init__, fd_InvalidNumber___init__, F_InvalidNumber___init__, b_InvalidNumber___init__, i_InvalidNumber___init__, t_InvalidNumber___init__⟩ := T.h_InvalidNumber___init__
  obtain ⟨f_InvalidCondition___init__, fd_InvalidCondition___init__, F_InvalidCondition___init__, b_InvalidCondition___init__, i_InvalidCondition___init__, t_InvalidCondition___init__⟩ := T.h_InvalidCondition___init__
  obtain ⟨f_InvalidPair___init__, fd_InvalidPair___init__, F_InvalidPair___init__, b_InvalidPair___init__, i_InvalidPair___init__, t_InvalidPair___init__⟩ := T.h_InvalidPair___init__
  obtain ⟨f_InvalidReport___init__, fd_InvalidReport___init__, F_InvalidReport___init__, b_InvalidReport___init__, i_InvalidReport___init__, t_InvalidReport___init__⟩ := T.h_InvalidReport___init__
  have G_InvalidName___init__ := ok_InvalidName___init__ (P := P) (w := w) (base := base) T F_InvalidName___init__
  have G_InvalidValue___init__ := ok_InvalidValue___init__ (P := P) (w := w) (base := base) T F_InvalidValue___init__
  have G_DuplicateName___init__ := ok_DuplicateName___init__ (P := P) (w := w) (base := base) T F_DuplicateName___init__
  have G_LimitReached___init__ := ok_LimitReached___init__ (P := P) (w := w) (base := base) T F_LimitReached___init__
  have G_InvalidRequest___init__ := ok_InvalidRequest___init__ (P := P) (w := w) (base := base) T F_InvalidRequest___init__
  have G_InvalidNumber___init__ := ok_InvalidNumber___init__ (P := P) (w := w) (base := base) T F_InvalidNumber___init__
  have G_InvalidCondition___init__ := ok_InvalidCondition___init__ (P := P) (w := w) (base := base) T F_InvalidCondition___init__
  have G_InvalidPair___init__ := ok_InvalidPair___init__ (P := P) (w := w) (base := base) T F_InvalidPair___init__
  have G_InvalidReport___init__ := ok_InvalidReport___init__ (P := P) (w := w) (base := base) T F_InvalidReport___init__
  refine Fun.okR F sc__law_early (fun vs H Q E h => ?_) (fun cdv A outer s H vs Q E hr tk h => ?_)
  · obtain ⟨k, a, b, rfl, _⟩ := h
    rfl
  obtain ⟨k, a, b, rfl, h0, hE, hq⟩ := h
  have hr_InvalidName___init__ : Room 2 _ := hr
  have hr_InvalidValue___init__ : Room 2 _ := hr
  have hr_DuplicateName___init__ : Room 2 _ := hr
  have hr_LimitReached___init__ : Room 2 _ := hr
  have hr_InvalidRequest___init__ : Room 2 _ := hr
  have hr_InvalidNumber___init__ : Room 2 _ := hr
  have hr_InvalidCondition___init__ : Room 2 _ := hr
  have hr_InvalidPair___init__ : Room 2 _ := hr
  have hr_InvalidReport___init__ : Room 2 _ := hr
  refine ⟨_, (pss_cons (ps_if (pt_cmpR op_eq (pv 0) pe_int (nomark _)) (pss_one (L2N.ps_raise rfl tk (pmk_xc T.x_InvalidName i_InvalidName___init__ t_InvalidName___init__ G_InvalidName___init__ hr_InvalidName___init__ b_InvalidName___init__ (by rfl) T.g_InvalidName (pa_cons (pv 1) pa_nil)))) pss_nil)
      (pss_cons (ps_if (pt_cmpR op_eq (pv 0) pe_int (nomark _)) (pss_one (L2N.ps_raise rfl tk (pmk_xc T.x_InvalidValue i_InvalidValue___init__ t_InvalidValue___init__ G_InvalidValue___init__ hr_InvalidValue___init__ b_InvalidValue___init__ (by rfl) T.g_InvalidValue (pa_cons (pv 1) pa_nil)))) pss_nil)
      (pss_cons (ps_if (pt_cmpR op_eq (pv 0) pe_int (nomark _)) (pss_one (L2N.ps_raise rfl tk (pmk_xc T.x_DuplicateName i_DuplicateName___init__ t_DuplicateName___init__ G_DuplicateName___init__ hr_DuplicateName___init__ b_DuplicateName___init__ (by rfl) T.g_DuplicateName (pa_cons (pv 1) pa_nil)))) pss_nil)
      (pss_cons (ps_if (pt_cmpR op_eq (pv 0) pe_int (nomark _)) (pss_one (L2N.ps_raise rfl tk (pmk_xc T.x_LimitReached i_LimitReached___init__ t_LimitReached___init__ G_LimitReached___init__ hr_LimitReached___init__ b_LimitReached___init__ (by rfl) T.g_LimitReached (pa_cons (pv 1) pa_nil)))) pss_nil)
      (pss_cons (ps_if (pt_cmpR op_eq (pv 0) pe_int (nomark _)) (pss_one (L2N.ps_raise rfl tk (pmk_xc T.x_InvalidRequest i_InvalidRequest___init__ t_InvalidRequest___init__ G_InvalidRequest___init__ hr_InvalidRequest___init__ b_InvalidRequest___init__ (by rfl) T.g_InvalidRequest (pa_cons (pv 1) pa_nil)))) pss_nil)
      (pss_cons (ps_if (pt_cmpR op_eq (pv 0) pe_int (nomark _)) (pss_one (L2N.ps_raise rfl tk (pmk_xc T.x_InvalidNumber i_InvalidNumber___init__ t_InvalidNumber___init__ G_InvalidNumber___init__ hr_InvalidNumber___init__ b_InvalidNumber___init__ (by rfl) T.g_InvalidNumber (pa_cons (pv 1) pa_nil)))) pss_nil)
      (pss_cons (ps_if (pt_cmpR op_eq (pv 0) pe_int (nomark _)) (pss_one (L2N.ps_raise rfl tk (pmk_xc T.x_InvalidCondition i_InvalidCondition___init__ t_InvalidCondition___init__ G_InvalidCondition___init__ hr_InvalidCondition___init__ b_InvalidCondition___init__ (by rfl) T.g_InvalidCondition (pa_cons (pv 1) pa_nil)))) pss_nil)
      (pss_cons (ps_if (pt_cmpR op_eq (pv 0) pe_int (nomark _)) (pss_one (L2N.ps_raise rfl tk (pmk_xc T.x_InvalidPair i_InvalidPair___init__ t_InvalidPair___init__ G_InvalidPair___init__ hr_InvalidPair___init__ b_InvalidPair___init__ (by rfl) T.g_InvalidPair (pa_cons (pv 1) pa_nil)))) pss_nil)
      (pss_one (ps_if (pt_cmpR op_eq (pv 0) pe_int (nomark _)) (pss_one (L2N.ps_raise rfl tk (pmk_xc T.x_InvalidReport i_InvalidReport___init__ t_InvalidReport___init__ G_InvalidReport___init__ hr_InvalidReport___init__ b_InvalidReport___init__ (by rfl) T.g_InvalidReport (pa_cons (pv 1) pa_nil)))) pss_nil)))))))))), ?_⟩
  refine ⟨_, rfl, rfl, _, rfl, ?_⟩
  by_cases c0 : k = 0
  · subst c0
    exact ifT rfl (⟨_, rfl, xmk_on (hE (by decide))⟩)
  refine ifF (fun z => c0 (by have := V.int.inj z; omega)) ?_
  try dsimp only [tNext]
  refine ⟨_, rfl, rfl, _, rfl, ?_⟩
  by_cases c1 : k = 1
  · subst c1
    exact ifT rfl (⟨_, rfl, xmk_on (hE (by decide))⟩)
  refine ifF (fun z => c1 (by have := V.int.inj z; omega)) ?_
  try dsimp only [tNext]
  refine ⟨_, rfl, rfl, _, rfl, ?_⟩
  by_cases c2 : k = 2
  · subst c2
    exact ifT rfl (⟨_, rfl, xmk_on (hE (by decide))⟩)
  refine ifF (fun z => c2 (by have := V.int.inj z; omega)) ?_
  try dsimp only [tNext]
  refine ⟨_, rfl, rfl, _, rfl, ?_⟩
  by_cases c3 : k = 3
  · subst c3
    exact ifT rfl (⟨_, rfl, xmk_on (hE (by decide))⟩)
  refine ifF (fun z => c3 (by have := V.int.inj z; omega)) ?_
  try dsimp only [tNext]
  refine ⟨_, rfl, rfl, _, rfl, ?_⟩
  by_cases c4 : k = 4
  · subst c4
    exact ifT rfl (⟨_, rfl, xmk_on (hE (by decide))⟩)
  refine ifF (fun z => c4 (by have := V.int.inj z; omega)) ?_
  try dsimp only [tNext]
  refine ⟨_, rfl, rfl, _, rfl, ?_⟩
  by_cases c5 : k = 5
  · subst c5
    exact ifT rfl (⟨_, rfl, xmk_on (hE (by decide))⟩)
  refine ifF (fun z => c5 (by have := V.int.inj z; omega)) ?_
  try dsimp only [tNext]
  refine ⟨_, rfl, rfl, _, rfl, ?_⟩
  by_cases c6 : k = 6
  · subst c6
    exact ifT rfl (⟨_, rfl, xmk_on (hE (by decide))⟩)
  refine ifF (fun z => c6 (by have := V.int.inj z; omega)) ?_
  try dsimp only [tNext]
  refine ⟨_, rfl, rfl, _, rfl, ?_⟩
  by_cases c7 : k = 7
  · subst c7
    exact ifT rfl (⟨_, rfl, xmk_on (hE (by decide))⟩)
  refine ifF (fun z => c7 (by have := V.int.inj z; omega)) ?_
  try dsimp only [tNext]
  refine ⟨_, rfl, rfl, _, rfl, ?_⟩
  by_cases c8 : k = 8
  · subst c8
    exact ifT rfl (⟨_, rfl, xmk_on (hE (by decide))⟩)
  refine ifF (fun z => c8 (by have := V.int.inj z; omega)) ?_
  try dsimp only [tNext]
  exact hq (by omega)
def sp_middle (mg : Str → Option Value) : Sp := fun vs H Q E => ∃ (k : Nat) (a b : V), vs = [.int k, a, b] ∧ 9 ≤ k ∧ (k < 18 → RK mg k a b H E) ∧ (18 ≤ k → Q .non H)
theorem ok__law_middleR {f : Addr} {fd : FuncData} (T : Txt K mg) (F : Fun K "_law_middle" "_law_middle" s__law_middle f fd) : FnOk P w K mg base (L2N.CX P w) 3 f fd ["_law_at", "_law_a", "_law_b"] (sp_middle mg) := by
  obtain ⟨f_InvalidSlot___init__, fd_InvalidSlot___init__, F_InvalidSlot___init__, b_InvalidSlot___init__, i_InvalidSlot___init__, t_InvalidSlot___init__⟩ := T.h_InvalidSlot___init__
  obtain ⟨f_NotADeadlock___init__, fd_NotADeadlock___init__, F_NotADeadlock___init__, b_NotADeadlock___init__, i_NotADeadlock___init__, t_NotADeadlock___init__⟩ := T.h_NotADeadlock___init__
  obtain ⟨f_InvalidOutcomes___init__, fd_InvalidOutcomes___init__, F_InvalidOutcomes___init__, b_InvalidOutcomes___init__, i_InvalidOutcomes___init__, t_InvalidOutcomes___init__⟩ := T.h_InvalidOutcomes___init__
  obtain ⟨f_NothingMatches___init__, fd_NothingMatches___init__, F_NothingMatches___init__, b_NothingMatches___init__, i_NothingMatches___init__, t_NothingMatches___init__⟩ := T.h_NothingMatches___init__
  obtain ⟨f_SameRule___init__, fd_SameRule___init__, F_SameRule___init__, b_SameRule___init__, i_SameRule___init__, t_SameRule___init__⟩ := T.h_SameRule___init__
  obtain ⟨f_KnownOrder___init__, fd_KnownOrder___init__, F_KnownOrder___init__, b_KnownOrder___init__, i_KnownOrder___init__, t_KnownOrder___init__⟩ := T.h_KnownOrder___init__
  obtain ⟨f_Contradiction___init__, fd_Contradiction___init__, F_Contradiction___init__, b_Contradiction___init__, i_Contradiction___init__, t_Contradiction___init__⟩ := T.h_Contradiction___init__
  obtain ⟨f_InvalidMoment___init__, fd_InvalidMoment___init__, F_InvalidMoment___init__, b_InvalidMoment___init__, i_InvalidMoment___init__, t_InvalidMoment___init__⟩ := T.h_InvalidMoment___init__
  obtain ⟨f_InvalidCommand___init__, fd_InvalidCommand___init__, F_InvalidCommand___init__, b_InvalidCommand___init__, i_InvalidCommand___init__, t_InvalidCommand___init__⟩ := T.h_InvalidCommand___init__
  have G_InvalidSlot___init__ := ok_InvalidSlot___init__ (P := P) (w := w) (base := base) T F_InvalidSlot___init__
  have G_NotADeadlock___init__ := ok_NotADeadlock___init__ (P := P) (w := w) (base := base) T F_NotADeadlock___init__
  have G_InvalidOutcomes___init__ := ok_InvalidOutcomes___init__ (P := P) (w := w) (base := base) T F_InvalidOutcomes___init__
  have G_NothingMatches___init__ := ok_NothingMatches___init__ (P := P) (w := w) (base := base) T F_NothingMatches___init__
  have G_SameRule___init__ := ok_SameRule___init__ (P := P) (w := w) (base := base) T F_SameRule___init__
  have G_KnownOrder___init__ := ok_KnownOrder___init__ (P := P) (w := w) (base := base) T F_KnownOrder___init__
  have G_Contradiction___init__ := ok_Contradiction___init__ (P := P) (w := w) (base := base) T F_Contradiction___init__
  have G_InvalidMoment___init__ := ok_InvalidMoment___init__ (P := P) (w := w) (base := base) T F_InvalidMoment___init__
  have G_InvalidCommand___init__ := ok_InvalidCommand___init__ (P := P) (w := w) (base := base) T F_InvalidCommand___init__
  refine Fun.okR F sc__law_middle (fun vs H Q E h => ?_) (fun cdv A outer s H vs Q E hr tk h => ?_)
  · obtain ⟨k, a, b, rfl, _⟩ := h
    rfl
  obtain ⟨k, a, b, rfl, h0, hE, hq⟩ := h
  have hr_InvalidSlot___init__ : Room 2 _ := hr
  have hr_NotADeadlock___init__ : Room 2 _ := hr
  have hr_InvalidOutcomes___init__ : Room 2 _ := hr
  have hr_NothingMatches___init__ : Room 2 _ := hr
  have hr_SameRule___init__ : Room 2 _ := hr
  have hr_KnownOrder___init__ : Room 2 _ := hr
  have hr_Contradiction___init__ : Room 2 _ := hr
  have hr_InvalidMoment___init__ : Room 2 _ := hr
  have hr_InvalidCommand___init__ : Room 2 _ := hr
  refine ⟨_, (pss_cons (ps_if (pt_cmpR op_eq (pv 0) pe_int (nomark _)) (pss_one (L2N.ps_raise rfl tk (pmk_xc T.x_InvalidSlot i_InvalidSlot___init__ t_InvalidSlot___init__ G_InvalidSlot___init__ hr_InvalidSlot___init__ b_InvalidSlot___init__ (by rfl) T.g_InvalidSlot (pa_cons (pv 1) pa_nil)))) pss_nil)
      (pss_cons (ps_if (pt_cmpR op_eq (pv 0) pe_int (nomark _)) (pss_one (L2N.ps_raise rfl tk (pmk_xc0 T.x_NotADeadlock i_NotADeadlock___init__ t_NotADeadlock___init__ G_NotADeadlock___init__ hr_NotADeadlock___init__ b_NotADeadlock___init__ (by rfl) T.g_NotADeadlock))) pss_nil)
      (pss_cons (ps_if (pt_cmpR op_eq (pv 0) pe_int (nomark _)) (pss_one (L2N.ps_raise rfl tk (pmk_xc0 T.x_InvalidOutcomes i_InvalidOutcomes___init__ t_InvalidOutcomes___init__ G_InvalidOutcomes___init__ hr_InvalidOutcomes___init__ b_InvalidOutcomes___init__ (by rfl) T.g_InvalidOutcomes))) pss_nil)
      (pss_cons (ps_if (pt_cmpR op_eq (pv 0) pe_int (nomark _)) (pss_one (L2N.ps_raise rfl tk (pmk_xc T.x_NothingMatches i_NothingMatches___init__ t_NothingMatches___init__ G_NothingMatches___init__ hr_NothingMatches___init__ b_NothingMatches___init__ (by rfl) T.g_NothingMatches (pa_cons (pv 1) pa_nil)))) pss_nil)
      (pss_cons (ps_if (pt_cmpR op_eq (pv 0) pe_int (nomark _)) (pss_one (L2N.ps_raise rfl tk (pmk_xc T.x_SameRule i_SameRule___init__ t_SameRule___init__ G_SameRule___init__ hr_SameRule___init__ b_SameRule___init__ (by rfl) T.g_SameRule (pa_cons (pv 1) pa_nil)))) pss_nil)
      (pss_cons (ps_if (pt_cmpR op_eq (pv 0) pe_int (nomark _)) (pss_one (L2N.ps_raise rfl tk (pmk_xc T.x_KnownOrder i_KnownOrder___init__ t_KnownOrder___init__ G_KnownOrder___init__ hr_KnownOrder___init__ b_KnownOrder___init__ (by rfl) T.g_KnownOrder (pa_cons (pv 1) (pa_cons (pv 2) pa_nil))))) pss_nil)
      (pss_cons (ps_if (pt_cmpR op_eq (pv 0) pe_int (nomark _)) (pss_one (L2N.ps_raise rfl tk (pmk_xc T.x_Contradiction i_Contradiction___init__ t_Contradiction___init__ G_Contradiction___init__ hr_Contradiction___init__ b_Contradiction___init__ (by rfl) T.g_Contradiction (pa_cons (pv 1) pa_nil)))) pss_nil)
      (pss_cons (ps_if (pt_cmpR op_eq (pv 0) pe_int (nomark _)) (pss_one (L2N.ps_raise rfl tk (pmk_xc T.x_InvalidMoment i_InvalidMoment___init__ t_InvalidMoment___init__ G_InvalidMoment___init__ hr_InvalidMoment___init__ b_InvalidMoment___init__ (by rfl) T.g_InvalidMoment (pa_cons (pv 1) pa_nil)))) pss_nil)
      (pss_one (ps_if (pt_cmpR op_eq (pv 0) pe_int (nomark _)) (pss_one (L2N.ps_raise rfl tk (pmk_xc0 T.x_InvalidCommand i_InvalidCommand___init__ t_InvalidCommand___init__ G_InvalidCommand___init__ hr_InvalidCommand___init__ b_InvalidCommand___init__ (by rfl) T.g_InvalidCommand))) pss_nil)))))))))), ?_⟩
  refine ⟨_, rfl, rfl, _, rfl, ?_⟩
  by_cases c9 : k = 9
  · subst c9
    exact ifT rfl (⟨_, rfl, xmk_on (hE (by decide))⟩)
  refine ifF (fun z => c9 (by have := V.int.inj z; omega)) ?_
  try dsimp only [tNext]
  refine ⟨_, rfl, rfl, _, rfl, ?_⟩
  by_cases c10 : k = 10
  · subst c10
    exact ifT rfl (xmk_on0 (hE (by decide)))
  refine ifF (fun z => c10 (by have := V.int.inj z; omega)) ?_
  try dsimp only [tNext]
  refine ⟨_, rfl, rfl, _, rfl, ?_⟩
  by_cases c11 : k = 11
  · subst c11
    exact ifT rfl (xmk_on0 (hE (by decide)))
  refine ifF (fun z => c11 (by have := V.int.inj z; omega)) ?_
  try dsimp only [tNext]
  refine ⟨_, rfl, rfl, _, rfl, ?_⟩
  by_cases c12 : k = 12
  · subst c12
    exact ifT rfl (⟨_, rfl, xmk_on (hE (by decide))⟩)
  refine ifF (fun z => c12 (by have := V.int.inj z; omega)) ?_
  try dsimp only [tNext]
  refine ⟨_, rfl, rfl, _, rfl, ?_⟩
  by_cases c13 : k = 13
  · subst c13
    exact ifT rfl (⟨_, rfl, xmk_on (hE (by decide))⟩)
  refine ifF (fun z => c13 (by have := V.int.inj z; omega)) ?_
  try dsimp only [tNext]
  refine ⟨_, rfl, rfl, _, rfl, ?_⟩
  by_cases c14 : k = 14
  · subst c14
    exact ifT rfl (⟨_, rfl, _, rfl, xmk_on2 (hE (by decide))⟩)
  refine ifF (fun z => c14 (by have := V.int.inj z; omega)) ?_
  try dsimp only [tNext]
  refine ⟨_, rfl, rfl, _, rfl, ?_⟩
  by_cases c15 : k = 15
  · subst c15
    exact ifT rfl (⟨_, rfl, xmk_on (hE (by decide))⟩)
  refine ifF (fun z => c15 (by have := V.int.inj z; omega)) ?_
  try dsimp only [tNext]
  refine ⟨_, rfl, rfl, _, rfl, ?_⟩
  by_cases c16 : k = 16
  · subst c16
    exact ifT rfl (⟨_, rfl, xmk_on (hE (by decide))⟩)
  refine ifF (fun z => c16 (by have := V.int.inj z; omega)) ?_
  try dsimp only [tNext]
  refine ⟨_, rfl, rfl, _, rfl, ?_⟩
  by_cases c17 : k = 17
  · subst c17
    exact ifT rfl (xmk_on0 (hE (by decide)))
  refine ifF (fun z => c17 (by have := V.int.inj z; omega)) ?_
  try dsimp only [tNext]
  exact hq (by omega)
def sp_late (mg : Str → Option Value) : Sp := fun vs H Q E => ∃ (k : Nat) (a b : V), vs = [.int k, a, b] ∧ 18 ≤ k ∧ (RK mg k a b H E) ∧ (k < 26)
theorem ok__law_lateR {f : Addr} {fd : FuncData} (T : Txt K mg) (F : Fun K "_law_late" "_law_late" s__law_late f fd) : FnOk P w K mg base (L2N.CX P w) 3 f fd ["_law_at", "_law_a", "_law_b"] (sp_late mg) := by
  obtain ⟨f_BatchFailed___init__, fd_BatchFailed___init__, F_BatchFailed___init__, b_BatchFailed___init__, i_BatchFailed___init__, t_BatchFailed___init__⟩ := T.h_BatchFailed___init__
  obtain ⟨f_InvalidText___init__, fd_InvalidText___init__, F_InvalidText___init__, b_InvalidText___init__, i_InvalidText___init__, t_InvalidText___init__⟩ := T.h_InvalidText___init__
  obtain ⟨f_InvalidFile___init__, fd_InvalidFile___init__, F_InvalidFile___init__, b_InvalidFile___init__, i_InvalidFile___init__, t_InvalidFile___init__⟩ := T.h_InvalidFile___init__
  obtain ⟨f_UnknownField___init__, fd_UnknownField___init__, F_UnknownField___init__, b_UnknownField___init__, i_UnknownField___init__, t_UnknownField___init__⟩ := T.h_UnknownField___init__
  obtain ⟨f_UnknownValue___init__, fd_UnknownValue___init__, F_UnknownValue___init__, b_UnknownValue___init__, i_UnknownValue___init__, t_UnknownValue___init__⟩ := T.h_UnknownValue___init__
  obtain ⟨f_UnknownEffect___init__, fd_UnknownEffect___init__, F_UnknownEffect___init__, b_UnknownEffect___init__, i_UnknownEffect___init__, t_UnknownEffect___init__⟩ := T.h_UnknownEffect___init__
  obtain ⟨f_UnknownRule___init__, fd_UnknownRule___init__, F_UnknownRule___init__, b_UnknownRule___init__, i_UnknownRule___init__, t_UnknownRule___init__⟩ := T.h_UnknownRule___init__
  obtain ⟨f_NothingLeft___init__, fd_NothingLeft___init__, F_NothingLeft___init__, b_NothingLeft___init__, i_NothingLeft___init__, t_NothingLeft___init__⟩ := T.h_NothingLeft___init__
  have G_BatchFailed___init__ := ok_BatchFailed___init__ (P := P) (w := w) (base := base) T F_BatchFailed___init__
  have G_InvalidText___init__ := ok_InvalidText___init__ (P := P) (w := w) (base := base) T F_InvalidText___init__
  have G_InvalidFile___init__ := ok_InvalidFile___init__ (P := P) (w := w) (base := base) T F_InvalidFile___init__
  have G_UnknownField___init__ := ok_UnknownField___init__ (P := P) (w := w) (base := base) T F_UnknownField___init__
  have G_UnknownValue___init__ := ok_UnknownValue___init__ (P := P) (w := w) (base := base) T F_UnknownValue___init__
  have G_UnknownEffect___init__ := ok_UnknownEffect___init__ (P := P) (w := w) (base := base) T F_UnknownEffect___init__
  have G_UnknownRule___init__ := ok_UnknownRule___init__ (P := P) (w := w) (base := base) T F_UnknownRule___init__
  have G_NothingLeft___init__ := ok_NothingLeft___init__ (P := P) (w := w) (base := base) T F_NothingLeft___init__
  refine Fun.okR F sc__law_late (fun vs H Q E h => ?_) (fun cdv A outer s H vs Q E hr tk h => ?_)
  · obtain ⟨k, a, b, rfl, _⟩ := h
    rfl
  obtain ⟨k, a, b, rfl, h0, hE, hq⟩ := h
  have hr_BatchFailed___init__ : Room 2 _ := hr
  have hr_InvalidText___init__ : Room 2 _ := hr
  have hr_InvalidFile___init__ : Room 2 _ := hr
  have hr_UnknownField___init__ : Room 2 _ := hr
  have hr_UnknownValue___init__ : Room 2 _ := hr
  have hr_UnknownEffect___init__ : Room 2 _ := hr
  have hr_UnknownRule___init__ : Room 2 _ := hr
  have hr_NothingLeft___init__ : Room 2 _ := hr
  refine ⟨_, (pss_cons (ps_if (pt_cmpR op_eq (pv 0) pe_int (nomark _)) (pss_one (L2N.ps_raise rfl tk (pmk_xc T.x_BatchFailed i_BatchFailed___init__ t_BatchFailed___init__ G_BatchFailed___init__ hr_BatchFailed___init__ b_BatchFailed___init__ (by rfl) T.g_BatchFailed (pa_cons (pv 1) (pa_cons (pv 2) pa_nil))))) pss_nil)
      (pss_cons (ps_if (pt_cmpR op_eq (pv 0) pe_int (nomark _)) (pss_one (L2N.ps_raise rfl tk (pmk_xc0 T.x_InvalidText i_InvalidText___init__ t_InvalidText___init__ G_InvalidText___init__ hr_InvalidText___init__ b_InvalidText___init__ (by rfl) T.g_InvalidText))) pss_nil)
      (pss_cons (ps_if (pt_cmpR op_eq (pv 0) pe_int (nomark _)) (pss_one (L2N.ps_raise rfl tk (pmk_xc T.x_InvalidFile i_InvalidFile___init__ t_InvalidFile___init__ G_InvalidFile___init__ hr_InvalidFile___init__ b_InvalidFile___init__ (by rfl) T.g_InvalidFile (pa_cons (pv 1) pa_nil)))) pss_nil)
      (pss_cons (ps_if (pt_cmpR op_eq (pv 0) pe_int (nomark _)) (pss_one (L2N.ps_raise rfl tk (pmk_xc T.x_UnknownField i_UnknownField___init__ t_UnknownField___init__ G_UnknownField___init__ hr_UnknownField___init__ b_UnknownField___init__ (by rfl) T.g_UnknownField (pa_cons (pv 1) pa_nil)))) pss_nil)
      (pss_cons (ps_if (pt_cmpR op_eq (pv 0) pe_int (nomark _)) (pss_one (L2N.ps_raise rfl tk (pmk_xc T.x_UnknownValue i_UnknownValue___init__ t_UnknownValue___init__ G_UnknownValue___init__ hr_UnknownValue___init__ b_UnknownValue___init__ (by rfl) T.g_UnknownValue (pa_cons (pv 1) pa_nil)))) pss_nil)
      (pss_cons (ps_if (pt_cmpR op_eq (pv 0) pe_int (nomark _)) (pss_one (L2N.ps_raise rfl tk (pmk_xc T.x_UnknownEffect i_UnknownEffect___init__ t_UnknownEffect___init__ G_UnknownEffect___init__ hr_UnknownEffect___init__ b_UnknownEffect___init__ (by rfl) T.g_UnknownEffect (pa_cons (pv 1) pa_nil)))) pss_nil)
      (pss_cons (ps_if (pt_cmpR op_eq (pv 0) pe_int (nomark _)) (pss_one (L2N.ps_raise rfl tk (pmk_xc T.x_UnknownRule i_UnknownRule___init__ t_UnknownRule___init__ G_UnknownRule___init__ hr_UnknownRule___init__ b_UnknownRule___init__ (by rfl) T.g_UnknownRule (pa_cons (pv 1) pa_nil)))) pss_nil)
      (pss_one (ps_if (pt_cmpR op_eq (pv 0) pe_int (nomark _)) (pss_one (L2N.ps_raise rfl tk (pmk_xc0 T.x_NothingLeft i_NothingLeft___init__ t_NothingLeft___init__ G_NothingLeft___init__ hr_NothingLeft___init__ b_NothingLeft___init__ (by rfl) T.g_NothingLeft))) pss_nil))))))))), ?_⟩
  refine ⟨_, rfl, rfl, _, rfl, ?_⟩
  by_cases c18 : k = 18
  · subst c18
    exact ifT rfl (⟨_, rfl, _, rfl, xmk_on2 (hE)⟩)
  refine ifF (fun z => c18 (by have := V.int.inj z; omega)) ?_
  try dsimp only [tNext]
  refine ⟨_, rfl, rfl, _, rfl, ?_⟩
  by_cases c19 : k = 19
  · subst c19
    exact ifT rfl (xmk_on0 (hE))
  refine ifF (fun z => c19 (by have := V.int.inj z; omega)) ?_
  try dsimp only [tNext]
  refine ⟨_, rfl, rfl, _, rfl, ?_⟩
  by_cases c20 : k = 20
  · subst c20
    exact ifT rfl (⟨_, rfl, xmk_on (hE)⟩)
  refine ifF (fun z => c20 (by have := V.int.inj z; omega)) ?_
  try dsimp only [tNext]
  refine ⟨_, rfl, rfl, _, rfl, ?_⟩
  by_cases c21 : k = 21
  · subst c21
    exact ifT rfl (⟨_, rfl, xmk_on (hE)⟩)
  refine ifF (fun z => c21 (by have := V.int.inj z; omega)) ?_
  try dsimp only [tNext]
  refine ⟨_, rfl, rfl, _, rfl, ?_⟩
  by_cases c22 : k = 22
  · subst c22
    exact ifT rfl (⟨_, rfl, xmk_on (hE)⟩)
  refine ifF (fun z => c22 (by have := V.int.inj z; omega)) ?_
  try dsimp only [tNext]
  refine ⟨_, rfl, rfl, _, rfl, ?_⟩
  by_cases c23 : k = 23
  · subst c23
    exact ifT rfl (⟨_, rfl, xmk_on (hE)⟩)
  refine ifF (fun z => c23 (by have := V.int.inj z; omega)) ?_
  try dsimp only [tNext]
  refine ⟨_, rfl, rfl, _, rfl, ?_⟩
  by_cases c24 : k = 24
  · subst c24
    exact ifT rfl (⟨_, rfl, xmk_on (hE)⟩)
  refine ifF (fun z => c24 (by have := V.int.inj z; omega)) ?_
  try dsimp only [tNext]
  refine ⟨_, rfl, rfl, _, rfl, ?_⟩
  by_cases c25 : k = 25
  · subst c25
    exact ifT rfl (xmk_on0 (hE))
  refine ifF (fun z => c25 (by have := V.int.inj z; omega)) ?_
  try dsimp only [tNext]
  exfalso
  omega
def sp_raised (mg : Str → Option Value) : Sp := fun vs H Q E => ∃ (k : Nat) (a b : V), vs = [.int k, a, b] ∧ k < 26 ∧ RK mg k a b H E
theorem ok__law_raisedR {f : Addr} {fd : FuncData} (T : Txt K mg) (F : Fun K "_law_raised" "_law_raised" s__law_raised f fd) : FnOk P w K mg base (L2N.CX P w) 4 f fd ["_law_at", "_law_a", "_law_b"] (sp_raised mg) := by
  obtain ⟨f__law_late, fd__law_late, F__law_late, b__law_late, g__law_late⟩ := T.h__law_late
  obtain ⟨f__law_early, fd__law_early, F__law_early, b__law_early, g__law_early⟩ := T.h__law_early
  obtain ⟨f__law_middle, fd__law_middle, F__law_middle, b__law_middle, g__law_middle⟩ := T.h__law_middle
  have G__law_earlyR := ok__law_earlyR (P := P) (w := w) (base := base) T F__law_early
  have G__law_middleR := ok__law_middleR (P := P) (w := w) (base := base) T F__law_middle
  have G__law_lateR := ok__law_lateR (P := P) (w := w) (base := base) T F__law_late
  refine Fun.okR F sc__law_raised (fun vs H Q E h => ?_) (fun cdv A outer s H vs Q E hr tk h => ?_)
  · obtain ⟨k, a, b, rfl, _⟩ := h
    rfl
  obtain ⟨k, a, b, rfl, h0, hE⟩ := h
  have hr__law_early : Room 3 _ := hr
  have hr__law_middle : Room 3 _ := hr
  have hr__law_late : Room 3 _ := hr
  refine ⟨_, (pss_cons (ps_if (pt_cmpR op_lt (pv 0) pe_int (nomark _)) (pss_one (ps_expr (pe_call G__law_earlyR hr__law_early (by rfl) g__law_early F__law_early.kp b__law_early .nil (L2N.passes_call tk fun _ _ _ _ h => h) (pa_cons (pv 0) (pa_cons (pv 1) (pa_cons (pv 2) pa_nil)))))) pss_nil)
      (pss_cons (ps_if (pt_cmpR op_lt (pv 0) pe_int (nomark _)) (pss_one (ps_expr (pe_call G__law_middleR hr__law_middle (by rfl) g__law_middle F__law_middle.kp b__law_middle .nil (L2N.passes_call tk fun _ _ _ _ h => h) (pa_cons (pv 0) (pa_cons (pv 1) (pa_cons (pv 2) pa_nil)))))) pss_nil)
      (pss_one (ps_expr (pe_call G__law_lateR hr__law_late (by rfl) g__law_late F__law_late.kp b__law_late .nil (L2N.passes_call tk fun _ _ _ _ h => h) (pa_cons (pv 0) (pa_cons (pv 1) (pa_cons (pv 2) pa_nil)))))))), ?_⟩
  refine ⟨_, rfl, _, _, rfl, rfl, _, rfl, ?_⟩
  by_cases c9 : k < 9
  · exact ifT (by show (k : Int) < 9; omega) ⟨_, rfl, _, rfl, _, rfl, k, a, b, rfl, Nat.zero_le _, fun _ => hE, fun z => by omega⟩
  refine ifF (by show ¬ (k : Int) < 9; omega) ?_
  try dsimp only [tNext]
  refine ⟨_, rfl, _, _, rfl, rfl, _, rfl, ?_⟩
  by_cases c18 : k < 18
  · exact ifT (by show (k : Int) < 18; omega) ⟨_, rfl, _, rfl, _, rfl, k, a, b, rfl, by omega, fun _ => hE, fun z => by omega⟩
  refine ifF (by show ¬ (k : Int) < 18; omega) ?_
  try dsimp only [tNext]
  exact ⟨_, rfl, _, rfl, _, rfl, k, a, b, rfl, by omega, hE, h0⟩
end
end Hr

set_option Elab.async false
set_option linter.all false
set_option maxRecDepth 100000
set_option maxHeartbeats 4000000
namespace Hr
open PySem PySem.Spec PyProof.Rows L2
section
variable {P : Program} {w : World} {K : PySem.W.Frag} {mg : Str → Option Value} {base : Heap}
def sp_words (K : PySem.W.Frag) : Sp := fun vs H Q _ => vs = [] ∧ ∀ p H', Same H H' → H p = none → H' p = some (.lst (((List.range 26).map eW).map V.str)) → Q (.ref p) H'
theorem ok__law_words {f : Addr} {fd : FuncData} (T : Txt K mg) (F : Fun K "_law_words" "_law_words" s__law_words f fd) : FnOk P w K mg base CX0 1 f fd [] (sp_words K) := by
  refine F.ok sc__law_words (fun vs H Q E h => ?_) (fun cdv A outer s H vs Q E hr h => ?_)
  · rw [h.1]
    rfl
  obtain ⟨rfl, q⟩ := h
  refine ⟨_, (pss_cons (ps_set (i := 0) sc__law_words.nd rfl (.inl rfl) (pe_lst pa_nil))
      (pss_cons (ps_set (i := 0) sc__law_words.nd rfl (.inl rfl) (pe_op op_cat (pv 0) (pe_lst (pa_cons pe_str (pa_cons pe_str (pa_cons pe_str (pa_cons pe_str (pa_cons pe_str (pa_cons pe_str pa_nil)))))))))
      (pss_cons (ps_set (i := 0) sc__law_words.nd rfl (.inl rfl) (pe_op op_cat (pv 0) (pe_lst (pa_cons pe_str (pa_cons pe_str (pa_cons pe_str (pa_cons pe_str (pa_cons pe_str (pa_cons pe_str pa_nil)))))))))
      (pss_cons (ps_set (i := 0) sc__law_words.nd rfl (.inl rfl) (pe_op op_cat (pv 0) (pe_lst (pa_cons pe_str (pa_cons pe_str (pa_cons pe_str (pa_cons pe_str (pa_cons pe_str (pa_cons pe_str pa_nil)))))))))
      (pss_cons (ps_set (i := 0) sc__law_words.nd rfl (.inl rfl) (pe_op op_cat (pv 0) (pe_lst (pa_cons pe_str (pa_cons pe_str (pa_cons pe_str (pa_cons pe_str (pa_cons pe_str (pa_cons pe_str pa_nil)))))))))
      (pss_cons (ps_set (i := 0) sc__law_words.nd rfl (.inl rfl) (pe_op op_cat (pv 0) (pe_lst (pa_cons pe_str (pa_cons pe_str pa_nil)))))
      (pss_one (ps_ret (pv 0))))))))), ?_⟩
  refine ⟨Nat.zero_le _, fun p0 h0 => ?_⟩
  have s0 := same_new (o := .lst []) h0
  have e0 : (upd H p0 (.lst [])) p0 = some (.lst []) := upd_same
  generalize (upd H p0 (.lst [])) = G0 at *
  dsimp only [gName]
  refine ⟨_, rfl, by show 6 ≤ sizeLine; decide, fun u0 hu0 => ?_⟩
  have k0 := same_new (o := .lst [.str "invalidname", .str "invalidvalue", .str "duplicatename", .str "limitreached", .str "invalidrequest", .str "invalidnumber"]) hu0
  refine ⟨p0, u0, _, _, rfl, rfl, k0 _ _ e0, upd_same, by show 0 + 6 ≤ sizeLine; decide, fun p1 h1 => ?_⟩
  have m0 := s0.trans k0
  have n1 : H p1 = none := m0.free h1
  have s1 := m0.trans (same_new (o := .lst [.str "invalidname", .str "invalidvalue", .str "duplicatename", .str "limitreached", .str "invalidrequest", .str "invalidnumber"]) h1)
  have e1 : (upd (upd G0 u0 (.lst [.str "invalidname", .str "invalidvalue", .str "duplicatename", .str "limitreached", .str "invalidrequest", .str "invalidnumber"])) p1 (.lst [.str "invalidname", .str "invalidvalue", .str "duplicatename", .str "limitreached", .str "invalidrequest", .str "invalidnumber"])) p1 = some (.lst [.str "invalidname", .str "invalidvalue", .str "duplicatename", .str "limitreached", .str "invalidrequest", .str "invalidnumber"]) := upd_same
  change gName 0 (.ref p1) _ (upd (upd G0 u0 (.lst [.str "invalidname", .str "invalidvalue", .str "duplicatename", .str "limitreached", .str "invalidrequest", .str "invalidnumber"])) p1 (.lst [.str "invalidname", .str "invalidvalue", .str "duplicatename", .str "limitreached", .str "invalidrequest", .str "invalidnumber"])) _
  generalize (upd (upd G0 u0 (.lst [.str "invalidname", .str "invalidvalue", .str "duplicatename", .str "limitreached", .str "invalidrequest", .str "invalidnumber"])) p1 (.lst [.str "invalidname", .str "invalidvalue", .str "duplicatename", .str "limitreached", .str "invalidrequest", .str "invalidnumber"])) = G1 at *
  dsimp only [gName]
  refine ⟨_, rfl, by show 6 ≤ sizeLine; decide, fun u1 hu1 => ?_⟩
  have k1 := same_new (o := .lst [.str "invalidcondition", .str "invalidpair", .str "invalidreport", .str "invalidslot", .str "notadeadlock", .str "invalidoutcomes"]) hu1
  refine ⟨p1, u1, _, _, rfl, rfl, k1 _ _ e1, upd_same, by show 6 + 6 ≤ sizeLine; decide, fun p2 h2 => ?_⟩
  have m1 := s1.trans k1
  have n2 : H p2 = none := m1.free h2
  have s2 := m1.trans (same_new (o := .lst [.str "invalidname", .str "invalidvalue", .str "duplicatename", .str "limitreached", .str "invalidrequest", .str "invalidnumber", .str "invalidcondition", .str "invalidpair", .str "invalidreport", .str "invalidslot", .str "notadeadlock", .str "invalidoutcomes"]) h2)
  have e2 : (upd (upd G1 u1 (.lst [.str "invalidcondition", .str "invalidpair", .str "invalidreport", .str "invalidslot", .str "notadeadlock", .str "invalidoutcomes"])) p2 (.lst [.str "invalidname", .str "invalidvalue", .str "duplicatename", .str "limitreached", .str "invalidrequest", .str "invalidnumber", .str "invalidcondition", .str "invalidpair", .str "invalidreport", .str "invalidslot", .str "notadeadlock", .str "invalidoutcomes"])) p2 = some (.lst [.str "invalidname", .str "invalidvalue", .str "duplicatename", .str "limitreached", .str "invalidrequest", .str "invalidnumber", .str "invalidcondition", .str "invalidpair", .str "invalidreport", .str "invalidslot", .str "notadeadlock", .str "invalidoutcomes"]) := upd_same
  change gName 0 (.ref p2) _ (upd (upd G1 u1 (.lst [.str "invalidcondition", .str "invalidpair", .str "invalidreport", .str "invalidslot", .str "notadeadlock", .str "invalidoutcomes"])) p2 (.lst [.str "invalidname", .str "invalidvalue", .str "duplicatename", .str "limitreached", .str "invalidrequest", .str "invalidnumber", .str "invalidcondition", .str "invalidpair", .str "invalidreport", .str "invalidslot", .str "notadeadlock", .str "invalidoutcomes"])) _
  generalize (upd (upd G1 u1 (.lst [.str "invalidcondition", .str "invalidpair", .str "invalidreport", .str "invalidslot", .str "notadeadlock", .str "invalidoutcomes"])) p2 (.lst [.str "invalidname", .str "invalidvalue", .str "duplicatename", .str "limitreached", .str "invalidrequest", .str "invalidnumber", .str "invalidcondition", .str "invalidpair", .str "invalidreport", .str "invalidslot", .str "notadeadlock", .str "invalidoutcomes"])) = G2 at *
  dsimp only [gName]
  refine ⟨_, rfl, by show 6 ≤ sizeLine; decide, fun u2 hu2 => ?_⟩
  have k2 := same_new (o := .lst [.str "nothingmatches", .str "samerule", .str "knownorder", .str "contradiction", .str "invalidmoment", .str "invalidcommand"]) hu2
  refine ⟨p2, u2, _, _, rfl, rfl, k2 _ _ e2, upd_same, by show 12 + 6 ≤ sizeLine; decide, fun p3 h3 => ?_⟩
  have m2 := s2.trans k2
  have n3 : H p3 = none := m2.free h3
  have s3 := m2.trans (same_new (o := .lst [.str "invalidname", .str "invalidvalue", .str "duplicatename", .str "limitreached", .str "invalidrequest", .str "invalidnumber", .str "invalidcondition", .str "invalidpair", .str "invalidreport", .str "invalidslot", .str "notadeadlock", .str "invalidoutcomes", .str "nothingmatches", .str "samerule", .str "knownorder", .str "contradiction", .str "invalidmoment", .str "invalidcommand"]) h3)
  have e3 : (upd (upd G2 u2 (.lst [.str "nothingmatches", .str "samerule", .str "knownorder", .str "contradiction", .str "invalidmoment", .str "invalidcommand"])) p3 (.lst [.str "invalidname", .str "invalidvalue", .str "duplicatename", .str "limitreached", .str "invalidrequest", .str "invalidnumber", .str "invalidcondition", .str "invalidpair", .str "invalidreport", .str "invalidslot", .str "notadeadlock", .str "invalidoutcomes", .str "nothingmatches", .str "samerule", .str "knownorder", .str "contradiction", .str "invalidmoment", .str "invalidcommand"])) p3 = some (.lst [.str "invalidname", .str "invalidvalue", .str "duplicatename", .str "limitreached", .str "invalidrequest", .str "invalidnumber", .str "invalidcondition", .str "invalidpair", .str "invalidreport", .str "invalidslot", .str "notadeadlock", .str "invalidoutcomes", .str "nothingmatches", .str "samerule", .str "knownorder", .str "contradiction", .str "invalidmoment", .str "invalidcommand"]) := upd_same
  change gName 0 (.ref p3) _ (upd (upd G2 u2 (.lst [.str "nothingmatches", .str "samerule", .str "knownorder", .str "contradiction", .str "invalidmoment", .str "invalidcommand"])) p3 (.lst [.str "invalidname", .str "invalidvalue", .str "duplicatename", .str "limitreached", .str "invalidrequest", .str "invalidnumber", .str "invalidcondition", .str "invalidpair", .str "invalidreport", .str "invalidslot", .str "notadeadlock", .str "invalidoutcomes", .str "nothingmatches", .str "samerule", .str "knownorder", .str "contradiction", .str "invalidmoment", .str "invalidcommand"])) _
  generalize (upd (upd G2 u2 (.lst [.str "nothingmatches", .str "samerule", .str "knownorder", .str "contradiction", .str "invalidmoment", .str "invalidcommand"])) p3 (.lst [.str "invalidname", .str "invalidvalue", .str "duplicatename", .str "limitreached", .str "invalidrequest", .str "invalidnumber", .str "invalidcondition", .str "invalidpair", .str "invalidreport", .str "invalidslot", .str "notadeadlock", .str "invalidoutcomes", .str "nothingmatches", .str "samerule", .str "knownorder", .str "contradiction", .str "invalidmoment", .str "invalidcommand"])) = G3 at *
  dsimp only [gName]
  refine ⟨_, rfl, by show 6 ≤ sizeLine; decide, fun u3 hu3 => ?_⟩
  have k3 := same_new (o := .lst [.str "batchfailed", .str "invalidtext", .str "invalidfile", .str "unknownfield", .str "unknownvalue", .str "unknowneffect"]) hu3
  refine ⟨p3, u3, _, _, rfl, rfl, k3 _ _ e3, upd_same, by show 18 + 6 ≤ sizeLine; decide, fun p4 h4 => ?_⟩
  have m3 := s3.trans k3
  have n4 : H p4 = none := m3.free h4
  have s4 := m3.trans (same_new (o := .lst [.str "invalidname", .str "invalidvalue", .str "duplicatename", .str "limitreached", .str "invalidrequest", .str "invalidnumber", .str "invalidcondition", .str "invalidpair", .str "invalidreport", .str "invalidslot", .str "notadeadlock", .str "invalidoutcomes", .str "nothingmatches", .str "samerule", .str "knownorder", .str "contradiction", .str "invalidmoment", .str "invalidcommand", .str "batchfailed", .str "invalidtext", .str "invalidfile", .str "unknownfield", .str "unknownvalue", .str "unknowneffect"]) h4)
  have e4 : (upd (upd G3 u3 (.lst [.str "batchfailed", .str "invalidtext", .str "invalidfile", .str "unknownfield", .str "unknownvalue", .str "unknowneffect"])) p4 (.lst [.str "invalidname", .str "invalidvalue", .str "duplicatename", .str "limitreached", .str "invalidrequest", .str "invalidnumber", .str "invalidcondition", .str "invalidpair", .str "invalidreport", .str "invalidslot", .str "notadeadlock", .str "invalidoutcomes", .str "nothingmatches", .str "samerule", .str "knownorder", .str "contradiction", .str "invalidmoment", .str "invalidcommand", .str "batchfailed", .str "invalidtext", .str "invalidfile", .str "unknownfield", .str "unknownvalue", .str "unknowneffect"])) p4 = some (.lst [.str "invalidname", .str "invalidvalue", .str "duplicatename", .str "limitreached", .str "invalidrequest", .str "invalidnumber", .str "invalidcondition", .str "invalidpair", .str "invalidreport", .str "invalidslot", .str "notadeadlock", .str "invalidoutcomes", .str "nothingmatches", .str "samerule", .str "knownorder", .str "contradiction", .str "invalidmoment", .str "invalidcommand", .str "batchfailed", .str "invalidtext", .str "invalidfile", .str "unknownfield", .str "unknownvalue", .str "unknowneffect"]) := upd_same
  change gName 0 (.ref p4) _ (upd (upd G3 u3 (.lst [.str "batchfailed", .str "invalidtext", .str "invalidfile", .str "unknownfield", .str "unknownvalue", .str "unknowneffect"])) p4 (.lst [.str "invalidname", .str "invalidvalue", .str "duplicatename", .str "limitreached", .str "invalidrequest", .str "invalidnumber", .str "invalidcondition", .str "invalidpair", .str "invalidreport", .str "invalidslot", .str "notadeadlock", .str "invalidoutcomes", .str "nothingmatches", .str "samerule", .str "knownorder", .str "contradiction", .str "invalidmoment", .str "invalidcommand", .str "batchfailed", .str "invalidtext", .str "invalidfile", .str "unknownfield", .str "unknownvalue", .str "unknowneffect"])) _
  generalize (upd (upd G3 u3 (.lst [.str "batchfailed", .str "invalidtext", .str "invalidfile", .str "unknownfield", .str "unknownvalue", .str "unknowneffect"])) p4 (.lst [.str "invalidname", .str "invalidvalue", .str "duplicatename", .str "limitreached", .str "invalidrequest", .str "invalidnumber", .str "invalidcondition", .str "invalidpair", .str "invalidreport", .str "invalidslot", .str "notadeadlock", .str "invalidoutcomes", .str "nothingmatches", .str "samerule", .str "knownorder", .str "contradiction", .str "invalidmoment", .str "invalidcommand", .str "batchfailed", .str "invalidtext", .str "invalidfile", .str "unknownfield", .str "unknownvalue", .str "unknowneffect"])) = G4 at *
  dsimp only [gName]
  refine ⟨_, rfl, by show 2 ≤ sizeLine; decide, fun u4 hu4 => ?_⟩
  have k4 := same_new (o := .lst [.str "unknownrule", .str "nothingleft"]) hu4
  refine ⟨p4, u4, _, _, rfl, rfl, k4 _ _ e4, upd_same, by show 24 + 2 ≤ sizeLine; decide, fun p5 h5 => ?_⟩
  have m4 := s4.trans k4
  have n5 : H p5 = none := m4.free h5
  have s5 := m4.trans (same_new (o := .lst [.str "invalidname", .str "invalidvalue", .str "duplicatename", .str "limitreached", .str "invalidrequest", .str "invalidnumber", .str "invalidcondition", .str "invalidpair", .str "invalidreport", .str "invalidslot", .str "notadeadlock", .str "invalidoutcomes", .str "nothingmatches", .str "samerule", .str "knownorder", .str "contradiction", .str "invalidmoment", .str "invalidcommand", .str "batchfailed", .str "invalidtext", .str "invalidfile", .str "unknownfield", .str "unknownvalue", .str "unknowneffect", .str "unknownrule", .str "nothingleft"]) h5)
  have e5 : (upd (upd G4 u4 (.lst [.str "unknownrule", .str "nothingleft"])) p5 (.lst [.str "invalidname", .str "invalidvalue", .str "duplicatename", .str "limitreached", .str "invalidrequest", .str "invalidnumber", .str "invalidcondition", .str "invalidpair", .str "invalidreport", .str "invalidslot", .str "notadeadlock", .str "invalidoutcomes", .str "nothingmatches", .str "samerule", .str "knownorder", .str "contradiction", .str "invalidmoment", .str "invalidcommand", .str "batchfailed", .str "invalidtext", .str "invalidfile", .str "unknownfield", .str "unknownvalue", .str "unknowneffect", .str "unknownrule", .str "nothingleft"])) p5 = some (.lst [.str "invalidname", .str "invalidvalue", .str "duplicatename", .str "limitreached", .str "invalidrequest", .str "invalidnumber", .str "invalidcondition", .str "invalidpair", .str "invalidreport", .str "invalidslot", .str "notadeadlock", .str "invalidoutcomes", .str "nothingmatches", .str "samerule", .str "knownorder", .str "contradiction", .str "invalidmoment", .str "invalidcommand", .str "batchfailed", .str "invalidtext", .str "invalidfile", .str "unknownfield", .str "unknownvalue", .str "unknowneffect", .str "unknownrule", .str "nothingleft"]) := upd_same
  change gName 0 (.ref p5) _ (upd (upd G4 u4 (.lst [.str "unknownrule", .str "nothingleft"])) p5 (.lst [.str "invalidname", .str "invalidvalue", .str "duplicatename", .str "limitreached", .str "invalidrequest", .str "invalidnumber", .str "invalidcondition", .str "invalidpair", .str "invalidreport", .str "invalidslot", .str "notadeadlock", .str "invalidoutcomes", .str "nothingmatches", .str "samerule", .str "knownorder", .str "contradiction", .str "invalidmoment", .str "invalidcommand", .str "batchfailed", .str "invalidtext", .str "invalidfile", .str "unknownfield", .str "unknownvalue", .str "unknowneffect", .str "unknownrule", .str "nothingleft"])) _
  generalize (upd (upd G4 u4 (.lst [.str "unknownrule", .str "nothingleft"])) p5 (.lst [.str "invalidname", .str "invalidvalue", .str "duplicatename", .str "limitreached", .str "invalidrequest", .str "invalidnumber", .str "invalidcondition", .str "invalidpair", .str "invalidreport", .str "invalidslot", .str "notadeadlock", .str "invalidoutcomes", .str "nothingmatches", .str "samerule", .str "knownorder", .str "contradiction", .str "invalidmoment", .str "invalidcommand", .str "batchfailed", .str "invalidtext", .str "invalidfile", .str "unknownfield", .str "unknownvalue", .str "unknowneffect", .str "unknownrule", .str "nothingleft"])) = G5 at *
  dsimp only [gName]
  exact ⟨_, rfl, q p5 _ s5 n5 e5⟩
def sp_flags (K : PySem.W.Frag) (mg : Str → Option Value) : Addr → Addr → Sp := fun C d vs H Q _ => ∃ (a : Addr) (fs : List (Str × V)) (k : Nat), vs = [.ref a] ∧ H d = some (.xd fs) ∧ ExcC K C ∧ (∀ j, j < 26 → PySem.W.kitOne K (.ref C) (.ref (adr (mg (eC j)))) = some (decide (j = k))) ∧
  ∀ p H', Same H H' → H p = none → H' p = some (.lst ((List.range 26).map fun j => V.bl (decide (j = k)))) → Q (.ref p) H'
theorem ok__law_flags {f : Addr} {fd : FuncData} (T : Txt K mg) (F : Fun K "_law_flags" "_law_flags" s__law_flags f fd) : FnE P w K mg base 1 f fd ["_law_e"] (sp_flags K mg) := by
  refine Fun.okE F sc__law_flags (fun C d vs H Q E h => ?_) (fun cdv A outer s H vs Q p C d hr R hv xc h => ?_)
  · obtain ⟨a, fs, k, rfl, _⟩ := h
    rfl
  obtain ⟨a, fs, k, rfl, hd, EC, is, q⟩ := h
  obtain ⟨r, er⟩ := hv
  obtain ⟨rfl, _⟩ : a = p.1 ∧ _ := by
    injection er with e1 e2
    injection e1 with e1
    exact ⟨e1, e2⟩
  refine ⟨_, (pss_cons (ps_set (i := 1) sc__law_flags.nd rfl (.inl rfl) (pe_lst pa_nil))
      (pss_cons (ps_expr (pe_bm PySem.F.plainAttrs_list PySem.F.slot_list_extend PySem.F.type_list_extend mt_extend (pv 1) (pa_cons (pe_lst (pa_cons (pe_callB (call_isA R) (by rfl) T.m_isinstance (by decide +kernel) (pa_cons (pv 0) (pa_cons (pe_glob (v := .ref (adr (mg "InvalidName"))) (by rfl) T.g_InvalidName rfl) pa_nil))) (pa_cons (pe_callB (call_isA R) (by rfl) T.m_isinstance (by decide +kernel) (pa_cons (pv 0) (pa_cons (pe_glob (v := .ref (adr (mg "InvalidValue"))) (by rfl) T.g_InvalidValue rfl) pa_nil))) (pa_cons (pe_callB (call_isA R) (by rfl) T.m_isinstance (by decide +kernel) (pa_cons (pv 0) (pa_cons (pe_glob (v := .ref (adr (mg "DuplicateName"))) (by rfl) T.g_DuplicateName rfl) pa_nil))) (pa_cons (pe_callB (call_isA R) (by rfl) T.m_isinstance (by decide +kernel) (pa_cons (pv 0) (pa_cons (pe_glob (v := .ref (adr (mg "LimitReached"))) (by rfl) T.g_LimitReached rfl) pa_nil))) pa_nil))))) pa_nil)))
      (pss_cons (ps_expr (pe_bm PySem.F.plainAttrs_list PySem.F.slot_list_extend PySem.F.type_list_extend mt_extend (pv 1) (pa_cons (pe_lst (pa_cons (pe_callB (call_isA R) (by rfl) T.m_isinstance (by decide +kernel) (pa_cons (pv 0) (pa_cons (pe_glob (v := .ref (adr (mg "InvalidRequest"))) (by rfl) T.g_InvalidRequest rfl) pa_nil))) (pa_cons (pe_callB (call_isA R) (by rfl) T.m_isinstance (by decide +kernel) (pa_cons (pv 0) (pa_cons (pe_glob (v := .ref (adr (mg "InvalidNumber"))) (by rfl) T.g_InvalidNumber rfl) pa_nil))) (pa_cons (pe_callB (call_isA R) (by rfl) T.m_isinstance (by decide +kernel) (pa_cons (pv 0) (pa_cons (pe_glob (v := .ref (adr (mg "InvalidCondition"))) (by rfl) T.g_InvalidCondition rfl) pa_nil))) (pa_cons (pe_callB (call_isA R) (by rfl) T.m_isinstance (by decide +kernel) (pa_cons (pv 0) (pa_cons (pe_glob (v := .ref (adr (mg "InvalidPair"))) (by rfl) T.g_InvalidPair rfl) pa_nil))) pa_nil))))) pa_nil)))
      (pss_cons (ps_expr (pe_bm PySem.F.plainAttrs_list PySem.F.slot_list_extend PySem.F.type_list_extend mt_extend (pv 1) (pa_cons (pe_lst (pa_cons (pe_callB (call_isA R) (by rfl) T.m_isinstance (by decide +kernel) (pa_cons (pv 0) (pa_cons (pe_glob (v := .ref (adr (mg "InvalidReport"))) (by rfl) T.g_InvalidReport rfl) pa_nil))) (pa_cons (pe_callB (call_isA R) (by rfl) T.m_isinstance (by decide +kernel) (pa_cons (pv 0) (pa_cons (pe_glob (v := .ref (adr (mg "InvalidSlot"))) (by rfl) T.g_InvalidSlot rfl) pa_nil))) (pa_cons (pe_callB (call_isA R) (by rfl) T.m_isinstance (by decide +kernel) (pa_cons (pv 0) (pa_cons (pe_glob (v := .ref (adr (mg "NotADeadlock"))) (by rfl) T.g_NotADeadlock rfl) pa_nil))) (pa_cons (pe_callB (call_isA R) (by rfl) T.m_isinstance (by decide +kernel) (pa_cons (pv 0) (pa_cons (pe_glob (v := .ref (adr (mg "InvalidOutcomes"))) (by rfl) T.g_InvalidOutcomes rfl) pa_nil))) pa_nil))))) pa_nil)))
      (pss_cons (ps_expr (pe_bm PySem.F.plainAttrs_list PySem.F.slot_list_extend PySem.F.type_list_extend mt_extend (pv 1) (pa_cons (pe_lst (pa_cons (pe_callB (call_isA R) (by rfl) T.m_isinstance (by decide +kernel) (pa_cons (pv 0) (pa_cons (pe_glob (v := .ref (adr (mg "NothingMatches"))) (by rfl) T.g_NothingMatches rfl) pa_nil))) (pa_cons (pe_callB (call_isA R) (by rfl) T.m_isinstance (by decide +kernel) (pa_cons (pv 0) (pa_cons (pe_glob (v := .ref (adr (mg "SameRule"))) (by rfl) T.g_SameRule rfl) pa_nil))) (pa_cons (pe_callB (call_isA R) (by rfl) T.m_isinstance (by decide +kernel) (pa_cons (pv 0) (pa_cons (pe_glob (v := .ref (adr (mg "KnownOrder"))) (by rfl) T.g_KnownOrder rfl) pa_nil))) (pa_cons (pe_callB (call_isA R) (by rfl) T.m_isinstance (by decide +kernel) (pa_cons (pv 0) (pa_cons (pe_glob (v := .ref (adr (mg "Contradiction"))) (by rfl) T.g_Contradiction rfl) pa_nil))) pa_nil))))) pa_nil)))
      (pss_cons (ps_expr (pe_bm PySem.F.plainAttrs_list PySem.F.slot_list_extend PySem.F.type_list_extend mt_extend (pv 1) (pa_cons (pe_lst (pa_cons (pe_callB (call_isA R) (by rfl) T.m_isinstance (by decide +kernel) (pa_cons (pv 0) (pa_cons (pe_glob (v := .ref (adr (mg "InvalidMoment"))) (by rfl) T.g_InvalidMoment rfl) pa_nil))) (pa_cons (pe_callB (call_isA R) (by rfl) T.m_isinstance (by decide +kernel) (pa_cons (pv 0) (pa_cons (pe_glob (v := .ref (adr (mg "InvalidCommand"))) (by rfl) T.g_InvalidCommand rfl) pa_nil))) (pa_cons (pe_callB (call_isA R) (by rfl) T.m_isinstance (by decide +kernel) (pa_cons (pv 0) (pa_cons (pe_glob (v := .ref (adr (mg "BatchFailed"))) (by rfl) T.g_BatchFailed rfl) pa_nil))) (pa_cons (pe_callB (call_isA R) (by rfl) T.m_isinstance (by decide +kernel) (pa_cons (pv 0) (pa_cons (pe_glob (v := .ref (adr (mg "InvalidText"))) (by rfl) T.g_InvalidText rfl) pa_nil))) pa_nil))))) pa_nil)))
      (pss_cons (ps_expr (pe_bm PySem.F.plainAttrs_list PySem.F.slot_list_extend PySem.F.type_list_extend mt_extend (pv 1) (pa_cons (pe_lst (pa_cons (pe_callB (call_isA R) (by rfl) T.m_isinstance (by decide +kernel) (pa_cons (pv 0) (pa_cons (pe_glob (v := .ref (adr (mg "InvalidFile"))) (by rfl) T.g_InvalidFile rfl) pa_nil))) (pa_cons (pe_callB (call_isA R) (by rfl) T.m_isinstance (by decide +kernel) (pa_cons (pv 0) (pa_cons (pe_glob (v := .ref (adr (mg "UnknownField"))) (by rfl) T.g_UnknownField rfl) pa_nil))) (pa_cons (pe_callB (call_isA R) (by rfl) T.m_isinstance (by decide +kernel) (pa_cons (pv 0) (pa_cons (pe_glob (v := .ref (adr (mg "UnknownValue"))) (by rfl) T.g_UnknownValue rfl) pa_nil))) (pa_cons (pe_callB (call_isA R) (by rfl) T.m_isinstance (by decide +kernel) (pa_cons (pv 0) (pa_cons (pe_glob (v := .ref (adr (mg "UnknownEffect"))) (by rfl) T.g_UnknownEffect rfl) pa_nil))) pa_nil))))) pa_nil)))
      (pss_cons (ps_expr (pe_bm PySem.F.plainAttrs_list PySem.F.slot_list_extend PySem.F.type_list_extend mt_extend (pv 1) (pa_cons (pe_lst (pa_cons (pe_callB (call_isA R) (by rfl) T.m_isinstance (by decide +kernel) (pa_cons (pv 0) (pa_cons (pe_glob (v := .ref (adr (mg "UnknownRule"))) (by rfl) T.g_UnknownRule rfl) pa_nil))) (pa_cons (pe_callB (call_isA R) (by rfl) T.m_isinstance (by decide +kernel) (pa_cons (pv 0) (pa_cons (pe_glob (v := .ref (adr (mg "NothingLeft"))) (by rfl) T.g_NothingLeft rfl) pa_nil))) pa_nil))) pa_nil)))
      (pss_one (ps_ret (pv 1))))))))))), ?_⟩
  refine ⟨Nat.zero_le _, fun p0 h0 => ?_⟩
  have s0 := same_new (o := .lst []) h0
  have e0 : (upd H p0 (.lst [])) p0 = some (.lst []) := upd_same
  have d0 := s0 _ _ hd
  have np : d ≠ p0 := ne_of_none hd h0
  generalize hG0 : (upd H p0 (.lst [])) = G0 at *
  dsimp only [gName]
  refine ⟨_, rfl, .inl ⟨rfl, _, SqL.of e0⟩, _, rfl, _, _, _, fs, rfl, EC, d0, .own _, is 0 (by decide), _, rfl, _, _, _, fs, rfl, EC, d0, .own _, is 1 (by decide), _, rfl, _, _, _, fs, rfl, EC, d0, .own _, is 2 (by decide), _, rfl, _, _, _, fs, rfl, EC, d0, .own _, is 3 (by decide), by show 4 ≤ sizeLine; decide, fun u0 hu0 => ?_⟩
  have k0 := same_new (o := .lst [.bl (decide (0 = k)), .bl (decide (1 = k)), .bl (decide (2 = k)), .bl (decide (3 = k))]) hu0
  refine ⟨p0, u0, _, _, rfl, rfl, k0 _ _ e0, upd_same, by show 0 + 4 ≤ sizeLine; decide, ?_⟩
  have s1 : Same H (upd (upd G0 u0 (.lst [.bl (decide (0 = k)), .bl (decide (1 = k)), .bl (decide (2 = k)), .bl (decide (3 = k))])) p0 (.lst ([] ++ [.bl (decide (0 = k)), .bl (decide (1 = k)), .bl (decide (2 = k)), .bl (decide (3 = k))]))) := fun b o e => by
    rw [upd_ne (ne_of_none e h0)]
    exact k0 _ _ (s0 _ _ e)
  have e1 : (upd (upd G0 u0 (.lst [.bl (decide (0 = k)), .bl (decide (1 = k)), .bl (decide (2 = k)), .bl (decide (3 = k))])) p0 (.lst ([] ++ [.bl (decide (0 = k)), .bl (decide (1 = k)), .bl (decide (2 = k)), .bl (decide (3 = k))]))) p0 = some (.lst [.bl (decide (0 = k)), .bl (decide (1 = k)), .bl (decide (2 = k)), .bl (decide (3 = k))]) := upd_same
  have d1 := s1 _ _ hd
  try dsimp only [tNext]
  generalize hG1 : (upd (upd G0 u0 (.lst [.bl (decide (0 = k)), .bl (decide (1 = k)), .bl (decide (2 = k)), .bl (decide (3 = k))])) p0 (.lst ([] ++ [.bl (decide (0 = k)), .bl (decide (1 = k)), .bl (decide (2 = k)), .bl (decide (3 = k))]))) = G1 at *
  refine ⟨_, rfl, .inl ⟨rfl, _, SqL.of e1⟩, _, rfl, _, _, _, fs, rfl, EC, d1, .own _, is 4 (by decide), _, rfl, _, _, _, fs, rfl, EC, d1, .own _, is 5 (by decide), _, rfl, _, _, _, fs, rfl, EC, d1, .own _, is 6 (by decide), _, rfl, _, _, _, fs, rfl, EC, d1, .own _, is 7 (by decide), by show 4 ≤ sizeLine; decide, fun u1 hu1 => ?_⟩
  have k1 := same_new (o := .lst [.bl (decide (4 = k)), .bl (decide (5 = k)), .bl (decide (6 = k)), .bl (decide (7 = k))]) hu1
  refine ⟨p0, u1, _, _, rfl, rfl, k1 _ _ e1, upd_same, by show 4 + 4 ≤ sizeLine; decide, ?_⟩
  have s2 : Same H (upd (upd G1 u1 (.lst [.bl (decide (4 = k)), .bl (decide (5 = k)), .bl (decide (6 = k)), .bl (decide (7 = k))])) p0 (.lst ([.bl (decide (0 = k)), .bl (decide (1 = k)), .bl (decide (2 = k)), .bl (decide (3 = k))] ++ [.bl (decide (4 = k)), .bl (decide (5 = k)), .bl (decide (6 = k)), .bl (decide (7 = k))]))) := fun b o e => by
    rw [upd_ne (ne_of_none e h0)]
    exact k1 _ _ (s1 _ _ e)
  have e2 : (upd (upd G1 u1 (.lst [.bl (decide (4 = k)), .bl (decide (5 = k)), .bl (decide (6 = k)), .bl (decide (7 = k))])) p0 (.lst ([.bl (decide (0 = k)), .bl (decide (1 = k)), .bl (decide (2 = k)), .bl (decide (3 = k))] ++ [.bl (decide (4 = k)), .bl (decide (5 = k)), .bl (decide (6 = k)), .bl (decide (7 = k))]))) p0 = some (.lst [.bl (decide (0 = k)), .bl (decide (1 = k)), .bl (decide (2 = k)), .bl (decide (3 = k)), .bl (decide (4 = k)), .bl (decide (5 = k)), .bl (decide (6 = k)), .bl (decide (7 = k))]) := upd_same
  have d2 := s2 _ _ hd
  try dsimp only [tNext]
  generalize hG2 : (upd (upd G1 u1 (.lst [.bl (decide (4 = k)), .bl (decide (5 = k)), .bl (decide (6 = k)), .bl (decide (7 = k))])) p0 (.lst ([.bl (decide (0 = k)), .bl (decide (1 = k)), .bl (decide (2 = k)), .bl (decide (3 = k))] ++ [.bl (decide (4 = k)), .bl (decide (5 = k)), .bl (decide (6 = k)), .bl (decide (7 = k))]))) = G2 at *
  refine ⟨_, rfl, .inl ⟨rfl, _, SqL.of e2⟩, _, rfl, _, _, _, fs, rfl, EC, d2, .own _, is 8 (by decide), _, rfl, _, _, _, fs, rfl, EC, d2, .own _, is 9 (by decide), _, rfl, _, _, _, fs, rfl, EC, d2, .own _, is 10 (by decide), _, rfl, _, _, _, fs, rfl, EC, d2, .own _, is 11 (by decide), by show 4 ≤ sizeLine; decide, fun u2 hu2 => ?_⟩
  have k2 := same_new (o := .lst [.bl (decide (8 = k)), .bl (decide (9 = k)), .bl (decide (10 = k)), .bl (decide (11 = k))]) hu2
  refine ⟨p0, u2, _, _, rfl, rfl, k2 _ _ e2, upd_same, by show 8 + 4 ≤ sizeLine; decide, ?_⟩
  have s3 : Same H (upd (upd G2 u2 (.lst [.bl (decide (8 = k)), .bl (decide (9 = k)), .bl (decide (10 = k)), .bl (decide (11 = k))])) p0 (.lst ([.bl (decide (0 = k)), .bl (decide (1 = k)), .bl (decide (2 = k)), .bl (decide (3 = k)), .bl (decide (4 = k)), .bl (decide (5 = k)), .bl (decide (6 = k)), .bl (decide (7 = k))] ++ [.bl (decide (8 = k)), .bl (decide (9 = k)), .bl (decide (10 = k)), .bl (decide (11 = k))]))) := fun b o e => by
    rw [upd_ne (ne_of_none e h0)]
    exact k2 _ _ (s2 _ _ e)
  have e3 : (upd (upd G2 u2 (.lst [.bl (decide (8 = k)), .bl (decide (9 = k)), .bl (decide (10 = k)), .bl (decide (11 = k))])) p0 (.lst ([.bl (decide (0 = k)), .bl (decide (1 = k)), .bl (decide (2 = k)), .bl (decide (3 = k)), .bl (decide (4 = k)), .bl (decide (5 = k)), .bl (decide (6 = k)), .bl (decide (7 = k))] ++ [.bl (decide (8 = k)), .bl (decide (9 = k)), .bl (decide (10 = k)), .bl (decide (11 = k))]))) p0 = some (.lst [.bl (decide (0 = k)), .bl (decide (1 = k)), .bl (decide (2 = k)), .bl (decide (3 = k)), .bl (decide (4 = k)), .bl (decide (5 = k)), .bl (decide (6 = k)), .bl (decide (7 = k)), .bl (decide (8 = k)), .bl (decide (9 = k)), .bl (decide (10 = k)), .bl (decide (11 = k))]) := upd_same
  have d3 := s3 _ _ hd
  try dsimp only [tNext]
  generalize hG3 : (upd (upd G2 u2 (.lst [.bl (decide (8 = k)), .bl (decide (9 = k)), .bl (decide (10 = k)), .bl (decide (11 = k))])) p0 (.lst ([.bl (decide (0 = k)), .bl (decide (1 = k)), .bl (decide (2 = k)), .bl (decide (3 = k)), .bl (decide (4 = k)), .bl (decide (5 = k)), .bl (decide (6 = k)), .bl (decide (7 = k))] ++ [.bl (decide (8 = k)), .bl (decide (9 = k)), .bl (decide (10 = k)), .bl (decide (11 = k))]))) = G3 at *
  refine ⟨_, rfl, .inl ⟨rfl, _, SqL.of e3⟩, _, rfl, _, _, _, fs, rfl, EC, d3, .own _, is 12 (by decide), _, rfl, _, _, _, fs, rfl, EC, d3, .own _, is 13 (by decide), _, rfl, _, _, _, fs, rfl, EC, d3, .own _, is 14 (by decide), _, rfl, _, _, _, fs, rfl, EC, d3, .own _, is 15 (by decide), by show 4 ≤ sizeLine; decide, fun u3 hu3 => ?_⟩
  have k3 := same_new (o := .lst [.bl (decide (12 = k)), .bl (decide (13 = k)), .bl (decide (14 = k)), .bl (decide (15 = k))]) hu3
  refine ⟨p0, u3, _, _, rfl, rfl, k3 _ _ e3, upd_same, by show 12 + 4 ≤ sizeLine; decide, ?_⟩
  have s4 : Same H (upd (upd G3 u3 (.lst [.bl (decide (12 = k)), .bl (decide (13 = k)), .bl (decide (14 = k)), .bl (decide (15 = k))])) p0 (.lst ([.bl (decide (0 = k)), .bl (decide (1 = k)), .bl (decide (2 = k)), .bl (decide (3 = k)), .bl (decide (4 = k)), .bl (decide (5 = k)), .bl (decide (6 = k)), .bl (decide (7 = k)), .bl (decide (8 = k)), .bl (decide (9 = k)), .bl (decide (10 = k)), .bl (decide (11 = k))] ++ [.bl (decide (12 = k)), .bl (decide (13 = k)), .bl (decide (14 = k)), .bl (decide (15 = k))]))) := fun b o e => by
    rw [upd_ne (ne_of_none e h0)]
    exact k3 _ _ (s3 _ _ e)
  have e4 : (upd (upd G3 u3 (.lst [.bl (decide (12 = k)), .bl (decide (13 = k)), .bl (decide (14 = k)), .bl (decide (15 = k))])) p0 (.lst ([.bl (decide (0 = k)), .bl (decide (1 = k)), .bl (decide (2 = k)), .bl (decide (3 = k)), .bl (decide (4 = k)), .bl (decide (5 = k)), .bl (decide (6 = k)), .bl (decide (7 = k)), .bl (decide (8 = k)), .bl (decide (9 = k)), .bl (decide (10 = k)), .bl (decide (11 = k))] ++ [.bl (decide (12 = k)), .bl (decide (13 = k)), .bl (decide (14 = k)), .bl (decide (15 = k))]))) p0 = some (.lst [.bl (decide (0 = k)), .bl (decide (1 = k)), .bl (decide (2 = k)), .bl (decide (3 = k)), .bl (decide (4 = k)), .bl (decide (5 = k)), .bl (decide (6 = k)), .bl (decide (7 = k)), .bl (decide (8 = k)), .bl (decide (9 = k)), .bl (decide (10 = k)), .bl (decide (11 = k)), .bl (decide (12 = k)), .bl (decide (13 = k)), .bl (decide (14 = k)), .bl (decide (15 = k))]) := upd_same
  have d4 := s4 _ _ hd
  try dsimp only [tNext]
  generalize hG4 : (upd (upd G3 u3 (.lst [.bl (decide (12 = k)), .bl (decide (13 = k)), .bl (decide (14 = k)), .bl (decide (15 = k))])) p0 (.lst ([.bl (decide (0 = k)), .bl (decide (1 = k)), .bl (decide (2 = k)), .bl (decide (3 = k)), .bl (decide (4 = k)), .bl (decide (5 = k)), .bl (decide (6 = k)), .bl (decide (7 = k)), .bl (decide (8 = k)), .bl (decide (9 = k)), .bl (decide (10 = k)), .bl (decide (11 = k))] ++ [.bl (decide (12 = k)), .bl (decide (13 = k)), .bl (decide (14 = k)), .bl (decide (15 = k))]))) = G4 at *
  refine ⟨_, rfl, .inl ⟨rfl, _, SqL.of e4⟩, _, rfl, _, _, _, fs, rfl, EC, d4, .own _, is 16 (by decide), _, rfl, _, _, _, fs, rfl, EC, d4, .own _, is 17 (by decide), _, rfl, _, _, _, fs, rfl, EC, d4, .own _, is 18 (by decide), _, rfl, _, _, _, fs, rfl, EC, d4, .own _, is 19 (by decide), by show 4 ≤ sizeLine; decide, fun u4 hu4 => ?_⟩
  have k4 := same_new (o := .lst [.bl (decide (16 = k)), .bl (decide (17 = k)), .bl (decide (18 = k)), .bl (decide (19 = k))]) hu4
  refine ⟨p0, u4, _, _, rfl, rfl, k4 _ _ e4, upd_same, by show 16 + 4 ≤ sizeLine; decide, ?_⟩
  have s5 : Same H (upd (upd G4 u4 (.lst [.bl (decide (16 = k)), .bl (decide (17 = k)), .bl (decide (18 = k)), .bl (decide (19 = k))])) p0 (.lst ([.bl (decide (0 = k)), .bl (decide (1 = k)), .bl (decide (2 = k)), .bl (decide (3 = k)), .bl (decide (4 = k)), .bl (decide (5 = k)), .bl (decide (6 = k)), .bl (decide (7 = k)), .bl (decide (8 = k)), .bl (decide (9 = k)), .bl (decide (10 = k)), .bl (decide (11 = k)), .bl (decide (12 = k)), .bl (decide (13 = k)), .bl (decide (14 = k)), .bl (decide (15 = k))] ++ [.bl (decide (16 = k)), .bl (decide (17 = k)), .bl (decide (18 = k)), .bl (decide (19 = k))]))) := fun b o e => by
    rw [upd_ne (ne_of_none e h0)]
    exact k4 _ _ (s4 _ _ e)
  have e5 : (upd (upd G4 u4 (.lst [.bl (decide (16 = k)), .bl (decide (17 = k)), .bl (decide (18 = k)), .bl (decide (19 = k))])) p0 (.lst ([.bl (decide (0 = k)), .bl (decide (1 = k)), .bl (decide (2 = k)), .bl (decide (3 = k)), .bl (decide (4 = k)), .bl (decide (5 = k)), .bl (decide (6 = k)), .bl (decide (7 = k)), .bl (decide (8 = k)), .bl (decide (9 = k)), .bl (decide (10 = k)), .bl (decide (11 = k)), .bl (decide (12 = k)), .bl (decide (13 = k)), .bl (decide (14 = k)), .bl (decide (15 = k))] ++ [.bl (decide (16 = k)), .bl (decide (17 = k)), .bl (decide (18 = k)), .bl (decide (19 = k))]))) p0 = some (.lst [.bl (decide (0 = k)), .bl (decide (1 = k)), .bl (decide (2 = k)), .bl (decide (3 = k)), .bl (decide (4 = k)), .bl (decide (5 = k)), .bl (decide (6 = k)), .bl (decide (7 = k)), .bl (decide (8 = k)), .bl (decide (9 = k)), .bl (decide (10 = k)), .bl (decide (11 = k)), .bl (decide (12 = k)), .bl (decide (13 = k)), .bl (decide (14 = k)), .bl (decide (15 = k)), .bl (decide (16 = k)), .bl (decide (17 = k)), .bl (decide (18 = k)), .bl (decide (19 = k))]) := upd_same
  have d5 := s5 _ _ hd
  try dsimp only [tNext]
  generalize hG5 : (upd (upd G4 u4 (.lst [.bl (decide (16 = k)), .bl (decide (17 = k)), .bl (decide (18 = k)), .bl (decide (19 = k))])) p0 (.lst ([.bl (decide (0 = k)), .bl (decide (1 = k)), .bl (decide (2 = k)), .bl (decide (3 = k)), .bl (decide (4 = k)), .bl (decide (5 = k)), .bl (decide (6 = k)), .bl (decide (7 = k)), .bl (decide (8 = k)), .bl (decide (9 = k)), .bl (decide (10 = k)), .bl (decide (11 = k)), .bl (decide (12 = k)), .bl (decide (13 = k)), .bl (decide (14 = k)), .bl (decide (15 = k))] ++ [.bl (decide (16 = k)), .bl (decide (17 = k)), .bl (decide (18 = k)), .bl (decide (19 = k))]))) = G5 at *
  refine ⟨_, rfl, .inl ⟨rfl, _, SqL.of e5⟩, _, rfl, _, _, _, fs, rfl, EC, d5, .own _, is 20 (by decide), _, rfl, _, _, _, fs, rfl, EC, d5, .own _, is 21 (by decide), _, rfl, _, _, _, fs, rfl, EC, d5, .own _, is 22 (by decide), _, rfl, _, _, _, fs, rfl, EC, d5, .own _, is 23 (by decide), by show 4 ≤ sizeLine; decide, fun u5 hu5 => ?_⟩
  have k5 := same_new (o := .lst [.bl (decide (20 = k)), .bl (decide (21 = k)), .bl (decide (22 = k)), .bl (decide (23 = k))]) hu5
  refine ⟨p0, u5, _, _, rfl, rfl, k5 _ _ e5, upd_same, by show 20 + 4 ≤ sizeLine; decide, ?_⟩
  have s6 : Same H (upd (upd G5 u5 (.lst [.bl (decide (20 = k)), .bl (decide (21 = k)), .bl (decide (22 = k)), .bl (decide (23 = k))])) p0 (.lst ([.bl (decide (0 = k)), .bl (decide (1 = k)), .bl (decide (2 = k)), .bl (decide (3 = k)), .bl (decide (4 = k)), .bl (decide (5 = k)), .bl (decide (6 = k)), .bl (decide (7 = k)), .bl (decide (8 = k)), .bl (decide (9 = k)), .bl (decide (10 = k)), .bl (decide (11 = k)), .bl (decide (12 = k)), .bl (decide (13 = k)), .bl (decide (14 = k)), .bl (decide (15 = k)), .bl (decide (16 = k)), .bl (decide (17 = k)), .bl (decide (18 = k)), .bl (decide (19 = k))] ++ [.bl (decide (20 = k)), .bl (decide (21 = k)), .bl (decide (22 = k)), .bl (decide (23 = k))]))) := fun b o e => by
    rw [upd_ne (ne_of_none e h0)]
    exact k5 _ _ (s5 _ _ e)
  have e6 : (upd (upd G5 u5 (.lst [.bl (decide (20 = k)), .bl (decide (21 = k)), .bl (decide (22 = k)), .bl (decide (23 = k))])) p0 (.lst ([.bl (decide (0 = k)), .bl (decide (1 = k)), .bl (decide (2 = k)), .bl (decide (3 = k)), .bl (decide (4 = k)), .bl (decide (5 = k)), .bl (decide (6 = k)), .bl (decide (7 = k)), .bl (decide (8 = k)), .bl (decide (9 = k)), .bl (decide (10 = k)), .bl (decide (11 = k)), .bl (decide (12 = k)), .bl (decide (13 = k)), .bl (decide (14 = k)), .bl (decide (15 = k)), .bl (decide (16 = k)), .bl (decide (17 = k)), .bl (decide (18 = k)), .bl (decide (19 = k))] ++ [.bl (decide (20 = k)), .bl (decide (21 = k)), .bl (decide (22 = k)), .bl (decide (23 = k))]))) p0 = some (.lst [.bl (decide (0 = k)), .bl (decide (1 = k)), .bl (decide (2 = k)), .bl (decide (3 = k)), .bl (decide (4 = k)), .bl (decide (5 = k)), .bl (decide (6 = k)), .bl (decide (7 = k)), .bl (decide (8 = k)), .bl (decide (9 = k)), .bl (decide (10 = k)), .bl (decide (11 = k)), .bl (decide (12 = k)), .bl (decide (13 = k)), .bl (decide (14 = k)), .bl (decide (15 = k)), .bl (decide (16 = k)), .bl (decide (17 = k)), .bl (decide (18 = k)), .bl (decide (19 = k)), .bl (decide (20 = k)), .bl (decide (21 = k)), .bl (decide (22 = k)), .bl (decide (23 = k))]) := upd_same
  have d6 := s6 _ _ hd
  try dsimp only [tNext]
  generalize hG6 : (upd (upd G5 u5 (.lst [.bl (decide (20 = k)), .bl (decide (21 = k)), .bl (decide (22 = k)), .bl (decide (23 = k))])) p0 (.lst ([.bl (decide (0 = k)), .bl (decide (1 = k)), .bl (decide (2 = k)), .bl (decide (3 = k)), .bl (decide (4 = k)), .bl (decide (5 = k)), .bl (decide (6 = k)), .bl (decide (7 = k)), .bl (decide (8 = k)), .bl (decide (9 = k)), .bl (decide (10 = k)), .bl (decide (11 = k)), .bl (decide (12 = k)), .bl (decide (13 = k)), .bl (decide (14 = k)), .bl (decide (15 = k)), .bl (decide (16 = k)), .bl (decide (17 = k)), .bl (decide (18 = k)), .bl (decide (19 = k))] ++ [.bl (decide (20 = k)), .bl (decide (21 = k)), .bl (decide (22 = k)), .bl (decide (23 = k))]))) = G6 at *
  refine ⟨_, rfl, .inl ⟨rfl, _, SqL.of e6⟩, _, rfl, _, _, _, fs, rfl, EC, d6, .own _, is 24 (by decide), _, rfl, _, _, _, fs, rfl, EC, d6, .own _, is 25 (by decide), by show 2 ≤ sizeLine; decide, fun u6 hu6 => ?_⟩
  have k6 := same_new (o := .lst [.bl (decide (24 = k)), .bl (decide (25 = k))]) hu6
  refine ⟨p0, u6, _, _, rfl, rfl, k6 _ _ e6, upd_same, by show 24 + 2 ≤ sizeLine; decide, ?_⟩
  have s7 : Same H (upd (upd G6 u6 (.lst [.bl (decide (24 = k)), .bl (decide (25 = k))])) p0 (.lst ([.bl (decide (0 = k)), .bl (decide (1 = k)), .bl (decide (2 = k)), .bl (decide (3 = k)), .bl (decide (4 = k)), .bl (decide (5 = k)), .bl (decide (6 = k)), .bl (decide (7 = k)), .bl (decide (8 = k)), .bl (decide (9 = k)), .bl (decide (10 = k)), .bl (decide (11 = k)), .bl (decide (12 = k)), .bl (decide (13 = k)), .bl (decide (14 = k)), .bl (decide (15 = k)), .bl (decide (16 = k)), .bl (decide (17 = k)), .bl (decide (18 = k)), .bl (decide (19 = k)), .bl (decide (20 = k)), .bl (decide (21 = k)), .bl (decide (22 = k)), .bl (decide (23 = k))] ++ [.bl (decide (24 = k)), .bl (decide (25 = k))]))) := fun b o e => by
    rw [upd_ne (ne_of_none e h0)]
    exact k6 _ _ (s6 _ _ e)
  have e7 : (upd (upd G6 u6 (.lst [.bl (decide (24 = k)), .bl (decide (25 = k))])) p0 (.lst ([.bl (decide (0 = k)), .bl (decide (1 = k)), .bl (decide (2 = k)), .bl (decide (3 = k)), .bl (decide (4 = k)), .bl (decide (5 = k)), .bl (decide (6 = k)), .bl (decide (7 = k)), .bl (decide (8 = k)), .bl (decide (9 = k)), .bl (decide (10 = k)), .bl (decide (11 = k)), .bl (decide (12 = k)), .bl (decide (13 = k)), .bl (decide (14 = k)), .bl (decide (15 = k)), .bl (decide (16 = k)), .bl (decide (17 = k)), .bl (decide (18 = k)), .bl (decide (19 = k)), .bl (decide (20 = k)), .bl (decide (21 = k)), .bl (decide (22 = k)), .bl (decide (23 = k))] ++ [.bl (decide (24 = k)), .bl (decide (25 = k))]))) p0 = some (.lst [.bl (decide (0 = k)), .bl (decide (1 = k)), .bl (decide (2 = k)), .bl (decide (3 = k)), .bl (decide (4 = k)), .bl (decide (5 = k)), .bl (decide (6 = k)), .bl (decide (7 = k)), .bl (decide (8 = k)), .bl (decide (9 = k)), .bl (decide (10 = k)), .bl (decide (11 = k)), .bl (decide (12 = k)), .bl (decide (13 = k)), .bl (decide (14 = k)), .bl (decide (15 = k)), .bl (decide (16 = k)), .bl (decide (17 = k)), .bl (decide (18 = k)), .bl (decide (19 = k)), .bl (decide (20 = k)), .bl (decide (21 = k)), .bl (decide (22 = k)), .bl (decide (23 = k)), .bl (decide (24 = k)), .bl (decide (25 = k))]) := upd_same
  have d7 := s7 _ _ hd
  try dsimp only [tNext]
  generalize hG7 : (upd (upd G6 u6 (.lst [.bl (decide (24 = k)), .bl (decide (25 = k))])) p0 (.lst ([.bl (decide (0 = k)), .bl (decide (1 = k)), .bl (decide (2 = k)), .bl (decide (3 = k)), .bl (decide (4 = k)), .bl (decide (5 = k)), .bl (decide (6 = k)), .bl (decide (7 = k)), .bl (decide (8 = k)), .bl (decide (9 = k)), .bl (decide (10 = k)), .bl (decide (11 = k)), .bl (decide (12 = k)), .bl (decide (13 = k)), .bl (decide (14 = k)), .bl (decide (15 = k)), .bl (decide (16 = k)), .bl (decide (17 = k)), .bl (decide (18 = k)), .bl (decide (19 = k)), .bl (decide (20 = k)), .bl (decide (21 = k)), .bl (decide (22 = k)), .bl (decide (23 = k))] ++ [.bl (decide (24 = k)), .bl (decide (25 = k))]))) = G7 at *
  exact ⟨_, rfl, q p0 _ s7 h0 e7⟩
end
end Hr

set_option Elab.async false
set_option linter.all false
set_option maxRecDepth 100000
set_option maxHeartbeats 4000000
namespace Hr
open PySem PySem.Spec PyProof.Rows L2
section
variable {P : Program} {w : World} {K : PySem.W.Frag} {mg : Str → Option Value} {base : Heap}
/-- what the written part says of the k-th class of errors -/
structure EK (K : PySem.W.Frag) (mg : Str → Option Value) (k : Nat) : Prop where
  xc : XcC K (adr (mg (eC k)))
  ex : ExcC K (adr (mg (eC k)))
  nw : PySem.W.findIn K (.ref (adr (mg (eC k)))) "word" = some none
  isF : ∀ j, j < 26 → PySem.W.kitOne K (.ref (adr (mg (eC k)))) (.ref (adr (mg (eC j)))) = some (decide (j = k))
  isV : PySem.W.kitOne K (.ref (adr (mg (eC k)))) (.type "ValueError") = some (decide (k < 21))
  isN : PySem.W.kitOne K (.ref (adr (mg (eC k)))) (.ref (adr (mg "NotFound"))) = some (decide (21 ≤ k))
  isL : PySem.W.kitOne K (.ref (adr (mg (eC k)))) (.type "LookupError") = some (decide (21 ≤ k))
  isK : PySem.W.kitOne K (.ref (adr (mg (eC k)))) (.type "KeyError") = some false
  cls : PySem.W.exmOne K (.ref (adr (mg (eC k)))) (.ref (adr (mg "RankError"))) = some (decide (k < 21))
  cls2 : ¬ k < 21 → PySem.W.exmOne K (.ref (adr (mg (eC k)))) (.ref (adr (mg "NotFound"))) = some true
theorem ek_of (T : Txt K mg) : ∀ k, k < 26 → EK K mg k := by
  intro k hk
  have h := List.all_eq_true.mp T.ek k (List.mem_range.mpr hk)
  have g : ∀ j, j < 26 → ((List.range 26).map fun k => adr (mg (eC k))).getD j 0 = adr (mg (eC j)) := fun j hj => by
    rw [List.getD_eq_getElem?_getD, List.getElem?_map, List.getElem?_range hj]
    rfl
  unfold ekB at h
  rw [g k hk] at h
  simp only [Bool.and_eq_true, decide_eq_true_eq] at h
  obtain ⟨a1, a2, a3, a4, a5, a6, a7⟩ := h
  have b : XcC K (adr (mg (eC k))) ∧ PySem.W.exmOne K (.ref (adr (mg (eC k)))) (.ref (adr (mg "RankError"))) = some (decide (k < 21)) ∧ (¬ k < 21 → PySem.W.exmOne K (.ref (adr (mg (eC k)))) (.ref (adr (mg "NotFound"))) = some true) := by
    match k, hk with
    | 0, _ => exact ⟨T.x_InvalidName, T.e_InvalidName, fun z => absurd (by decide) z⟩
    | 1, _ => exact ⟨T.x_InvalidValue, T.e_InvalidValue, fun z => absurd (by decide) z⟩
    | 2, _ => exact ⟨T.x_DuplicateName, T.e_DuplicateName, fun z => absurd (by decide) z⟩
    | 3, _ => exact ⟨T.x_LimitReached, T.e_LimitReached, fun z => absurd (by decide) z⟩
    | 4, _ => exact ⟨T.x_InvalidRequest, T.e_InvalidRequest, fun z => absurd (by decide) z⟩
    | 5, _ => exact ⟨T.x_InvalidNumber, T.e_InvalidNumber, fun z => absurd (by decide) z⟩
    | 6, _ => exact ⟨T.x_InvalidCondition, T.e_InvalidCondition, fun z => absurd (by decide) z⟩
    | 7, _ => exact ⟨T.x_InvalidPair, T.e_InvalidPair, fun z => absurd (by decide) z⟩
    | 8, _ => exact ⟨T.x_InvalidReport, T.e_InvalidReport, fun z => absurd (by decide) z⟩
    | 9, _ => exact ⟨T.x_InvalidSlot, T.e_InvalidSlot, fun z => absurd (by decide) z⟩
    | 10, _ => exact ⟨T.x_NotADeadlock, T.e_NotADeadlock, fun z => absurd (by decide) z⟩
    | 11, _ => exact ⟨T.x_InvalidOutcomes, T.e_InvalidOutcomes, fun z => absurd (by decide) z⟩
    | 12, _ => exact ⟨T.x_NothingMatches, T.e_NothingMatches, fun z => absurd (by decide) z⟩
    | 13, _ => exact ⟨T.x_SameRule, T.e_SameRule, fun z => absurd (by decide) z⟩
    | 14, _ => exact ⟨T.x_KnownOrder, T.e_KnownOrder, fun z => absurd (by decide) z⟩
    | 15, _ => exact ⟨T.x_Contradiction, T.e_Contradiction, fun z => absurd (by decide) z⟩
    | 16, _ => exact ⟨T.x_InvalidMoment, T.e_InvalidMoment, fun z => absurd (by decide) z⟩
    | 17, _ => exact ⟨T.x_InvalidCommand, T.e_InvalidCommand, fun z => absurd (by decide) z⟩
    | 18, _ => exact ⟨T.x_BatchFailed, T.e_BatchFailed, fun z => absurd (by decide) z⟩
    | 19, _ => exact ⟨T.x_InvalidText, T.e_InvalidText, fun z => absurd (by decide) z⟩
    | 20, _ => exact ⟨T.x_InvalidFile, T.e_InvalidFile, fun z => absurd (by decide) z⟩
    | 21, _ => exact ⟨T.x_UnknownField, T.e_UnknownField, fun z => T.e2_UnknownField⟩
    | 22, _ => exact ⟨T.x_UnknownValue, T.e_UnknownValue, fun z => T.e2_UnknownValue⟩
    | 23, _ => exact ⟨T.x_UnknownEffect, T.e_UnknownEffect, fun z => T.e2_UnknownEffect⟩
    | 24, _ => exact ⟨T.x_UnknownRule, T.e_UnknownRule, fun z => T.e2_UnknownRule⟩
    | 25, _ => exact ⟨T.x_NothingLeft, T.e_NothingLeft, fun z => T.e2_NothingLeft⟩
    | _ + 26, h => exact absurd h (by omega)
  refine ⟨b.1, exB_of a1, a2, fun j hj => ?_, a4, a5, a6, a7, b.2.1, b.2.2⟩
  have := List.all_eq_true.mp a3 j (List.mem_range.mpr hj)
  rw [g j hj, decide_eq_true_eq] at this
  exact this
theorem eF_word (a b : V) : ∀ k, k < 26 → (eF a b k).lookup ("word" : Str) = some (.str (eW k)) := by
  intro k hk
  match k, hk with
  | 0, _ => rfl
  | 1, _ => rfl
  | 2, _ => rfl
  | 3, _ => rfl
  | 4, _ => rfl
  | 5, _ => rfl
  | 6, _ => rfl
  | 7, _ => rfl
  | 8, _ => rfl
  | 9, _ => rfl
  | 10, _ => rfl
  | 11, _ => rfl
  | 12, _ => rfl
  | 13, _ => rfl
  | 14, _ => rfl
  | 15, _ => rfl
  | 16, _ => rfl
  | 17, _ => rfl
  | 18, _ => rfl
  | 19, _ => rfl
  | 20, _ => rfl
  | 21, _ => rfl
  | 22, _ => rfl
  | 23, _ => rfl
  | 24, _ => rfl
  | 25, _ => rfl
  | _ + 26, h => exact absurd h (by omega)

theorem eW_ok : ∀ k, k < 26 → PyData.strOk (eW k) = true := by decide +kernel
theorem dpa_bls {H : Hp} : ∀ (bs : List Bool), DpAll K H (bs.map V.bl) (bs.map PyData.bool)
  | [] => .nil
  | b :: r => .cons (.bl b) (dpa_bls r)
def flD (k : Nat) : PyData := .list (((List.range 26).map fun j => decide (j = k)).map PyData.bool)
def tailD (k : Nat) : PyData := .list (([decide (k < 21), decide (21 ≤ k), decide (21 ≤ k), false] : List Bool).map PyData.bool)
theorem deep_bls {n : Nat} {bs : List Bool} (h : bs.length < 50000) : deep (n + 2) (.list (bs.map PyData.bool)) = true := deep_list_of (by rw [List.length_map]; exact h) fun d hd => by
  obtain ⟨b, _, rfl⟩ := List.mem_map.mp hd
  unfold deep
  rfl
theorem made1 {C : Addr} {n word : Str} {v : V} {H : Hp} {Q : VK} (x : XcC K C) (no : PySem.W.findIn K (.ref C) n = some none) (hne : n ≠ "word") (q : ∀ H', Same H H' → Q v H') : ([v] : List V).length ≤ 1000 ∧ ∀ a, H a = none → sp_xi C n word (.ref a :: [v]) (upd H a (exo a C none))
    (fun u H2 => u = .non ∧ ∃ (a' C' d : Addr) (fs : List (Str × V)) (v' : V), V.ref a = .ref a' ∧ XcC K C' ∧ PySem.W.findIn K (.ref C') n = some none ∧ H2 a' = some (exo a' C' (some d)) ∧ H2 d = some (exd d fs) ∧ fs.lookup n = some v' ∧ Q v' H2) (fun _ _ _ => False) := by
  refine ⟨by show 1 ≤ 1000; decide, fun a na => ⟨a, v, rfl, upd_same, fun d H' nd hd e1 e2 k => ⟨rfl, a, C, d, _, v, rfl, x, no, e1, e2, ?_, q H' fun b o e => k b o (ne_of_none e na) (by rw [upd_ne (ne_of_none e na)]; exact e)⟩⟩⟩
  rw [lookup_put, if_neg hne, lookup_put, if_pos rfl]
theorem made2 {C : Addr} {n m word : Str} {v u : V} {H : Hp} {Q : VK} (x : XcC K C) (f : Str) (y : V) (no : PySem.W.findIn K (.ref C) f = some none) (hl : ([("word", .str word), (m, u), (n, v)] : List (Str × V)).lookup f = some y) (q : ∀ H', Same H H' → Q y H') : ([v, u] : List V).length ≤ 1000 ∧ ∀ a, H a = none → sp_xi2 C n m word (.ref a :: [v, u]) (upd H a (exo a C none))
    (fun w H2 => w = .non ∧ ∃ (a' C' d : Addr) (fs : List (Str × V)) (v' : V), V.ref a = .ref a' ∧ XcC K C' ∧ PySem.W.findIn K (.ref C') f = some none ∧ H2 a' = some (exo a' C' (some d)) ∧ H2 d = some (exd d fs) ∧ fs.lookup f = some v' ∧ Q v' H2) (fun _ _ _ => False) :=
  ⟨by show 2 ≤ 1000; decide, fun a na => ⟨a, v, u, rfl, upd_same, fun d H' nd hd e1 e2 k => ⟨rfl, a, C, d, _, y, rfl, x, no, e1, e2, hl, q H' fun b o e => k b o (ne_of_none e na) (by rw [upd_ne (ne_of_none e na)]; exact e)⟩⟩⟩
theorem ok_law {f : Addr} {fd : FuncData} (T : Txt K mg) (F : Fun K "law" "law" s_law f fd) : FnOk P w K mg base CX0 60 f fd ["_law_script"] (sp_law K) := by
  obtain ⟨f__law_bag, fd__law_bag, F__law_bag, b__law_bag, g__law_bag⟩ := T.h__law_bag
  obtain ⟨f__law_pull, fd__law_pull, F__law_pull, b__law_pull, g__law_pull⟩ := T.h__law_pull
  obtain ⟨f__law_raised, fd__law_raised, F__law_raised, b__law_raised, g__law_raised⟩ := T.h__law_raised
  obtain ⟨f__law_same, fd__law_same, F__law_same, b__law_same, g__law_same⟩ := T.h__law_same
  obtain ⟨f_InvalidName___init__, fd_InvalidName___init__, F_InvalidName___init__, b_InvalidName___init__, i_InvalidName___init__, t_InvalidName___init__⟩ := T.h_InvalidName___init__
  obtain ⟨f_InvalidValue___init__, fd_InvalidValue___init__, F_InvalidValue___init__, b_InvalidValue___init__, i_InvalidValue___init__, t_InvalidValue___init__⟩ := T.h_InvalidValue___init__
  obtain ⟨f_DuplicateName___init__, fd_DuplicateName___init__, F_DuplicateName___init__, b_DuplicateName___init__, i_DuplicateName___init__, t_DuplicateName___init__⟩ := T.h_DuplicateName___init__
  obtain ⟨f_LimitReached___init__, fd_LimitReached___init__, F_LimitReached___init__, b_LimitReached___init__, i_LimitReached___init__, t_LimitReached___init__⟩ := T.h_LimitReached___init__
  obtain ⟨f_InvalidRequest___init__, fd_InvalidRequest___init__, F_InvalidRequest___init__, b_InvalidRequest___init__, i_InvalidRequest___init__, t_InvalidRequest___init__⟩ := T.h_InvalidRequest___init__
  obtain ⟨f_InvalidNumber___init__, fd_InvalidNumber___init__, F_InvalidNumber___init__, b_InvalidNumber___init__, i_InvalidNumber___init__, t_InvalidNumber___init__⟩ := T.h_InvalidNumber___init__
  obtain ⟨f_InvalidCondition___init__, fd_InvalidCondition___init__, F_InvalidCondition___init__, b_InvalidCondition___init__, i_InvalidCondition___init__, t_InvalidCondition___init__⟩ := T.h_InvalidCondition___init__
  obtain ⟨f_InvalidPair___init__, fd_InvalidPair___init__, F_InvalidPair___init__, b_InvalidPair___init__, i_InvalidPair___init__, t_InvalidPair___init__⟩ := T.h_InvalidPair___init__
  obtain ⟨f_InvalidReport___init__, fd_InvalidReport___init__, F_InvalidReport___init__, b_InvalidReport___init__, i_InvalidReport___init__, t_InvalidReport___init__⟩ := T.h_InvalidReport___init__
  obtain ⟨f_InvalidSlot___init__, fd_InvalidSlot___init__, F_InvalidSlot___init__, b_InvalidSlot___init__, i_InvalidSlot___init__, t_InvalidSlot___init__⟩ := T.h_InvalidSlot___init__
  obtain ⟨f_NothingMatches___init__, fd_NothingMatches___init__, F_NothingMatches___init__, b_NothingMatches___init__, i_NothingMatches___init__, t_NothingMatches___init__⟩ := T.h_NothingMatches___init__
  obtain ⟨f_SameRule___init__, fd_SameRule___init__, F_SameRule___init__, b_SameRule___init__, i_SameRule___init__, t_SameRule___init__⟩ := T.h_SameRule___init__
  obtain ⟨f_KnownOrder___init__, fd_KnownOrder___init__, F_KnownOrder___init__, b_KnownOrder___init__, i_KnownOrder___init__, t_KnownOrder___init__⟩ := T.h_KnownOrder___init__
  obtain ⟨f_Contradiction___init__, fd_Contradiction___init__, F_Contradiction___init__, b_Contradiction___init__, i_Contradiction___init__, t_Contradiction___init__⟩ := T.h_Contradiction___init__
  obtain ⟨f_InvalidMoment___init__, fd_InvalidMoment___init__, F_InvalidMoment___init__, b_InvalidMoment___init__, i_InvalidMoment___init__, t_InvalidMoment___init__⟩ := T.h_InvalidMoment___init__
  obtain ⟨f_BatchFailed___init__, fd_BatchFailed___init__, F_BatchFailed___init__, b_BatchFailed___init__, i_BatchFailed___init__, t_BatchFailed___init__⟩ := T.h_BatchFailed___init__
  obtain ⟨f_InvalidFile___init__, fd_InvalidFile___init__, F_InvalidFile___init__, b_InvalidFile___init__, i_InvalidFile___init__, t_InvalidFile___init__⟩ := T.h_InvalidFile___init__
  obtain ⟨f_UnknownField___init__, fd_UnknownField___init__, F_UnknownField___init__, b_UnknownField___init__, i_UnknownField___init__, t_UnknownField___init__⟩ := T.h_UnknownField___init__
  obtain ⟨f_UnknownValue___init__, fd_UnknownValue___init__, F_UnknownValue___init__, b_UnknownValue___init__, i_UnknownValue___init__, t_UnknownValue___init__⟩ := T.h_UnknownValue___init__
  obtain ⟨f_UnknownEffect___init__, fd_UnknownEffect___init__, F_UnknownEffect___init__, b_UnknownEffect___init__, i_UnknownEffect___init__, t_UnknownEffect___init__⟩ := T.h_UnknownEffect___init__
  obtain ⟨f_UnknownRule___init__, fd_UnknownRule___init__, F_UnknownRule___init__, b_UnknownRule___init__, i_UnknownRule___init__, t_UnknownRule___init__⟩ := T.h_UnknownRule___init__
  obtain ⟨f__law_words, fd__law_words, F__law_words, b__law_words, g__law_words⟩ := T.h__law_words
  obtain ⟨f__law_flags, fd__law_flags, F__law_flags, b__law_flags, g__law_flags⟩ := T.h__law_flags
  have G__law_bag := ok__law_bag (P := P) (w := w) (base := base) T F__law_bag
  have G__law_pull := ok__law_pull (P := P) (w := w) (base := base) T F__law_pull
  have G__law_same := ok__law_same (P := P) (w := w) (base := base) T F__law_same b__law_same g__law_same 4
  have G__law_words := ok__law_words (P := P) (w := w) (base := base) T F__law_words
  have G__law_raisedR := ok__law_raisedR (P := P) (w := w) (base := base) T F__law_raised
  have G__law_flags := ok__law_flags (P := P) (w := w) (base := base) T F__law_flags
  have G_InvalidName___init__ := ok_InvalidName___init__ (P := P) (w := w) (base := base) T F_InvalidName___init__
  have G_InvalidValue___init__ := ok_InvalidValue___init__ (P := P) (w := w) (base := base) T F_InvalidValue___init__
  have G_DuplicateName___init__ := ok_DuplicateName___init__ (P := P) (w := w) (base := base) T F_DuplicateName___init__
  have G_LimitReached___init__ := ok_LimitReached___init__ (P := P) (w := w) (base := base) T F_LimitReached___init__
  have G_InvalidRequest___init__ := ok_InvalidRequest___init__ (P := P) (w := w) (base := base) T F_InvalidRequest___init__
  have G_InvalidNumber___init__ := ok_InvalidNumber___init__ (P := P) (w := w) (base := base) T F_InvalidNumber___init__
  have G_InvalidCondition___init__ := ok_InvalidCondition___init__ (P := P) (w := w) (base := base) T F_InvalidCondition___init__
  have G_InvalidPair___init__ := ok_InvalidPair___init__ (P := P) (w := w) (base := base) T F_InvalidPair___init__
  have G_InvalidReport___init__ := ok_InvalidReport___init__ (P := P) (w := w) (base := base) T F_InvalidReport___init__
  have G_InvalidSlot___init__ := ok_InvalidSlot___init__ (P := P) (w := w) (base := base) T F_InvalidSlot___init__
  have G_NothingMatches___init__ := ok_NothingMatches___init__ (P := P) (w := w) (base := base) T F_NothingMatches___init__
  have G_SameRule___init__ := ok_SameRule___init__ (P := P) (w := w) (base := base) T F_SameRule___init__
  have G_KnownOrder___init__ := ok_KnownOrder___init__ (P := P) (w := w) (base := base) T F_KnownOrder___init__
  have G_Contradiction___init__ := ok_Contradiction___init__ (P := P) (w := w) (base := base) T F_Contradiction___init__
  have G_InvalidMoment___init__ := ok_InvalidMoment___init__ (P := P) (w := w) (base := base) T F_InvalidMoment___init__
  have G_BatchFailed___init__ := ok_BatchFailed___init__ (P := P) (w := w) (base := base) T F_BatchFailed___init__
  have G_InvalidFile___init__ := ok_InvalidFile___init__ (P := P) (w := w) (base := base) T F_InvalidFile___init__
  have G_UnknownField___init__ := ok_UnknownField___init__ (P := P) (w := w) (base := base) T F_UnknownField___init__
  have G_UnknownValue___init__ := ok_UnknownValue___init__ (P := P) (w := w) (base := base) T F_UnknownValue___init__
  have G_UnknownEffect___init__ := ok_UnknownEffect___init__ (P := P) (w := w) (base := base) T F_UnknownEffect___init__
  have G_UnknownRule___init__ := ok_UnknownRule___init__ (P := P) (w := w) (base := base) T F_UnknownRule___init__
  have TK := ek_of T
  refine F.ok sc_law (fun vs H Q E h => ?_) (fun cdv A outer s H vs Q E hr h => ?_)
  · obtain ⟨a, ns, rfl, _⟩ := h
    rfl
  obtain ⟨a, ns, rfl, hS, hn, q⟩ := h
  have hr__law_bag : Room 1 _ := hr.mono (by decide)
  have hr__law_pull : Room 1 _ := hr.mono (by decide)
  have hr__law_same : Room 4 _ := hr.mono (by decide)
  have hr__law_words : Room 1 _ := hr.mono (by decide)
  have hr__law_raised : Room 4 _ := hr.mono (by decide)
  have hr__law_flags : Room 1 _ := hr.mono (by decide)
  have hr_InvalidName___init__ : Room 2 _ := hr.mono (by decide)
  have hr_InvalidValue___init__ : Room 2 _ := hr.mono (by decide)
  have hr_DuplicateName___init__ : Room 2 _ := hr.mono (by decide)
  have hr_LimitReached___init__ : Room 2 _ := hr.mono (by decide)
  have hr_InvalidRequest___init__ : Room 2 _ := hr.mono (by decide)
  have hr_InvalidNumber___init__ : Room 2 _ := hr.mono (by decide)
  have hr_InvalidCondition___init__ : Room 2 _ := hr.mono (by decide)
  have hr_InvalidPair___init__ : Room 2 _ := hr.mono (by decide)
  have hr_InvalidReport___init__ : Room 2 _ := hr.mono (by decide)
  have hr_InvalidSlot___init__ : Room 2 _ := hr.mono (by decide)
  have hr_NothingMatches___init__ : Room 2 _ := hr.mono (by decide)
  have hr_SameRule___init__ : Room 2 _ := hr.mono (by decide)
  have hr_KnownOrder___init__ : Room 2 _ := hr.mono (by decide)
  have hr_Contradiction___init__ : Room 2 _ := hr.mono (by decide)
  have hr_InvalidMoment___init__ : Room 2 _ := hr.mono (by decide)
  have hr_BatchFailed___init__ : Room 2 _ := hr.mono (by decide)
  have hr_InvalidFile___init__ : Room 2 _ := hr.mono (by decide)
  have hr_UnknownField___init__ : Room 2 _ := hr.mono (by decide)
  have hr_UnknownValue___init__ : Room 2 _ := hr.mono (by decide)
  have hr_UnknownEffect___init__ : Room 2 _ := hr.mono (by decide)
  have hr_UnknownRule___init__ : Room 2 _ := hr.mono (by decide)
  refine ⟨_, (pss_cons (ps_set (i := 1) sc_law.nd rfl (.inl rfl) (pe_call G__law_bag hr__law_bag (by rfl) g__law_bag F__law_bag.kp b__law_bag .nil pass0 (pa_cons (pv 0) pa_nil)))
      (pss_cons (ps_par3 (i := 4) (j := 5) (l := 6) (by rfl) sc_law.nd rfl rfl rfl (by decide) (by decide) (by decide) rfl rfl rfl (pa_cons (pe_call G__law_pull hr__law_pull (by rfl) g__law_pull F__law_pull.kp b__law_pull .nil pass0 (pa_cons (pv 1) (pa_cons (pe_op op_pow pe_int pe_int) pa_nil))) (pa_cons (pe_call G__law_pull hr__law_pull (by rfl) g__law_pull F__law_pull.kp b__law_pull .nil pass0 (pa_cons (pv 1) (pa_cons (pe_op op_pow pe_int pe_int) pa_nil))) (pa_cons (pe_call G__law_pull hr__law_pull (by rfl) g__law_pull F__law_pull.kp b__law_pull .nil pass0 (pa_cons (pv 1) (pa_cons pe_int pa_nil))) pa_nil))) (by rfl))
      (pss_cons (ps_for PassesOwn.never rfl (pi_range1 (by rfl) T.m_range (pa_cons pe_int pa_nil)) (pg_name (i := 2) sc_law.nd rfl (.inl rfl)) (pss_cons (ps_asg (pe_tup (pa_cons (pe_op op_modN (pe_op op_add (pv 6) (pe_op op_mul pe_int (pv 2))) pe_int) (pa_cons (pe_lst pa_nil) pa_nil))) (pg_tup rfl (pgs_cons (pg_name (i := 9) sc_law.nd rfl (.inr rfl)) (pgs_cons (pg_name (i := 10) sc_law.nd rfl (.inl rfl)) pgs_nil))))
      (pss_cons (ps_try_named (n := "_law_e") (i := 7) rfl rfl sc_law.nd rfl rfl takesN0 (fun W pn xe tk po => (pss_one (ps_expr (pe_callW G__law_raisedR hr__law_raised tk (by rfl) g__law_raised F__law_raised.kp b__law_raised (pa_cons (pv 9) (pa_cons (pv 4) (pa_cons (pv 5) pa_nil))))))) (.cons (c := .ref (adr (mg "RankError"))) ⟨rfl, by decide, .inl T.g_RankError⟩ (suite_err fun a' oe C dd pn hz hf => (pss_one (ps_set (i := 10) sc_law.nd rfl (.inl rfl) (pe_lst (pa_cons (pe_callEK (K := K) G__law_flags (L2H.roomH_mark hr__law_flags _) (errAt_suite (X := (cxOf CX0 P w K mg base N_law "law" (defScope s_law) f cdv A outer s H E).nox) (a := a') (pn := pn) hz hf) rfl (by rfl) g__law_flags F__law_flags.kp b__law_flags (pa_cons (pv 7) pa_nil)) (pa_cons (pe_xfAK (K := K) (errAt_suite (X := (cxOf CX0 P w K mg base N_law "law" (defScope s_law) f cdv A outer s H E).nox) (a := a') (pn := pn) hz hf) (pv 7)) (pa_cons (pe_lst (pa_cons (pe_callB (call_isAK (K := K) (errAt_suite (X := (cxOf CX0 P w K mg base N_law "law" (defScope s_law) f cdv A outer s H E).nox) (a := a') (pn := pn) hz hf)) (by rfl) T.m_isinstance (by decide +kernel) (pa_cons (pv 7) (pa_cons (pe_bltn (v := .ty "ValueError") (by rfl) T.m_ValueError (by decide +kernel) rfl) pa_nil))) (pa_cons (pe_callB (call_isAK (K := K) (errAt_suite (X := (cxOf CX0 P w K mg base N_law "law" (defScope s_law) f cdv A outer s H E).nox) (a := a') (pn := pn) hz hf)) (by rfl) T.m_isinstance (by decide +kernel) (pa_cons (pv 7) (pa_cons (pe_glob (v := .ref (adr (mg "NotFound"))) (by rfl) T.g_NotFound rfl) pa_nil))) (pa_cons (pe_callB (call_isAK (K := K) (errAt_suite (X := (cxOf CX0 P w K mg base N_law "law" (defScope s_law) f cdv A outer s H E).nox) (a := a') (pn := pn) hz hf)) (by rfl) T.m_isinstance (by decide +kernel) (pa_cons (pv 7) (pa_cons (pe_bltn (v := .ty "LookupError") (by rfl) T.m_LookupError (by decide +kernel) rfl) pa_nil))) (pa_cons (pe_callB (call_isAK (K := K) (errAt_suite (X := (cxOf CX0 P w K mg base N_law "law" (defScope s_law) f cdv A outer s H E).nox) (a := a') (pn := pn) hz hf)) (by rfl) T.m_isinstance (by decide +kernel) (pa_cons (pv 7) (pa_cons (pe_bltn (v := .ty "KeyError") (by rfl) T.m_KeyError (by decide +kernel) rfl) pa_nil))) pa_nil))))) pa_nil))))))) (.cons (c := .ref (adr (mg "NotFound"))) ⟨rfl, by decide, .inl T.g_NotFound⟩ (suite_err fun a' oe C dd pn hz hf => (pss_one (ps_set (i := 10) sc_law.nd rfl (.inl rfl) (pe_lst (pa_cons (pe_callEK (K := K) G__law_flags (L2H.roomH_mark hr__law_flags _) (errAt_suite (X := (cxOf CX0 P w K mg base N_law "law" (defScope s_law) f cdv A outer s H E).nox) (a := a') (pn := pn) hz hf) rfl (by rfl) g__law_flags F__law_flags.kp b__law_flags (pa_cons (pv 7) pa_nil)) (pa_cons (pe_xfAK (K := K) (errAt_suite (X := (cxOf CX0 P w K mg base N_law "law" (defScope s_law) f cdv A outer s H E).nox) (a := a') (pn := pn) hz hf) (pv 7)) (pa_cons (pe_lst (pa_cons (pe_callB (call_isAK (K := K) (errAt_suite (X := (cxOf CX0 P w K mg base N_law "law" (defScope s_law) f cdv A outer s H E).nox) (a := a') (pn := pn) hz hf)) (by rfl) T.m_isinstance (by decide +kernel) (pa_cons (pv 7) (pa_cons (pe_bltn (v := .ty "ValueError") (by rfl) T.m_ValueError (by decide +kernel) rfl) pa_nil))) (pa_cons (pe_callB (call_isAK (K := K) (errAt_suite (X := (cxOf CX0 P w K mg base N_law "law" (defScope s_law) f cdv A outer s H E).nox) (a := a') (pn := pn) hz hf)) (by rfl) T.m_isinstance (by decide +kernel) (pa_cons (pv 7) (pa_cons (pe_glob (v := .ref (adr (mg "NotFound"))) (by rfl) T.g_NotFound rfl) pa_nil))) (pa_cons (pe_callB (call_isAK (K := K) (errAt_suite (X := (cxOf CX0 P w K mg base N_law "law" (defScope s_law) f cdv A outer s H E).nox) (a := a') (pn := pn) hz hf)) (by rfl) T.m_isinstance (by decide +kernel) (pa_cons (pv 7) (pa_cons (pe_bltn (v := .ty "LookupError") (by rfl) T.m_LookupError (by decide +kernel) rfl) pa_nil))) (pa_cons (pe_callB (call_isAK (K := K) (errAt_suite (X := (cxOf CX0 P w K mg base N_law "law" (defScope s_law) f cdv A outer s H E).nox) (a := a') (pn := pn) hz hf)) (by rfl) T.m_isinstance (by decide +kernel) (pa_cons (pv 7) (pa_cons (pe_bltn (v := .ty "KeyError") (by rfl) T.m_KeyError (by decide +kernel) rfl) pa_nil))) pa_nil))))) pa_nil))))))) .nil)))
      (pss_cons (ps_set (i := 8) sc_law.nd rfl (.inl rfl) (pe_lst (pa_cons (pe_lc (own := [("_law_k", 11)]) (g := gName 11) (by rfl) sc_law.nd (pi_range1 (by rfl) T.m_range (pa_cons pe_int pa_nil)) (blkOk_by (own := [("_law_k", 11)]) (N := N_law) (sc := defScope s_law) (by decide +kernel)) (fun _ _ _ _ _ => pg_name (i := 11) sc_law.nd rfl (.inl rfl)) (fun _ _ _ _ _ => pts_nil) (fun _ _ _ _ _ => (pe_cmpR op_eq (pv 11) (pv 9) (nomark _)))) (pa_cons (pe_ix (ix_listK (K := K)) (pe_call0 G__law_words hr__law_words (by rfl) g__law_words F__law_words.kp b__law_words .nil pass0) (pv 9) (fun _ _ => rfl)) (pa_cons (pe_lst (pa_cons (pe_cmpR op_lt (pv 9) pe_int (nomark _)) (pa_cons (pe_cmpR op_ge (pv 9) pe_int (nomark _)) (pa_cons (pe_cmpR op_ge (pv 9) pe_int (nomark _)) (pa_cons pe_bl pa_nil))))) pa_nil)))))
      (pss_one (ps_if (pt_not (pt_val (pe_call G__law_same hr__law_same (by rfl) g__law_same F__law_same.kp b__law_same .nil pass0 (pa_cons (pv 10) (pa_cons (pv 8) pa_nil))))) (pss_one (ps_ret pe_bl)) pss_nil))))))
      (pss_cons (ps_set (i := 3) sc_law.nd rfl (.inl rfl) (pe_lst pa_nil))
      (pss_cons (ps_set (i := 3) sc_law.nd rfl (.inl rfl) (pe_op op_cat (pv 3) (pe_lst (pa_cons (pe_xfOK (K := K) (pe_xc T.x_InvalidName i_InvalidName___init__ t_InvalidName___init__ G_InvalidName___init__ hr_InvalidName___init__ b_InvalidName___init__ (by rfl) T.g_InvalidName (pa_cons (pv 4) pa_nil))) (pa_cons (pe_xfOK (K := K) (pe_xc T.x_InvalidValue i_InvalidValue___init__ t_InvalidValue___init__ G_InvalidValue___init__ hr_InvalidValue___init__ b_InvalidValue___init__ (by rfl) T.g_InvalidValue (pa_cons (pv 4) pa_nil))) (pa_cons (pe_xfOK (K := K) (pe_xc T.x_DuplicateName i_DuplicateName___init__ t_DuplicateName___init__ G_DuplicateName___init__ hr_DuplicateName___init__ b_DuplicateName___init__ (by rfl) T.g_DuplicateName (pa_cons (pv 4) pa_nil))) (pa_cons (pe_xfOK (K := K) (pe_xc T.x_LimitReached i_LimitReached___init__ t_LimitReached___init__ G_LimitReached___init__ hr_LimitReached___init__ b_LimitReached___init__ (by rfl) T.g_LimitReached (pa_cons (pv 4) pa_nil))) pa_nil)))))))
      (pss_cons (ps_set (i := 3) sc_law.nd rfl (.inl rfl) (pe_op op_cat (pv 3) (pe_lst (pa_cons (pe_xfOK (K := K) (pe_xc T.x_InvalidRequest i_InvalidRequest___init__ t_InvalidRequest___init__ G_InvalidRequest___init__ hr_InvalidRequest___init__ b_InvalidRequest___init__ (by rfl) T.g_InvalidRequest (pa_cons (pv 4) pa_nil))) (pa_cons (pe_xfOK (K := K) (pe_xc T.x_InvalidNumber i_InvalidNumber___init__ t_InvalidNumber___init__ G_InvalidNumber___init__ hr_InvalidNumber___init__ b_InvalidNumber___init__ (by rfl) T.g_InvalidNumber (pa_cons (pv 4) pa_nil))) (pa_cons (pe_xfOK (K := K) (pe_xc T.x_InvalidCondition i_InvalidCondition___init__ t_InvalidCondition___init__ G_InvalidCondition___init__ hr_InvalidCondition___init__ b_InvalidCondition___init__ (by rfl) T.g_InvalidCondition (pa_cons (pv 4) pa_nil))) (pa_cons (pe_xfOK (K := K) (pe_xc T.x_InvalidPair i_InvalidPair___init__ t_InvalidPair___init__ G_InvalidPair___init__ hr_InvalidPair___init__ b_InvalidPair___init__ (by rfl) T.g_InvalidPair (pa_cons (pv 4) pa_nil))) pa_nil)))))))
      (pss_cons (ps_set (i := 3) sc_law.nd rfl (.inl rfl) (pe_op op_cat (pv 3) (pe_lst (pa_cons (pe_xfOK (K := K) (pe_xc T.x_InvalidReport i_InvalidReport___init__ t_InvalidReport___init__ G_InvalidReport___init__ hr_InvalidReport___init__ b_InvalidReport___init__ (by rfl) T.g_InvalidReport (pa_cons (pv 4) pa_nil))) (pa_cons (pe_xfOK (K := K) (pe_xc T.x_InvalidSlot i_InvalidSlot___init__ t_InvalidSlot___init__ G_InvalidSlot___init__ hr_InvalidSlot___init__ b_InvalidSlot___init__ (by rfl) T.g_InvalidSlot (pa_cons (pv 4) pa_nil))) (pa_cons (pe_xfOK (K := K) (pe_xc T.x_NothingMatches i_NothingMatches___init__ t_NothingMatches___init__ G_NothingMatches___init__ hr_NothingMatches___init__ b_NothingMatches___init__ (by rfl) T.g_NothingMatches (pa_cons (pv 4) pa_nil))) (pa_cons (pe_xfOK (K := K) (pe_xc T.x_SameRule i_SameRule___init__ t_SameRule___init__ G_SameRule___init__ hr_SameRule___init__ b_SameRule___init__ (by rfl) T.g_SameRule (pa_cons (pv 4) pa_nil))) pa_nil)))))))
      (pss_cons (ps_set (i := 3) sc_law.nd rfl (.inl rfl) (pe_op op_cat (pv 3) (pe_lst (pa_cons (pe_xfOK (K := K) (pe_xc T.x_KnownOrder i_KnownOrder___init__ t_KnownOrder___init__ G_KnownOrder___init__ hr_KnownOrder___init__ b_KnownOrder___init__ (by rfl) T.g_KnownOrder (pa_cons (pv 4) (pa_cons (pv 5) pa_nil)))) (pa_cons (pe_xfOK (K := K) (pe_xc T.x_Contradiction i_Contradiction___init__ t_Contradiction___init__ G_Contradiction___init__ hr_Contradiction___init__ b_Contradiction___init__ (by rfl) T.g_Contradiction (pa_cons (pv 4) pa_nil))) (pa_cons (pe_xfOK (K := K) (pe_xc T.x_InvalidMoment i_InvalidMoment___init__ t_InvalidMoment___init__ G_InvalidMoment___init__ hr_InvalidMoment___init__ b_InvalidMoment___init__ (by rfl) T.g_InvalidMoment (pa_cons (pv 4) pa_nil))) (pa_cons (pe_xfOK (K := K) (pe_xc T.x_BatchFailed i_BatchFailed___init__ t_BatchFailed___init__ G_BatchFailed___init__ hr_BatchFailed___init__ b_BatchFailed___init__ (by rfl) T.g_BatchFailed (pa_cons (pv 4) (pa_cons (pv 5) pa_nil)))) pa_nil)))))))
      (pss_cons (ps_set (i := 3) sc_law.nd rfl (.inl rfl) (pe_op op_cat (pv 3) (pe_lst (pa_cons (pe_xfOK (K := K) (pe_xc T.x_InvalidFile i_InvalidFile___init__ t_InvalidFile___init__ G_InvalidFile___init__ hr_InvalidFile___init__ b_InvalidFile___init__ (by rfl) T.g_InvalidFile (pa_cons (pv 4) pa_nil))) (pa_cons (pe_xfOK (K := K) (pe_xc T.x_UnknownField i_UnknownField___init__ t_UnknownField___init__ G_UnknownField___init__ hr_UnknownField___init__ b_UnknownField___init__ (by rfl) T.g_UnknownField (pa_cons (pv 4) pa_nil))) (pa_cons (pe_xfOK (K := K) (pe_xc T.x_UnknownValue i_UnknownValue___init__ t_UnknownValue___init__ G_UnknownValue___init__ hr_UnknownValue___init__ b_UnknownValue___init__ (by rfl) T.g_UnknownValue (pa_cons (pv 4) pa_nil))) (pa_cons (pe_xfOK (K := K) (pe_xc T.x_UnknownEffect i_UnknownEffect___init__ t_UnknownEffect___init__ G_UnknownEffect___init__ hr_UnknownEffect___init__ b_UnknownEffect___init__ (by rfl) T.g_UnknownEffect (pa_cons (pv 4) pa_nil))) pa_nil)))))))
      (pss_cons (ps_set (i := 3) sc_law.nd rfl (.inl rfl) (pe_op op_cat (pv 3) (pe_lst (pa_cons (pe_xfOK (K := K) (pe_xc T.x_UnknownRule i_UnknownRule___init__ t_UnknownRule___init__ G_UnknownRule___init__ hr_UnknownRule___init__ b_UnknownRule___init__ (by rfl) T.g_UnknownRule (pa_cons (pv 4) pa_nil))) pa_nil))))
      (pss_one (ps_ret (pe_and (pe_cmpR (op_eqDK (K := K) hr.units) (pv 3) (pe_op op_rep (pe_lst (pa_cons (pv 4) pa_nil)) pe_int) (nomark _)) (pe_one (pe_cmpR (op_eqDK (K := K) hr.units) (pe_lst (pa_cons (pe_xfOK (K := K) (pe_xc T.x_KnownOrder i_KnownOrder___init__ t_KnownOrder___init__ G_KnownOrder___init__ hr_KnownOrder___init__ b_KnownOrder___init__ (by rfl) T.g_KnownOrder (pa_cons (pv 4) (pa_cons (pv 5) pa_nil)))) (pa_cons (pe_xfOK (K := K) (pe_xc T.x_BatchFailed i_BatchFailed___init__ t_BatchFailed___init__ G_BatchFailed___init__ hr_BatchFailed___init__ b_BatchFailed___init__ (by rfl) T.g_BatchFailed (pa_cons (pv 4) (pa_cons (pv 5) pa_nil)))) pa_nil))) (pe_lst (pa_cons (pv 5) (pa_cons (pv 5) pa_nil))) (nomark _)))))))))))))))), ?_⟩
  refine ⟨_, rfl, a, ns, rfl, hS, hn, fun b l H1 hb _ _ => ?_⟩
  refine ⟨_, rfl, 10, 9, rfl, rfl, ⟨by decide, by decide, by decide⟩, b, l, _, rfl, hb, by decide, by decide, fun va H2 a0 a1 bx2 => ⟨_, rfl, 10, 9, rfl, rfl, ⟨by decide, by decide, by decide⟩, b, l, _, rfl, bx2.bag, by decide, by decide, fun vb H3 b0 b1 bx3 => ⟨_, rfl, b, l, 26, rfl, bx3.bag, by decide, by decide, fun vf H4 f0 f1 bx4 => ⟨_, _, _, rfl, ?_⟩⟩⟩⟩
  dsimp only [gName]
  refine st_is [some (.ref a), some (.ref b), none, none, some (.int va), some (.int vb), some (.int vf), none, none, none, none, none] rfl ?_
  refine ⟨26, rfl, by decide, by decide, for_it (walk_range (lo := 0) (n := 26)) (fun i σ H => ∃ x2 x8 x9 x10, σ = [some (.ref a), some (.ref b), x2, none, some (.int va), some (.int vb), some (.int vf), none, x8, x9, x10, none]) ⟨none, none, none, none, rfl⟩ (fun _ _ _ _ _ => trivial) (fun i x σ H2 H' hi hI hy => ?_) (fun σ H2 hI => ?_)⟩
  · obtain ⟨x2, x8, x9, x10, rfl⟩ := hI
    obtain ⟨rfl, rfl⟩ := hy
    dsimp only [gName]
    refine ⟨_, rfl, _, rfl, 7, 0 + (i : Int), rfl, rfl, .inr ⟨by omega, by omega⟩, _, _, rfl, rfl, _, 26, rfl, rfl, (show (26 : Int) ≠ 0 by decide), Nat.zero_le _, fun p0 hp0 => ⟨by show 2 ≤ sizeLine; decide, fun t0 ht0 => ⟨t0, _, rfl, SqT.of upd_same, rfl, _, _, rfl, _, _, rfl, rfl, ?_⟩⟩⟩
    obtain ⟨m0, m1⟩ := fmod_in (a := vf + 7 * (0 + (i : Int))) (n := 26) (by decide)
    obtain ⟨k, ek⟩ : ∃ k : Nat, (vf + 7 * (0 + (i : Int))).fmod 26 = (k : Int) := ⟨((vf + 7 * (0 + (i : Int))).fmod 26).toNat, by omega⟩
    dsimp only [gName]
    refine st_is [some (.ref a), some (.ref b), some (.int (0 + (i : Int))), none, some (.int va), some (.int vb), some (.int vf), none, x8, some (.int ((vf + 7 * (0 + (i : Int))).fmod 26)), some (.ref p0), none] rfl ?_
    generalize (upd (upd H' p0 (.lst [])) t0 _) = H5
    rw [ek]
    rw [ek] at m0 m1
    have hk : k < 26 := by omega
    have EKk := TK k hk
    -- what is raised, and caught
    refine seqI (fun σ H' => ∃ (fa p1 p2 : Addr), σ = [some (.ref a), some (.ref b), some (.int (0 + (i : Int))), none, some (.int va), some (.int vb), some (.int vf), none, x8, some (.int k), some (.ref fa), none] ∧ H' fa = some (.lst [.ref p1, .str (eW k), .ref p2]) ∧ H' p1 = some (.lst ((List.range 26).map fun j => V.bl (decide (j = k)))) ∧ H' p2 = some (.lst [.bl (decide (k < 21)), .bl (decide (21 ≤ k)), .bl (decide (21 ≤ k)), .bl false])) ?_ ?_
    rotate_left
    · intro N hN
      refine ⟨_, rfl, _, rfl, _, rfl, fun cls dd H'' => ∃ d, cls = .ref (adr (mg (eC k))) ∧ dd = some d ∧ H'' d = some (.xd (eF (.int va) (.int vb) k)), ?_, k, .int va, .int vb, rfl, hk, fun d H6 s6 n6 e6 => ⟨d, rfl, rfl, e6⟩⟩
      rintro cls dd H6 ⟨d, rfl, rfl, e6⟩
      have wd := eF_word (.int va) (.int vb) k hk
      have suite : ∀ {D : Ends} (a' : Addr), H6 a' = none → (∀ fa p1 p2 H7, H7 fa = some (.lst [.ref p1, .str (eW k), .ref p2]) → H7 p1 = some (.lst ((List.range 26).map fun j => V.bl (decide (j = k)))) → H7 p2 = some (.lst [.bl (decide (k < 21)), .bl (decide (21 ≤ k)), .bl (decide (21 ≤ k)), .bl false]) → D.nx [some (.ref a), some (.ref b), some (.int (0 + (i : Int))), none, some (.int va), some (.int vb), some (.int vf), some (.ref a'), x8, some (.int k), some (.ref fa), none] H7) →
          tAsg (tLst (tCons (tErr K (adr (mg (eC k))) (sp_flags K mg (adr (mg (eC k))) d) a' (tCons (tVar 7) tNil)) (tCons (tXfA K a' (adr (mg (eC k))) d "word" (tVar 7)) (tCons (tLst (tCons (tCB (rIsA K (adr (mg (eC k))) a' d) (tCons (tVar 7) (tCons (tC (.ty "ValueError")) tNil))) (tCons (tCB (rIsA K (adr (mg (eC k))) a' d) (tCons (tVar 7) (tCons (tC (.ref (adr (mg "NotFound")))) tNil))) (tCons (tCB (rIsA K (adr (mg (eC k))) a' d) (tCons (tVar 7) (tCons (tC (.ty "LookupError")) tNil))) (tCons (tCB (rIsA K (adr (mg (eC k))) a' d) (tCons (tVar 7) (tCons (tC (.ty "KeyError")) tNil))) tNil))))) tNil)))) (gName 10) D [some (.ref a), some (.ref b), some (.int (0 + (i : Int))), none, some (.int va), some (.int vb), some (.int vf), some (.ref a'), x8, some (.int k), some (.ref p0), none] H6 := fun {D} a' na hD => by
        refine ⟨_, rfl, EKk.xc, ⟨_, rfl⟩, a', _, k, rfl, e6, EKk.ex, EKk.isF, fun p1 H7 s7 n7 e7 => ?_⟩
        have d7 := s7 _ _ e6
        refine ⟨_, rfl, rfl, EKk.xc, EKk.nw, _, .str (eW k), d7, wd, ?_⟩
        refine ⟨_, rfl, _, _, _, _, rfl, EKk.ex, d7, .ty _, EKk.isV, _, rfl, _, _, _, _, rfl, EKk.ex, d7, .own _, EKk.isN, _, rfl, _, _, _, _, rfl, EKk.ex, d7, .ty _, EKk.isL, _, rfl, _, _, _, _, rfl, EKk.ex, d7, .ty _, EKk.isK, by show 4 ≤ sizeLine; decide, fun p2 hp2 => ⟨by show 3 ≤ sizeLine; decide, fun fa hfa => ?_⟩⟩
        have k2 := same_new (o := .lst [.bl (decide (k < 21)), .bl (decide (21 ≤ k)), .bl (decide (21 ≤ k)), .bl false]) hp2
        have k3 := same_new (o := .lst [.ref p1, .str (eW k), .ref p2]) hfa
        exact hD fa p1 p2 _ upd_same ((k2.trans k3) _ _ e7) (k3 _ _ upd_same)
      refine ⟨_, EKk.cls, fun hc a' na => suite a' na fun fa p1 p2 H7 h1 h2 h3 => hN _ _ ⟨fa, p1, p2, rfl, h1, h2, h3⟩, fun hc => ⟨_, EKk.cls2 (of_decide_eq_false hc), fun _ a' na => suite a' na fun fa p1 p2 H7 h1 h2 h3 => hN _ _ ⟨fa, p1, p2, rfl, h1, h2, h3⟩, fun z => by cases z⟩⟩
    rintro σ6 H6 ⟨fa, p1, p2, rfl, hfa, hp1, hp2⟩
    refine ⟨26, rfl, by decide, by decide, fun D hD => ?_⟩
    refine lc_val (walk_range (lo := 0) (n := 26)) hD (fun j => .bl (decide (j = k))) (fun _ _ => trivial) (by decide) (fun j x H7 H8 Qe Z hj sm hq hy => ?_) (fun H7 s7 hL => ?_)
    · obtain ⟨rfl, rfl⟩ := hy
      refine ⟨rfl, yes ⟨_, rfl, _, rfl, rfl, ?_⟩⟩
      have e : decide (V.int (0 + (j : Int)) = V.int (k : Int)) = decide (j = k) := dec_v (by omega)
      show Qe (.bl (decide (V.int (0 + (j : Int)) = V.int (k : Int)))) _
      rw [e]
      exact hq _ (Same.refl _)
    refine ⟨rfl, fun pw H8 s8 n8 e8 => ?_⟩
    have hat : atI (((List.range 26).map eW).map V.str) ((k : Nat) : Int) = some (.str (eW k)) := atI_nat (by rw [List.getElem?_map, List.getElem?_map, List.getElem?_range hk]; rfl)
    refine ⟨_, rfl, pw, _, k, .str (eW k), rfl, rfl, SqL.of e8, hat, ?_⟩
    refine ⟨_, rfl, _, _, rfl, rfl, _, rfl, _, _, rfl, rfl, _, rfl, _, _, rfl, rfl, by show 4 ≤ sizeLine; decide, fun q2 hq2 => ⟨by show 3 ≤ sizeLine; decide, fun da hda => ?_⟩⟩
    have c1 : decide ((k : Int) < 21) = decide (k < 21) := decide_eq_decide.mpr (by omega)
    have c2 : decide ((21 : Int) ≤ (k : Int)) = decide (21 ≤ k) := decide_eq_decide.mpr (by omega)
    dsimp only [gName] at hda ⊢
    rw [c1, c2] at hda ⊢
    have k2 := same_new (o := .lst [.bl (decide (k < 21)), .bl (decide (21 ≤ k)), .bl (decide (21 ≤ k)), .bl false]) hq2
    have k3 := same_new (o := .lst [.ref D, .str (eW k), .ref q2]) hda
    have sA := s7.trans (s8.trans (k2.trans k3))
    have kp := s8.trans (k2.trans k3)
    refine ⟨_, rfl, _, rfl, .ref fa, .ref da, .list [flD k, .str (eW k), tailD k], rfl, .lst (SqL.of (sA _ _ hfa)) (.cons (.lst (SqL.of (sA _ _ hp1)) ?_) (.cons (.str _) (.cons (.lst (SqL.of (sA _ _ hp2)) (dpa_bls [decide (k < 21), decide (21 ≤ k), decide (21 ≤ k), false])) .nil))), .lst (SqL.of upd_same) (.cons (.lst (SqL.of (kp _ _ hL)) ?_) (.cons (.str _) (.cons (.lst (SqL.of (k3 _ _ upd_same)) (dpa_bls [decide (k < 21), decide (21 ≤ k), decide (21 ≤ k), false])) .nil))), ?_, fun HW sW => ⟨_, rfl, bF rfl ⟨_, _, _, _, rfl⟩⟩⟩
    · have := dpa_bls (K := K) (H := upd (upd H8 q2 (.lst [.bl (decide (k < 21)), .bl (decide (21 ≤ k)), .bl (decide (21 ≤ k)), .bl false])) da (.lst [.ref D, .str (eW k), .ref q2])) ((List.range 26).map fun j => decide (j = k))
      rw [List.map_map] at this
      exact this
    · have := dpa_bls (K := K) (H := upd (upd H8 q2 (.lst [.bl (decide (k < 21)), .bl (decide (21 ≤ k)), .bl (decide (21 ≤ k)), .bl false])) da (.lst [.ref D, .str (eW k), .ref q2])) ((List.range 26).map fun j => decide (j = k))
      rw [List.map_map] at this
      exact this
    · refine deep_list_of (n := 3) (by show 3 < 50000; decide) fun d hd => ?_
      simp only [List.mem_cons, List.not_mem_nil, or_false] at hd
      rcases hd with rfl | rfl | rfl
      · exact deep_bls (n := 1) (by rw [List.length_map, List.length_range]; decide)
      · exact deep_str (eW_ok k hk)
      · exact deep_bls (n := 1) (by show 4 < 50000; decide)
  · obtain ⟨x2, x8, x9, x10, rfl⟩ := hI
    dsimp only
    refine ⟨Nat.zero_le _, fun p0 h0 => ?_⟩
    have e0 : (upd H2 p0 (.lst [])) p0 = some (.lst []) := upd_same
    generalize (upd H2 p0 (.lst [])) = G0 at *
    dsimp only [gName]
    refine ⟨_, rfl, ?_⟩
    have t0_0 := Same.refl G0
    refine ⟨_, rfl, made1 T.x_InvalidName T.n_InvalidName_name (by decide +kernel) fun M0_0 m0_0 => ?_⟩
    have t0_1 := t0_0.trans m0_0
    refine ⟨_, rfl, made1 T.x_InvalidValue T.n_InvalidValue_value (by decide +kernel) fun M0_1 m0_1 => ?_⟩
    have t0_2 := t0_1.trans m0_1
    refine ⟨_, rfl, made1 T.x_DuplicateName T.n_DuplicateName_name (by decide +kernel) fun M0_2 m0_2 => ?_⟩
    have t0_3 := t0_2.trans m0_2
    refine ⟨_, rfl, made1 T.x_LimitReached T.n_LimitReached_limit (by decide +kernel) fun M0_3 m0_3 => ?_⟩
    have t0_4 := t0_3.trans m0_3
    refine ⟨by show 4 ≤ sizeLine; decide, fun u0 hu0 => ?_⟩
    have k0 := t0_4.trans (same_new (o := .lst [.int va, .int va, .int va, .int va]) hu0)
    refine ⟨p0, u0, _, _, rfl, rfl, k0 _ _ e0, upd_same, by show 0 + 4 ≤ sizeLine; decide, fun p1 h1 => ?_⟩
    have e1 : (upd (upd M0_3 u0 (.lst [.int va, .int va, .int va, .int va])) p1 (.lst ([] ++ [.int va, .int va, .int va, .int va]))) p1 = some (.lst [.int va, .int va, .int va, .int va]) := upd_same
    generalize (upd (upd M0_3 u0 (.lst [.int va, .int va, .int va, .int va])) p1 (.lst ([] ++ [.int va, .int va, .int va, .int va]))) = G1 at *
    dsimp only [gName]
    refine ⟨_, rfl, ?_⟩
    have t1_0 := Same.refl G1
    refine ⟨_, rfl, made1 T.x_InvalidRequest T.n_InvalidRequest_position (by decide +kernel) fun M1_0 m1_0 => ?_⟩
    have t1_1 := t1_0.trans m1_0
    refine ⟨_, rfl, made1 T.x_InvalidNumber T.n_InvalidNumber_number (by decide +kernel) fun M1_1 m1_1 => ?_⟩
    have t1_2 := t1_1.trans m1_1
    refine ⟨_, rfl, made1 T.x_InvalidCondition T.n_InvalidCondition_position (by decide +kernel) fun M1_2 m1_2 => ?_⟩
    have t1_3 := t1_2.trans m1_2
    refine ⟨_, rfl, made1 T.x_InvalidPair T.n_InvalidPair_place (by decide +kernel) fun M1_3 m1_3 => ?_⟩
    have t1_4 := t1_3.trans m1_3
    refine ⟨by show 4 ≤ sizeLine; decide, fun u1 hu1 => ?_⟩
    have k1 := t1_4.trans (same_new (o := .lst [.int va, .int va, .int va, .int va]) hu1)
    refine ⟨p1, u1, _, _, rfl, rfl, k1 _ _ e1, upd_same, by show 4 + 4 ≤ sizeLine; decide, fun p2 h2 => ?_⟩
    have e2 : (upd (upd M1_3 u1 (.lst [.int va, .int va, .int va, .int va])) p2 (.lst ([.int va, .int va, .int va, .int va] ++ [.int va, .int va, .int va, .int va]))) p2 = some (.lst [.int va, .int va, .int va, .int va, .int va, .int va, .int va, .int va]) := upd_same
    generalize (upd (upd M1_3 u1 (.lst [.int va, .int va, .int va, .int va])) p2 (.lst ([.int va, .int va, .int va, .int va] ++ [.int va, .int va, .int va, .int va]))) = G2 at *
    dsimp only [gName]
    refine ⟨_, rfl, ?_⟩
    have t2_0 := Same.refl G2
    refine ⟨_, rfl, made1 T.x_InvalidReport T.n_InvalidReport_place (by decide +kernel) fun M2_0 m2_0 => ?_⟩
    have t2_1 := t2_0.trans m2_0
    refine ⟨_, rfl, made1 T.x_InvalidSlot T.n_InvalidSlot_slot (by decide +kernel) fun M2_1 m2_1 => ?_⟩
    have t2_2 := t2_1.trans m2_1
    refine ⟨_, rfl, made1 T.x_NothingMatches T.n_NothingMatches_number (by decide +kernel) fun M2_2 m2_2 => ?_⟩
    have t2_3 := t2_2.trans m2_2
    refine ⟨_, rfl, made1 T.x_SameRule T.n_SameRule_name (by decide +kernel) fun M2_3 m2_3 => ?_⟩
    have t2_4 := t2_3.trans m2_3
    refine ⟨by show 4 ≤ sizeLine; decide, fun u2 hu2 => ?_⟩
    have k2 := t2_4.trans (same_new (o := .lst [.int va, .int va, .int va, .int va]) hu2)
    refine ⟨p2, u2, _, _, rfl, rfl, k2 _ _ e2, upd_same, by show 8 + 4 ≤ sizeLine; decide, fun p3 h3 => ?_⟩
    have e3 : (upd (upd M2_3 u2 (.lst [.int va, .int va, .int va, .int va])) p3 (.lst ([.int va, .int va, .int va, .int va, .int va, .int va, .int va, .int va] ++ [.int va, .int va, .int va, .int va]))) p3 = some (.lst [.int va, .int va, .int va, .int va, .int va, .int va, .int va, .int va, .int va, .int va, .int va, .int va]) := upd_same
    generalize (upd (upd M2_3 u2 (.lst [.int va, .int va, .int va, .int va])) p3 (.lst ([.int va, .int va, .int va, .int va, .int va, .int va, .int va, .int va] ++ [.int va, .int va, .int va, .int va]))) = G3 at *
    dsimp only [gName]
    refine ⟨_, rfl, ?_⟩
    have t3_0 := Same.refl G3
    refine ⟨_, rfl, _, rfl, made2 T.x_KnownOrder "name" (.int va) T.n_KnownOrder_name rfl fun M3_0 m3_0 => ?_⟩
    have t3_1 := t3_0.trans m3_0
    refine ⟨_, rfl, made1 T.x_Contradiction T.n_Contradiction_deadlock (by decide +kernel) fun M3_1 m3_1 => ?_⟩
    have t3_2 := t3_1.trans m3_1
    refine ⟨_, rfl, made1 T.x_InvalidMoment T.n_InvalidMoment_moment (by decide +kernel) fun M3_2 m3_2 => ?_⟩
    have t3_3 := t3_2.trans m3_2
    refine ⟨_, rfl, _, rfl, made2 T.x_BatchFailed "position" (.int va) T.n_BatchFailed_position rfl fun M3_3 m3_3 => ?_⟩
    have t3_4 := t3_3.trans m3_3
    refine ⟨by show 4 ≤ sizeLine; decide, fun u3 hu3 => ?_⟩
    have k3 := t3_4.trans (same_new (o := .lst [.int va, .int va, .int va, .int va]) hu3)
    refine ⟨p3, u3, _, _, rfl, rfl, k3 _ _ e3, upd_same, by show 12 + 4 ≤ sizeLine; decide, fun p4 h4 => ?_⟩
    have e4 : (upd (upd M3_3 u3 (.lst [.int va, .int va, .int va, .int va])) p4 (.lst ([.int va, .int va, .int va, .int va, .int va, .int va, .int va, .int va, .int va, .int va, .int va, .int va] ++ [.int va, .int va, .int va, .int va]))) p4 = some (.lst [.int va, .int va, .int va, .int va, .int va, .int va, .int va, .int va, .int va, .int va, .int va, .int va, .int va, .int va, .int va, .int va]) := upd_same
    generalize (upd (upd M3_3 u3 (.lst [.int va, .int va, .int va, .int va])) p4 (.lst ([.int va, .int va, .int va, .int va, .int va, .int va, .int va, .int va, .int va, .int va, .int va, .int va] ++ [.int va, .int va, .int va, .int va]))) = G4 at *
    dsimp only [gName]
    refine ⟨_, rfl, ?_⟩
    have t4_0 := Same.refl G4
    refine ⟨_, rfl, made1 T.x_InvalidFile T.n_InvalidFile_line (by decide +kernel) fun M4_0 m4_0 => ?_⟩
    have t4_1 := t4_0.trans m4_0
    refine ⟨_, rfl, made1 T.x_UnknownField T.n_UnknownField_name (by decide +kernel) fun M4_1 m4_1 => ?_⟩
    have t4_2 := t4_1.trans m4_1
    refine ⟨_, rfl, made1 T.x_UnknownValue T.n_UnknownValue_value (by decide +kernel) fun M4_2 m4_2 => ?_⟩
    have t4_3 := t4_2.trans m4_2
    refine ⟨_, rfl, made1 T.x_UnknownEffect T.n_UnknownEffect_name (by decide +kernel) fun M4_3 m4_3 => ?_⟩
    have t4_4 := t4_3.trans m4_3
    refine ⟨by show 4 ≤ sizeLine; decide, fun u4 hu4 => ?_⟩
    have k4 := t4_4.trans (same_new (o := .lst [.int va, .int va, .int va, .int va]) hu4)
    refine ⟨p4, u4, _, _, rfl, rfl, k4 _ _ e4, upd_same, by show 16 + 4 ≤ sizeLine; decide, fun p5 h5 => ?_⟩
    have e5 : (upd (upd M4_3 u4 (.lst [.int va, .int va, .int va, .int va])) p5 (.lst ([.int va, .int va, .int va, .int va, .int va, .int va, .int va, .int va, .int va, .int va, .int va, .int va, .int va, .int va, .int va, .int va] ++ [.int va, .int va, .int va, .int va]))) p5 = some (.lst [.int va, .int va, .int va, .int va, .int va, .int va, .int va, .int va, .int va, .int va, .int va, .int va, .int va, .int va, .int va, .int va, .int va, .int va, .int va, .int va]) := upd_same
    generalize (upd (upd M4_3 u4 (.lst [.int va, .int va, .int va, .int va])) p5 (.lst ([.int va, .int va, .int va, .int va, .int va, .int va, .int va, .int va, .int va, .int va, .int va, .int va, .int va, .int va, .int va, .int va] ++ [.int va, .int va, .int va, .int va]))) = G5 at *
    dsimp only [gName]
    refine ⟨_, rfl, ?_⟩
    have t5_0 := Same.refl G5
    refine ⟨_, rfl, made1 T.x_UnknownRule T.n_UnknownRule_name (by decide +kernel) fun M5_0 m5_0 => ?_⟩
    have t5_1 := t5_0.trans m5_0
    refine ⟨by show 1 ≤ sizeLine; decide, fun u5 hu5 => ?_⟩
    have k5 := t5_1.trans (same_new (o := .lst [.int va]) hu5)
    refine ⟨p5, u5, _, _, rfl, rfl, k5 _ _ e5, upd_same, by show 20 + 1 ≤ sizeLine; decide, fun p6 h6 => ?_⟩
    have e6 : (upd (upd M5_0 u5 (.lst [.int va])) p6 (.lst ([.int va, .int va, .int va, .int va, .int va, .int va, .int va, .int va, .int va, .int va, .int va, .int va, .int va, .int va, .int va, .int va, .int va, .int va, .int va, .int va] ++ [.int va]))) p6 = some (.lst [.int va, .int va, .int va, .int va, .int va, .int va, .int va, .int va, .int va, .int va, .int va, .int va, .int va, .int va, .int va, .int va, .int va, .int va, .int va, .int va, .int va]) := upd_same
    generalize (upd (upd M5_0 u5 (.lst [.int va])) p6 (.lst ([.int va, .int va, .int va, .int va, .int va, .int va, .int va, .int va, .int va, .int va, .int va, .int va, .int va, .int va, .int va, .int va, .int va, .int va, .int va, .int va] ++ [.int va]))) = G6 at *
    dsimp only [gName]
    refine ⟨_, rfl, _, rfl, by show 1 ≤ sizeLine; decide, fun l1 hl1 => ?_⟩
    have kl := same_new (o := .lst [.int va]) hl1
    refine ⟨l1, 21, _, rfl, rfl, upd_same, by decide, by decide, by show 1 * 21 ≤ sizeLine; decide, fun l2 hl2 => ?_⟩
    have kr := same_new (o := .lst (List.replicate (21 : Int).toNat [.int va]).flatten) hl2
    have d1 : deep 2 (iD (List.replicate 21 va)) = true := iD_deep (n := 0) (by rw [List.length_replicate]; decide)
    have i1 : ∀ {G : Hp}, DpAll K G ((List.replicate 21 va).map V.int) ((List.replicate 21 va).map PyData.int) := dpa_ints _
    refine ⟨iD (List.replicate 21 va), iD (List.replicate 21 va), .lst (SqL.of ((kl.trans kr) _ _ e6)) i1, .lst (SqL.of upd_same) i1, deep_shaped d1 (by decide), deep_shaped d1 (by decide), true, by rw [eqv_same d1], iteT ?_⟩
    refine ⟨_, rfl, _, rfl, made2 T.x_KnownOrder "other" (.int vb) T.n_KnownOrder_other rfl fun M1 m1 => ⟨_, rfl, _, rfl, made2 T.x_BatchFailed "reason" (.int vb) T.n_BatchFailed_reason rfl fun M2 m2 => ⟨by show 2 ≤ sizeLine; decide, fun l3 hl3 => ⟨_, rfl, _, rfl, by show 2 ≤ sizeLine; decide, fun l4 hl4 => ?_⟩⟩⟩⟩
    have k4 := same_new (o := .lst [.int vb, .int vb]) hl4
    have d2 : deep 2 (iD [vb, vb]) = true := iD_deep (n := 0) (by show 2 < 50000; decide)
    refine ⟨iD [vb, vb], iD [vb, vb], .lst (SqL.of (k4 _ _ upd_same)) (dpa_ints [vb, vb]), .lst (SqL.of upd_same) (dpa_ints [vb, vb]), deep_shaped d2 (by decide), deep_shaped d2 (by decide), ?_⟩
    rw [eqv_same d2]
    exact q _
end
end Hr

set_option Elab.async false
set_option linter.all false
set_option maxRecDepth 100000
set_option maxHeartbeats 4000000
namespace Hr
open PySem PySem.Spec PyProof.Rows L2
theorem all_mk {l : PySem.W.OpenLaw} {w : World} {K : PySem.W.Frag} {h : Heap} {mg : Str → Option Value} {fa : Addr} (X : K.In h) (G : h.Ns mainGlobals mg) (hfa : mg "law" = some (.ref fa))
    {f0 : Addr} {od0 an0 : Option Addr} {sl0 : Array (Option Value)} {oc0 kV0 dc0 pm0 cd0 ct0 : Value}
    (a0 : PySem.W.nsIn K mainGlobals "_law_bag" = some (some (.ref f0))) (l0 : K.lookup f0 = some ⟨oc0, od0, .func (PySem.W.fnOf "_law_bag" "_law_bag" (defArgs s__law_bag) (defBody s__law_bag) (defScope s__law_bag) .none kV0 dc0 pm0 an0 cd0 ct0), sl0⟩) (c0 : PySem.W.codeIn K cd0 "_law_bag" = true) (k0 : PySem.W.keepIn K (.ref f0) = true)
    {f1 : Addr} {od1 an1 : Option Addr} {sl1 : Array (Option Value)} {oc1 kV1 dc1 pm1 cd1 ct1 : Value}
    (a1 : PySem.W.nsIn K mainGlobals "_law_pull" = some (some (.ref f1))) (l1 : K.lookup f1 = some ⟨oc1, od1, .func (PySem.W.fnOf "_law_pull" "_law_pull" (defArgs s__law_pull) (defBody s__law_pull) (defScope s__law_pull) .none kV1 dc1 pm1 an1 cd1 ct1), sl1⟩) (c1 : PySem.W.codeIn K cd1 "_law_pull" = true) (k1 : PySem.W.keepIn K (.ref f1) = true)
    {f2 : Addr} {od2 an2 : Option Addr} {sl2 : Array (Option Value)} {oc2 kV2 dc2 pm2 cd2 ct2 : Value}
    (a2 : PySem.W.nsIn K mainGlobals "_law_same" = some (some (.ref f2))) (l2 : K.lookup f2 = some ⟨oc2, od2, .func (PySem.W.fnOf "_law_same" "_law_same" (defArgs s__law_same) (defBody s__law_same) (defScope s__law_same) .none kV2 dc2 pm2 an2 cd2 ct2), sl2⟩) (c2 : PySem.W.codeIn K cd2 "_law_same" = true) (k2 : PySem.W.keepIn K (.ref f2) = true)
    {f3 : Addr} {od3 an3 : Option Addr} {sl3 : Array (Option Value)} {oc3 kV3 dc3 pm3 cd3 ct3 : Value}
    (a3 : PySem.W.nsIn K mainGlobals "_law_early" = some (some (.ref f3))) (l3 : K.lookup f3 = some ⟨oc3, od3, .func (PySem.W.fnOf "_law_early" "_law_early" (defArgs s__law_early) (defBody s__law_early) (defScope s__law_early) .none kV3 dc3 pm3 an3 cd3 ct3), sl3⟩) (c3 : PySem.W.codeIn K cd3 "_law_early" = true) (k3 : PySem.W.keepIn K (.ref f3) = true)
    {f4 : Addr} {od4 an4 : Option Addr} {sl4 : Array (Option Value)} {oc4 kV4 dc4 pm4 cd4 ct4 : Value}
    (a4 : PySem.W.nsIn K mainGlobals "_law_middle" = some (some (.ref f4))) (l4 : K.lookup f4 = some ⟨oc4, od4, .func (PySem.W.fnOf "_law_middle" "_law_middle" (defArgs s__law_middle) (defBody s__law_middle) (defScope s__law_middle) .none kV4 dc4 pm4 an4 cd4 ct4), sl4⟩) (c4 : PySem.W.codeIn K cd4 "_law_middle" = true) (k4 : PySem.W.keepIn K (.ref f4) = true)
    {f5 : Addr} {od5 an5 : Option Addr} {sl5 : Array (Option Value)} {oc5 kV5 dc5 pm5 cd5 ct5 : Value}
    (a5 : PySem.W.nsIn K mainGlobals "_law_late" = some (some (.ref f5))) (l5 : K.lookup f5 = some ⟨oc5, od5, .func (PySem.W.fnOf "_law_late" "_law_late" (defArgs s__law_late) (defBody s__law_late) (defScope s__law_late) .none kV5 dc5 pm5 an5 cd5 ct5), sl5⟩) (c5 : PySem.W.codeIn K cd5 "_law_late" = true) (k5 : PySem.W.keepIn K (.ref f5) = true)
    {f6 : Addr} {od6 an6 : Option Addr} {sl6 : Array (Option Value)} {oc6 kV6 dc6 pm6 cd6 ct6 : Value}
    (a6 : PySem.W.nsIn K mainGlobals "_law_flags" = some (some (.ref f6))) (l6 : K.lookup f6 = some ⟨oc6, od6, .func (PySem.W.fnOf "_law_flags" "_law_flags" (defArgs s__law_flags) (defBody s__law_flags) (defScope s__law_flags) .none kV6 dc6 pm6 an6 cd6 ct6), sl6⟩) (c6 : PySem.W.codeIn K cd6 "_law_flags" = true) (k6 : PySem.W.keepIn K (.ref f6) = true)
    {f7 : Addr} {od7 an7 : Option Addr} {sl7 : Array (Option Value)} {oc7 kV7 dc7 pm7 cd7 ct7 : Value}
    (a7 : PySem.W.nsIn K mainGlobals "_law_words" = some (some (.ref f7))) (l7 : K.lookup f7 = some ⟨oc7, od7, .func (PySem.W.fnOf "_law_words" "_law_words" (defArgs s__law_words) (defBody s__law_words) (defScope s__law_words) .none kV7 dc7 pm7 an7 cd7 ct7), sl7⟩) (c7 : PySem.W.codeIn K cd7 "_law_words" = true) (k7 : PySem.W.keepIn K (.ref f7) = true)
    {f8 : Addr} {od8 an8 : Option Addr} {sl8 : Array (Option Value)} {oc8 kV8 dc8 pm8 cd8 ct8 : Value}
    (a8 : PySem.W.nsIn K mainGlobals "_law_raised" = some (some (.ref f8))) (l8 : K.lookup f8 = some ⟨oc8, od8, .func (PySem.W.fnOf "_law_raised" "_law_raised" (defArgs s__law_raised) (defBody s__law_raised) (defScope s__law_raised) .none kV8 dc8 pm8 an8 cd8 ct8), sl8⟩) (c8 : PySem.W.codeIn K cd8 "_law_raised" = true) (k8 : PySem.W.keepIn K (.ref f8) = true)
    {f9 : Addr} {od9 an9 : Option Addr} {sl9 : Array (Option Value)} {oc9 kV9 dc9 pm9 cd9 ct9 : Value}
    (a9 : PySem.W.nsIn K mainGlobals "law" = some (some (.ref f9))) (l9 : K.lookup f9 = some ⟨oc9, od9, .func (PySem.W.fnOf "law" "law" (defArgs s_law) (defBody s_law) (defScope s_law) .none kV9 dc9 pm9 an9 cd9 ct9), sl9⟩) (c9 : PySem.W.codeIn K cd9 "law" = true) (k9 : PySem.W.keepIn K (.ref f9) = true)
    {D0 : Addr} (aD0 : PySem.W.nsIn K mainGlobals "RankError" = some (some (.ref D0)))
    {D1 : Addr} (aD1 : PySem.W.nsIn K mainGlobals "NotFound" = some (some (.ref D1)))
    {X0 : Addr} (aX0 : PySem.W.nsIn K mainGlobals "InvalidName" = some (some (.ref X0))) (xx0 : xcV K X0 = true)
    (xn0name : PySem.W.findIn K (.ref X0) "name" = some none)
    (xn0word : PySem.W.findIn K (.ref X0) "word" = some none)
    {xf0 : Addr} {xod0 xan0 : Option Addr} {xsl0 : Array (Option Value)} {xoc0 xkV0 xdc0 xpm0 xcd0 xct0 : Value}
    (xa0 : PySem.W.findIn K (.ref X0) "__init__" = some (some (.ref xf0))) (xt0 : PySem.W.typeIn K (.ref xf0) = some (.type "function")) (xl0 : K.lookup xf0 = some ⟨xoc0, xod0, .func (PySem.W.fnOf "__init__" "InvalidName.__init__" (defArgs s_InvalidName___init__) (defBody s_InvalidName___init__) (defScope s_InvalidName___init__) .none xkV0 xdc0 xpm0 xan0 xcd0 xct0), xsl0⟩) (xc0 : PySem.W.codeIn K xcd0 "InvalidName.__init__" = true) (xk0 : PySem.W.keepIn K (.ref xf0) = true)
    (xe0 : PySem.W.exmOne K (.ref X0) (.ref D0) = some true)
    {X1 : Addr} (aX1 : PySem.W.nsIn K mainGlobals "InvalidValue" = some (some (.ref X1))) (xx1 : xcV K X1 = true)
    (xn1value : PySem.W.findIn K (.ref X1) "value" = some none)
    (xn1word : PySem.W.findIn K (.ref X1) "word" = some none)
    {xf1 : Addr} {xod1 xan1 : Option Addr} {xsl1 : Array (Option Value)} {xoc1 xkV1 xdc1 xpm1 xcd1 xct1 : Value}
    (xa1 : PySem.W.findIn K (.ref X1) "__init__" = some (some (.ref xf1))) (xt1 : PySem.W.typeIn K (.ref xf1) = some (.type "function")) (xl1 : K.lookup xf1 = some ⟨xoc1, xod1, .func (PySem.W.fnOf "__init__" "InvalidValue.__init__" (defArgs s_InvalidValue___init__) (defBody s_InvalidValue___init__) (defScope s_InvalidValue___init__) .none xkV1 xdc1 xpm1 xan1 xcd1 xct1), xsl1⟩) (xc1 : PySem.W.codeIn K xcd1 "InvalidValue.__init__" = true) (xk1 : PySem.W.keepIn K (.ref xf1) = true)
    (xe1 : PySem.W.exmOne K (.ref X1) (.ref D0) = some true)
    {X2 : Addr} (aX2 : PySem.W.nsIn K mainGlobals "DuplicateName" = some (some (.ref X2))) (xx2 : xcV K X2 = true)
    (xn2name : PySem.W.findIn K (.ref X2) "name" = some none)
    (xn2word : PySem.W.findIn K (.ref X2) "word" = some none)
    {xf2 : Addr} {xod2 xan2 : Option Addr} {xsl2 : Array (Option Value)} {xoc2 xkV2 xdc2 xpm2 xcd2 xct2 : Value}
    (xa2 : PySem.W.findIn K (.ref X2) "__init__" = some (some (.ref xf2))) (xt2 : PySem.W.typeIn K (.ref xf2) = some (.type "function")) (xl2 : K.lookup xf2 = some ⟨xoc2, xod2, .func (PySem.W.fnOf "__init__" "DuplicateName.__init__" (defArgs s_DuplicateName___init__) (defBody s_DuplicateName___init__) (defScope s_DuplicateName___init__) .none xkV2 xdc2 xpm2 xan2 xcd2 xct2), xsl2⟩) (xc2 : PySem.W.codeIn K xcd2 "DuplicateName.__init__" = true) (xk2 : PySem.W.keepIn K (.ref xf2) = true)
    (xe2 : PySem.W.exmOne K (.ref X2) (.ref D0) = some true)
    {X3 : Addr} (aX3 : PySem.W.nsIn K mainGlobals "LimitReached" = some (some (.ref X3))) (xx3 : xcV K X3 = true)
    (xn3limit : PySem.W.findIn K (.ref X3) "limit" = some none)
    (xn3word : PySem.W.findIn K (.ref X3) "word" = some none)
    {xf3 : Addr} {xod3 xan3 : Option Addr} {xsl3 : Array (Option Value)} {xoc3 xkV3 xdc3 xpm3 xcd3 xct3 : Value}
    (xa3 : PySem.W.findIn K (.ref X3) "__init__" = some (some (.ref xf3))) (xt3 : PySem.W.typeIn K (.ref xf3) = some (.type "function")) (xl3 : K.lookup xf3 = some ⟨xoc3, xod3, .func (PySem.W.fnOf "__init__" "LimitReached.__init__" (defArgs s_LimitReached___init__) (defBody s_LimitReached___init__) (defScope s_LimitReached___init__) .none xkV3 xdc3 xpm3 xan3 xcd3 xct3), xsl3⟩) (xc3 : PySem.W.codeIn K xcd3 "LimitReached.__init__" = true) (xk3 : PySem.W.keepIn K (.ref xf3) = true)
    (xe3 : PySem.W.exmOne K (.ref X3) (.ref D0) = some true)
    {X4 : Addr} (aX4 : PySem.W.nsIn K mainGlobals "InvalidRequest" = some (some (.ref X4))) (xx4 : xcV K X4 = true)
    (xn4position : PySem.W.findIn K (.ref X4) "position" = some none)
    (xn4word : PySem.W.findIn K (.ref X4) "word" = some none)
    {xf4 : Addr} {xod4 xan4 : Option Addr} {xsl4 : Array (Option Value)} {xoc4 xkV4 xdc4 xpm4 xcd4 xct4 : Value}
    (xa4 : PySem.W.findIn K (.ref X4) "__init__" = some (some (.ref xf4))) (xt4 : PySem.W.typeIn K (.ref xf4) = some (.type "function")) (xl4 : K.lookup xf4 = some ⟨xoc4, xod4, .func (PySem.W.fnOf "__init__" "InvalidRequest.__init__" (defArgs s_InvalidRequest___init__) (defBody s_InvalidRequest___init__) (defScope s_InvalidRequest___init__) .none xkV4 xdc4 xpm4 xan4 xcd4 xct4), xsl4⟩) (xc4 : PySem.W.codeIn K xcd4 "InvalidRequest.__init__" = true) (xk4 : PySem.W.keepIn K (.ref xf4) = true)
    (xe4 : PySem.W.exmOne K (.ref X4) (.ref D0) = some true)
    {X5 : Addr} (aX5 : PySem.W.nsIn K mainGlobals "InvalidNumber" = some (some (.ref X5))) (xx5 : xcV K X5 = true)
    (xn5number : PySem.W.findIn K (.ref X5) "number" = some none)
    (xn5word : PySem.W.findIn K (.ref X5) "word" = some none)
    {xf5 : Addr} {xod5 xan5 : Option Addr} {xsl5 : Array (Option Value)} {xoc5 xkV5 xdc5 xpm5 xcd5 xct5 : Value}
    (xa5 : PySem.W.findIn K (.ref X5) "__init__" = some (some (.ref xf5))) (xt5 : PySem.W.typeIn K (.ref xf5) = some (.type "function")) (xl5 : K.lookup xf5 = some ⟨xoc5, xod5, .func (PySem.W.fnOf "__init__" "InvalidNumber.__init__" (defArgs s_InvalidNumber___init__) (defBody s_InvalidNumber___init__) (defScope s_InvalidNumber___init__) .none xkV5 xdc5 xpm5 xan5 xcd5 xct5), xsl5⟩) (xc5 : PySem.W.codeIn K xcd5 "InvalidNumber.__init__" = true) (xk5 : PySem.W.keepIn K (.ref xf5) = true)
    (xe5 : PySem.W.exmOne K (.ref X5) (.ref D0) = some true)
    {X6 : Addr} (aX6 : PySem.W.nsIn K mainGlobals "InvalidCondition" = some (some (.ref X6))) (xx6 : xcV K X6 = true)
    (xn6position : PySem.W.findIn K (.ref X6) "position" = some none)
    (xn6word : PySem.W.findIn K (.ref X6) "word" = some none)
    {xf6 : Addr} {xod6 xan6 : Option Addr} {xsl6 : Array (Option Value)} {xoc6 xkV6 xdc6 xpm6 xcd6 xct6 : Value}
    (xa6 : PySem.W.findIn K (.ref X6) "__init__" = some (some (.ref xf6))) (xt6 : PySem.W.typeIn K (.ref xf6) = some (.type "function")) (xl6 : K.lookup xf6 = some ⟨xoc6, xod6, .func (PySem.W.fnOf "__init__" "InvalidCondition.__init__" (defArgs s_InvalidCondition___init__) (defBody s_InvalidCondition___init__) (defScope s_InvalidCondition___init__) .none xkV6 xdc6 xpm6 xan6 xcd6 xct6), xsl6⟩) (xc6 : PySem.W.codeIn K xcd6 "InvalidCondition.__init__" = true) (xk6 : PySem.W.keepIn K (.ref xf6) = true)
    (xe6 : PySem.W.exmOne K (.ref X6) (.ref D0) = some true)
    {X7 : Addr} (aX7 : PySem.W.nsIn K mainGlobals "InvalidPair" = some (some (.ref X7))) (xx7 : xcV K X7 = true)
    (xn7place : PySem.W.findIn K (.ref X7) "place" = some none)
    (xn7word : PySem.W.findIn K (.ref X7) "word" = some none)
    {xf7 : Addr} {xod7 xan7 : Option Addr} {xsl7 : Array (Option Value)} {xoc7 xkV7 xdc7 xpm7 xcd7 xct7 : Value}
    (xa7 : PySem.W.findIn K (.ref X7) "__init__" = some (some (.ref xf7))) (xt7 : PySem.W.typeIn K (.ref xf7) = some (.type "function")) (xl7 : K.lookup xf7 = some ⟨xoc7, xod7, .func (PySem.W.fnOf "__init__" "InvalidPair.__init__" (defArgs s_InvalidPair___init__) (defBody s_InvalidPair___init__) (defScope s_InvalidPair___init__) .none xkV7 xdc7 xpm7 xan7 xcd7 xct7), xsl7⟩) (xc7 : PySem.W.codeIn K xcd7 "InvalidPair.__init__" = true) (xk7 : PySem.W.keepIn K (.ref xf7) = true)
    (xe7 : PySem.W.exmOne K (.ref X7) (.ref D0) = some true)
    {X8 : Addr} (aX8 : PySem.W.nsIn K mainGlobals "InvalidReport" = some (some (.ref X8))) (xx8 : xcV K X8 = true)
    (xn8place : PySem.W.findIn K (.ref X8) "place" = some none)
    (xn8word : PySem.W.findIn K (.ref X8) "word" = some none)
    {xf8 : Addr} {xod8 xan8 : Option Addr} {xsl8 : Array (Option Value)} {xoc8 xkV8 xdc8 xpm8 xcd8 xct8 : Value}
    (xa8 : PySem.W.findIn K (.ref X8) "__init__" = some (some (.ref xf8))) (xt8 : PySem.W.typeIn K (.ref xf8) = some (.type "function")) (xl8 : K.lookup xf8 = some ⟨xoc8, xod8, .func (PySem.W.fnOf "__init__" "InvalidReport.__init__" (defArgs s_InvalidReport___init__) (defBody s_InvalidReport___init__) (defScope s_InvalidReport___init__) .none xkV8 xdc8 xpm8 xan8 xcd8 xct8), xsl8⟩) (xc8 : PySem.W.codeIn K xcd8 "InvalidReport.__init__" = true) (xk8 : PySem.W.keepIn K (.ref xf8) = true)
    (xe8 : PySem.W.exmOne K (.ref X8) (.ref D0) = some true)
    {X9 : Addr} (aX9 : PySem.W.nsIn K mainGlobals "InvalidSlot" = some (some (.ref X9))) (xx9 : xcV K X9 = true)
    (xn9slot : PySem.W.findIn K (.ref X9) "slot" = some none)
    (xn9word : PySem.W.findIn K (.ref X9) "word" = some none)
    {xf9 : Addr} {xod9 xan9 : Option Addr} {xsl9 : Array (Option Value)} {xoc9 xkV9 xdc9 xpm9 xcd9 xct9 : Value}
    (xa9 : PySem.W.findIn K (.ref X9) "__init__" = some (some (.ref xf9))) (xt9 : PySem.W.typeIn K (.ref xf9) = some (.type "function")) (xl9 : K.lookup xf9 = some ⟨xoc9, xod9, .func (PySem.W.fnOf "__init__" "InvalidSlot.__init__" (defArgs s_InvalidSlot___init__) (defBody s_InvalidSlot___init__) (defScope s_InvalidSlot___init__) .none xkV9 xdc9 xpm9 xan9 xcd9 xct9), xsl9⟩) (xc9 : PySem.W.codeIn K xcd9 "InvalidSlot.__init__" = true) (xk9 : PySem.W.keepIn K (.ref xf9) = true)
    (xe9 : PySem.W.exmOne K (.ref X9) (.ref D0) = some true)
    {X10 : Addr} (aX10 : PySem.W.nsIn K mainGlobals "NotADeadlock" = some (some (.ref X10))) (xx10 : xcV K X10 = true)
    (xn10word : PySem.W.findIn K (.ref X10) "word" = some none)
    {xf10 : Addr} {xod10 xan10 : Option Addr} {xsl10 : Array (Option Value)} {xoc10 xkV10 xdc10 xpm10 xcd10 xct10 : Value}
    (xa10 : PySem.W.findIn K (.ref X10) "__init__" = some (some (.ref xf10))) (xt10 : PySem.W.typeIn K (.ref xf10) = some (.type "function")) (xl10 : K.lookup xf10 = some ⟨xoc10, xod10, .func (PySem.W.fnOf "__init__" "NotADeadlock.__init__" (defArgs s_NotADeadlock___init__) (defBody s_NotADeadlock___init__) (defScope s_NotADeadlock___init__) .none xkV10 xdc10 xpm10 xan10 xcd10 xct10), xsl10⟩) (xc10 : PySem.W.codeIn K xcd10 "NotADeadlock.__init__" = true) (xk10 : PySem.W.keepIn K (.ref xf10) = true)
    (xe10 : PySem.W.exmOne K (.ref X10) (.ref D0) = some true)
    {X11 : Addr} (aX11 : PySem.W.nsIn K mainGlobals "InvalidOutcomes" = some (some (.ref X11))) (xx11 : xcV K X11 = true)
    (xn11word : PySem.W.findIn K (.ref X11) "word" = some none)
    {xf11 : Addr} {xod11 xan11 : Option Addr} {xsl11 : Array (Option Value)} {xoc11 xkV11 xdc11 xpm11 xcd11 xct11 : Value}
    (xa11 : PySem.W.findIn K (.ref X11) "__init__" = some (some (.ref xf11))) (xt11 : PySem.W.typeIn K (.ref xf11) = some (.type "function")) (xl11 : K.lookup xf11 = some ⟨xoc11, xod11, .func (PySem.W.fnOf "__init__" "InvalidOutcomes.__init__" (defArgs s_InvalidOutcomes___init__) (defBody s_InvalidOutcomes___init__) (defScope s_InvalidOutcomes___init__) .none xkV11 xdc11 xpm11 xan11 xcd11 xct11), xsl11⟩) (xc11 : PySem.W.codeIn K xcd11 "InvalidOutcomes.__init__" = true) (xk11 : PySem.W.keepIn K (.ref xf11) = true)
    (xe11 : PySem.W.exmOne K (.ref X11) (.ref D0) = some true)
    {X12 : Addr} (aX12 : PySem.W.nsIn K mainGlobals "NothingMatches" = some (some (.ref X12))) (xx12 : xcV K X12 = true)
    (xn12number : PySem.W.findIn K (.ref X12) "number" = some none)
    (xn12word : PySem.W.findIn K (.ref X12) "word" = some none)
    {xf12 : Addr} {xod12 xan12 : Option Addr} {xsl12 : Array (Option Value)} {xoc12 xkV12 xdc12 xpm12 xcd12 xct12 : Value}
    (xa12 : PySem.W.findIn K (.ref X12) "__init__" = some (some (.ref xf12))) (xt12 : PySem.W.typeIn K (.ref xf12) = some (.type "function")) (xl12 : K.lookup xf12 = some ⟨xoc12, xod12, .func (PySem.W.fnOf "__init__" "NothingMatches.__init__" (defArgs s_NothingMatches___init__) (defBody s_NothingMatches___init__) (defScope s_NothingMatches___init__) .none xkV12 xdc12 xpm12 xan12 xcd12 xct12), xsl12⟩) (xc12 : PySem.W.codeIn K xcd12 "NothingMatches.__init__" = true) (xk12 : PySem.W.keepIn K (.ref xf12) = true)
    (xe12 : PySem.W.exmOne K (.ref X12) (.ref D0) = some true)
    {X13 : Addr} (aX13 : PySem.W.nsIn K mainGlobals "SameRule" = some (some (.ref X13))) (xx13 : xcV K X13 = true)
    (xn13name : PySem.W.findIn K (.ref X13) "name" = some none)
    (xn13word : PySem.W.findIn K (.ref X13) "word" = some none)
    {xf13 : Addr} {xod13 xan13 : Option Addr} {xsl13 : Array (Option Value)} {xoc13 xkV13 xdc13 xpm13 xcd13 xct13 : Value}
    (xa13 : PySem.W.findIn K (.ref X13) "__init__" = some (some (.ref xf13))) (xt13 : PySem.W.typeIn K (.ref xf13) = some (.type "function")) (xl13 : K.lookup xf13 = some ⟨xoc13, xod13, .func (PySem.W.fnOf "__init__" "SameRule.__init__" (defArgs s_SameRule___init__) (defBody s_SameRule___init__) (defScope s_SameRule___init__) .none xkV13 xdc13 xpm13 xan13 xcd13 xct13), xsl13⟩) (xc13 : PySem.W.codeIn K xcd13 "SameRule.__init__" = true) (xk13 : PySem.W.keepIn K (.ref xf13) = true)
    (xe13 : PySem.W.exmOne K (.ref X13) (.ref D0) = some true)
    {X14 : Addr} (aX14 : PySem.W.nsIn K mainGlobals "KnownOrder" = some (some (.ref X14))) (xx14 : xcV K X14 = true)
    (xn14name : PySem.W.findIn K (.ref X14) "name" = some none)
    (xn14other : PySem.W.findIn K (.ref X14) "other" = some none)
    (xn14word : PySem.W.findIn K (.ref X14) "word" = some none)
    {xf14 : Addr} {xod14 xan14 : Option Addr} {xsl14 : Array (Option Value)} {xoc14 xkV14 xdc14 xpm14 xcd14 xct14 : Value}
    (xa14 : PySem.W.findIn K (.ref X14) "__init__" = some (some (.ref xf14))) (xt14 : PySem.W.typeIn K (.ref xf14) = some (.type "function")) (xl14 : K.lookup xf14 = some ⟨xoc14, xod14, .func (PySem.W.fnOf "__init__" "KnownOrder.__init__" (defArgs s_KnownOrder___init__) (defBody s_KnownOrder___init__) (defScope s_KnownOrder___init__) .none xkV14 xdc14 xpm14 xan14 xcd14 xct14), xsl14⟩) (xc14 : PySem.W.codeIn K xcd14 "KnownOrder.__init__" = true) (xk14 : PySem.W.keepIn K (.ref xf14) = true)
    (xe14 : PySem.W.exmOne K (.ref X14) (.ref D0) = some true)
    {X15 : Addr} (aX15 : PySem.W.nsIn K mainGlobals "Contradiction" = some (some (.ref X15))) (xx15 : xcV K X15 = true)
    (xn15deadlock : PySem.W.findIn K (.ref X15) "deadlock" = some none)
    (xn15word : PySem.W.findIn K (.ref X15) "word" = some none)
    {xf15 : Addr} {xod15 xan15 : Option Addr} {xsl15 : Array (Option Value)} {xoc15 xkV15 xdc15 xpm15 xcd15 xct15 : Value}
    (xa15 : PySem.W.findIn K (.ref X15) "__init__" = some (some (.ref xf15))) (xt15 : PySem.W.typeIn K (.ref xf15) = some (.type "function")) (xl15 : K.lookup xf15 = some ⟨xoc15, xod15, .func (PySem.W.fnOf "__init__" "Contradiction.__init__" (defArgs s_Contradiction___init__) (defBody s_Contradiction___init__) (defScope s_Contradiction___init__) .none xkV15 xdc15 xpm15 xan15 xcd15 xct15), xsl15⟩) (xc15 : PySem.W.codeIn K xcd15 "Contradiction.__init__" = true) (xk15 : PySem.W.keepIn K (.ref xf15) = true)
    (xe15 : PySem.W.exmOne K (.ref X15) (.ref D0) = some true)
    {X16 : Addr} (aX16 : PySem.W.nsIn K mainGlobals "InvalidMoment" = some (some (.ref X16))) (xx16 : xcV K X16 = true)
    (xn16moment : PySem.W.findIn K (.ref X16) "moment" = some none)
    (xn16word : PySem.W.findIn K (.ref X16) "word" = some none)
    {xf16 : Addr} {xod16 xan16 : Option Addr} {xsl16 : Array (Option Value)} {xoc16 xkV16 xdc16 xpm16 xcd16 xct16 : Value}
    (xa16 : PySem.W.findIn K (.ref X16) "__init__" = some (some (.ref xf16))) (xt16 : PySem.W.typeIn K (.ref xf16) = some (.type "function")) (xl16 : K.lookup xf16 = some ⟨xoc16, xod16, .func (PySem.W.fnOf "__init__" "InvalidMoment.__init__" (defArgs s_InvalidMoment___init__) (defBody s_InvalidMoment___init__) (defScope s_InvalidMoment___init__) .none xkV16 xdc16 xpm16 xan16 xcd16 xct16), xsl16⟩) (xc16 : PySem.W.codeIn K xcd16 "InvalidMoment.__init__" = true) (xk16 : PySem.W.keepIn K (.ref xf16) = true)
    (xe16 : PySem.W.exmOne K (.ref X16) (.ref D0) = some true)
    {X17 : Addr} (aX17 : PySem.W.nsIn K mainGlobals "InvalidCommand" = some (some (.ref X17))) (xx17 : xcV K X17 = true)
    (xn17word : PySem.W.findIn K (.ref X17) "word" = some none)
    {xf17 : Addr} {xod17 xan17 : Option Addr} {xsl17 : Array (Option Value)} {xoc17 xkV17 xdc17 xpm17 xcd17 xct17 : Value}
    (xa17 : PySem.W.findIn K (.ref X17) "__init__" = some (some (.ref xf17))) (xt17 : PySem.W.typeIn K (.ref xf17) = some (.type "function")) (xl17 : K.lookup xf17 = some ⟨xoc17, xod17, .func (PySem.W.fnOf "__init__" "InvalidCommand.__init__" (defArgs s_InvalidCommand___init__) (defBody s_InvalidCommand___init__) (defScope s_InvalidCommand___init__) .none xkV17 xdc17 xpm17 xan17 xcd17 xct17), xsl17⟩) (xc17 : PySem.W.codeIn K xcd17 "InvalidCommand.__init__" = true) (xk17 : PySem.W.keepIn K (.ref xf17) = true)
    (xe17 : PySem.W.exmOne K (.ref X17) (.ref D0) = some true)
    {X18 : Addr} (aX18 : PySem.W.nsIn K mainGlobals "BatchFailed" = some (some (.ref X18))) (xx18 : xcV K X18 = true)
    (xn18position : PySem.W.findIn K (.ref X18) "position" = some none)
    (xn18reason : PySem.W.findIn K (.ref X18) "reason" = some none)
    (xn18word : PySem.W.findIn K (.ref X18) "word" = some none)
    {xf18 : Addr} {xod18 xan18 : Option Addr} {xsl18 : Array (Option Value)} {xoc18 xkV18 xdc18 xpm18 xcd18 xct18 : Value}
    (xa18 : PySem.W.findIn K (.ref X18) "__init__" = some (some (.ref xf18))) (xt18 : PySem.W.typeIn K (.ref xf18) = some (.type "function")) (xl18 : K.lookup xf18 = some ⟨xoc18, xod18, .func (PySem.W.fnOf "__init__" "BatchFailed.__init__" (defArgs s_BatchFailed___init__) (defBody s_BatchFailed___init__) (defScope s_BatchFailed___init__) .none xkV18 xdc18 xpm18 xan18 xcd18 xct18), xsl18⟩) (xc18 : PySem.W.codeIn K xcd18 "BatchFailed.__init__" = true) (xk18 : PySem.W.keepIn K (.ref xf18) = true)
    (xe18 : PySem.W.exmOne K (.ref X18) (.ref D0) = some true)
    {X19 : Addr} (aX19 : PySem.W.nsIn K mainGlobals "InvalidText" = some (some (.ref X19))) (xx19 : xcV K X19 = true)
    (xn19word : PySem.W.findIn K (.ref X19) "word" = some none)
    {xf19 : Addr} {xod19 xan19 : Option Addr} {xsl19 : Array (Option Value)} {xoc19 xkV19 xdc19 xpm19 xcd19 xct19 : Value}
    (xa19 : PySem.W.findIn K (.ref X19) "__init__" = some (some (.ref xf19))) (xt19 : PySem.W.typeIn K (.ref xf19) = some (.type "function")) (xl19 : K.lookup xf19 = some ⟨xoc19, xod19, .func (PySem.W.fnOf "__init__" "InvalidText.__init__" (defArgs s_InvalidText___init__) (defBody s_InvalidText___init__) (defScope s_InvalidText___init__) .none xkV19 xdc19 xpm19 xan19 xcd19 xct19), xsl19⟩) (xc19 : PySem.W.codeIn K xcd19 "InvalidText.__init__" = true) (xk19 : PySem.W.keepIn K (.ref xf19) = true)
    (xe19 : PySem.W.exmOne K (.ref X19) (.ref D0) = some true)
    {X20 : Addr} (aX20 : PySem.W.nsIn K mainGlobals "InvalidFile" = some (some (.ref X20))) (xx20 : xcV K X20 = true)
    (xn20line : PySem.W.findIn K (.ref X20) "line" = some none)
    (xn20word : PySem.W.findIn K (.ref X20) "word" = some none)
    {xf20 : Addr} {xod20 xan20 : Option Addr} {xsl20 : Array (Option Value)} {xoc20 xkV20 xdc20 xpm20 xcd20 xct20 : Value}
    (xa20 : PySem.W.findIn K (.ref X20) "__init__" = some (some (.ref xf20))) (xt20 : PySem.W.typeIn K (.ref xf20) = some (.type "function")) (xl20 : K.lookup xf20 = some ⟨xoc20, xod20, .func (PySem.W.fnOf "__init__" "InvalidFile.__init__" (defArgs s_InvalidFile___init__) (defBody s_InvalidFile___init__) (defScope s_InvalidFile___init__) .none xkV20 xdc20 xpm20 xan20 xcd20 xct20), xsl20⟩) (xc20 : PySem.W.codeIn K xcd20 "InvalidFile.__init__" = true) (xk20 : PySem.W.keepIn K (.ref xf20) = true)
    (xe20 : PySem.W.exmOne K (.ref X20) (.ref D0) = some true)
    {X21 : Addr} (aX21 : PySem.W.nsIn K mainGlobals "UnknownField" = some (some (.ref X21))) (xx21 : xcL K X21 = true)
    (xn21name : PySem.W.findIn K (.ref X21) "name" = some none)
    (xn21word : PySem.W.findIn K (.ref X21) "word" = some none)
    {xf21 : Addr} {xod21 xan21 : Option Addr} {xsl21 : Array (Option Value)} {xoc21 xkV21 xdc21 xpm21 xcd21 xct21 : Value}
    (xa21 : PySem.W.findIn K (.ref X21) "__init__" = some (some (.ref xf21))) (xt21 : PySem.W.typeIn K (.ref xf21) = some (.type "function")) (xl21 : K.lookup xf21 = some ⟨xoc21, xod21, .func (PySem.W.fnOf "__init__" "UnknownField.__init__" (defArgs s_UnknownField___init__) (defBody s_UnknownField___init__) (defScope s_UnknownField___init__) .none xkV21 xdc21 xpm21 xan21 xcd21 xct21), xsl21⟩) (xc21 : PySem.W.codeIn K xcd21 "UnknownField.__init__" = true) (xk21 : PySem.W.keepIn K (.ref xf21) = true)
    (xe21 : PySem.W.exmOne K (.ref X21) (.ref D0) = some false)
    (xg21 : PySem.W.exmOne K (.ref X21) (.ref D1) = some true)
    {X22 : Addr} (aX22 : PySem.W.nsIn K mainGlobals "UnknownValue" = some (some (.ref X22))) (xx22 : xcL K X22 = true)
    (xn22value : PySem.W.findIn K (.ref X22) "value" = some none)
    (xn22word : PySem.W.findIn K (.ref X22) "word" = some none)
    {xf22 : Addr} {xod22 xan22 : Option Addr} {xsl22 : Array (Option Value)} {xoc22 xkV22 xdc22 xpm22 xcd22 xct22 : Value}
    (xa22 : PySem.W.findIn K (.ref X22) "__init__" = some (some (.ref xf22))) (xt22 : PySem.W.typeIn K (.ref xf22) = some (.type "function")) (xl22 : K.lookup xf22 = some ⟨xoc22, xod22, .func (PySem.W.fnOf "__init__" "UnknownValue.__init__" (defArgs s_UnknownValue___init__) (defBody s_UnknownValue___init__) (defScope s_UnknownValue___init__) .none xkV22 xdc22 xpm22 xan22 xcd22 xct22), xsl22⟩) (xc22 : PySem.W.codeIn K xcd22 "UnknownValue.__init__" = true) (xk22 : PySem.W.keepIn K (.ref xf22) = true)
    (xe22 : PySem.W.exmOne K (.ref X22) (.ref D0) = some false)
    (xg22 : PySem.W.exmOne K (.ref X22) (.ref D1) = some true)
    {X23 : Addr} (aX23 : PySem.W.nsIn K mainGlobals "UnknownEffect" = some (some (.ref X23))) (xx23 : xcL K X23 = true)
    (xn23name : PySem.W.findIn K (.ref X23) "name" = some none)
    (xn23word : PySem.W.findIn K (.ref X23) "word" = some none)
    {xf23 : Addr} {xod23 xan23 : Option Addr} {xsl23 : Array (Option Value)} {xoc23 xkV23 xdc23 xpm23 xcd23 xct23 : Value}
    (xa23 : PySem.W.findIn K (.ref X23) "__init__" = some (some (.ref xf23))) (xt23 : PySem.W.typeIn K (.ref xf23) = some (.type "function")) (xl23 : K.lookup xf23 = some ⟨xoc23, xod23, .func (PySem.W.fnOf "__init__" "UnknownEffect.__init__" (defArgs s_UnknownEffect___init__) (defBody s_UnknownEffect___init__) (defScope s_UnknownEffect___init__) .none xkV23 xdc23 xpm23 xan23 xcd23 xct23), xsl23⟩) (xc23 : PySem.W.codeIn K xcd23 "UnknownEffect.__init__" = true) (xk23 : PySem.W.keepIn K (.ref xf23) = true)
    (xe23 : PySem.W.exmOne K (.ref X23) (.ref D0) = some false)
    (xg23 : PySem.W.exmOne K (.ref X23) (.ref D1) = some true)
    {X24 : Addr} (aX24 : PySem.W.nsIn K mainGlobals "UnknownRule" = some (some (.ref X24))) (xx24 : xcL K X24 = true)
    (xn24name : PySem.W.findIn K (.ref X24) "name" = some none)
    (xn24word : PySem.W.findIn K (.ref X24) "word" = some none)
    {xf24 : Addr} {xod24 xan24 : Option Addr} {xsl24 : Array (Option Value)} {xoc24 xkV24 xdc24 xpm24 xcd24 xct24 : Value}
    (xa24 : PySem.W.findIn K (.ref X24) "__init__" = some (some (.ref xf24))) (xt24 : PySem.W.typeIn K (.ref xf24) = some (.type "function")) (xl24 : K.lookup xf24 = some ⟨xoc24, xod24, .func (PySem.W.fnOf "__init__" "UnknownRule.__init__" (defArgs s_UnknownRule___init__) (defBody s_UnknownRule___init__) (defScope s_UnknownRule___init__) .none xkV24 xdc24 xpm24 xan24 xcd24 xct24), xsl24⟩) (xc24 : PySem.W.codeIn K xcd24 "UnknownRule.__init__" = true) (xk24 : PySem.W.keepIn K (.ref xf24) = true)
    (xe24 : PySem.W.exmOne K (.ref X24) (.ref D0) = some false)
    (xg24 : PySem.W.exmOne K (.ref X24) (.ref D1) = some true)
    {X25 : Addr} (aX25 : PySem.W.nsIn K mainGlobals "NothingLeft" = some (some (.ref X25))) (xx25 : xcL K X25 = true)
    (xn25word : PySem.W.findIn K (.ref X25) "word" = some none)
    {xf25 : Addr} {xod25 xan25 : Option Addr} {xsl25 : Array (Option Value)} {xoc25 xkV25 xdc25 xpm25 xcd25 xct25 : Value}
    (xa25 : PySem.W.findIn K (.ref X25) "__init__" = some (some (.ref xf25))) (xt25 : PySem.W.typeIn K (.ref xf25) = some (.type "function")) (xl25 : K.lookup xf25 = some ⟨xoc25, xod25, .func (PySem.W.fnOf "__init__" "NothingLeft.__init__" (defArgs s_NothingLeft___init__) (defBody s_NothingLeft___init__) (defScope s_NothingLeft___init__) .none xkV25 xdc25 xpm25 xan25 xcd25 xct25), xsl25⟩) (xc25 : PySem.W.codeIn K xcd25 "NothingLeft.__init__" = true) (xk25 : PySem.W.keepIn K (.ref xf25) = true)
    (xe25 : PySem.W.exmOne K (.ref X25) (.ref D0) = some false)
    (xg25 : PySem.W.exmOne K (.ref X25) (.ref D1) = some true)
    (xk : ekBA K [X0, X1, X2, X3, X4, X5, X6, X7, X8, X9, X10, X11, X12, X13, X14, X15, X16, X17, X18, X19, X20, X21, X22, X23, X24, X25] D1 = true)
    (z0 : PySem.W.nsIn K mainGlobals "KeyError" = some none)
    (z1 : PySem.W.nsIn K mainGlobals "LookupError" = some none)
    (z2 : PySem.W.nsIn K mainGlobals "ValueError" = some none)
    (z3 : PySem.W.nsIn K mainGlobals "abs" = some none)
    (z4 : PySem.W.nsIn K mainGlobals "all" = some none)
    (z5 : PySem.W.nsIn K mainGlobals "bool" = some none)
    (z6 : PySem.W.nsIn K mainGlobals "int" = some none)
    (z7 : PySem.W.nsIn K mainGlobals "isinstance" = some none)
    (z8 : PySem.W.nsIn K mainGlobals "len" = some none)
    (z9 : PySem.W.nsIn K mainGlobals "list" = some none)
    (z10 : PySem.W.nsIn K mainGlobals "range" = some none)
    (z11 : PySem.W.nsIn K mainGlobals "str" = some none)
    (z12 : PySem.W.nsIn K mainGlobals "tuple" = some none)
    (z13 : PySem.W.nsIn K mainGlobals "zip" = some none)
    : ∃ fd : FuncData, (∀ (s : Shared) (v : Value), BindsTo s fd ⟨[v], []⟩ [("_law_script", v)]) ∧ ∀ base : Heap, K.In base → base.Ns mainGlobals mg → FnOk l.prog w K mg base CX0 60 fa fd ["_law_script"] (sp_law K) := by
  have e := hfa.symm.trans (PySem.W.mg_of X G a9)
  cases e
  have F0 := fun_mk (st := s__law_bag) l0 c0 k0
  have b0 := F0.binds (ps := ["_law_script"]) fun _ _ _ _ _ _ us hl => match us, hl with | [_], _ => rfl
  have F1 := fun_mk (st := s__law_pull) l1 c1 k1
  have b1 := F1.binds (ps := ["_law_bag_here", "_law_sides"]) fun _ _ _ _ _ _ us hl => match us, hl with | [_, _], _ => rfl
  have F2 := fun_mk (st := s__law_same) l2 c2 k2
  have b2 := F2.binds (ps := ["_law_found", "_law_due"]) fun _ _ _ _ _ _ us hl => match us, hl with | [_, _], _ => rfl
  have F3 := fun_mk (st := s__law_early) l3 c3 k3
  have b3 := F3.binds (ps := ["_law_at", "_law_a", "_law_b"]) fun _ _ _ _ _ _ us hl => match us, hl with | [_, _, _], _ => rfl
  have F4 := fun_mk (st := s__law_middle) l4 c4 k4
  have b4 := F4.binds (ps := ["_law_at", "_law_a", "_law_b"]) fun _ _ _ _ _ _ us hl => match us, hl with | [_, _, _], _ => rfl
  have F5 := fun_mk (st := s__law_late) l5 c5 k5
  have b5 := F5.binds (ps := ["_law_at", "_law_a", "_law_b"]) fun _ _ _ _ _ _ us hl => match us, hl with | [_, _, _], _ => rfl
  have F6 := fun_mk (st := s__law_flags) l6 c6 k6
  have b6 := F6.binds (ps := ["_law_e"]) fun _ _ _ _ _ _ us hl => match us, hl with | [_], _ => rfl
  have F7 := fun_mk (st := s__law_words) l7 c7 k7
  have b7 := F7.binds (ps := []) fun _ _ _ _ _ _ us hl => match us, hl with | [], _ => rfl
  have F8 := fun_mk (st := s__law_raised) l8 c8 k8
  have b8 := F8.binds (ps := ["_law_at", "_law_a", "_law_b"]) fun _ _ _ _ _ _ us hl => match us, hl with | [_, _, _], _ => rfl
  have F9 := fun_mk (st := s_law) l9 c9 k9
  have gD0 : mg "RankError" = some (.ref D0) := PySem.W.mg_of X G aD0
  have eD0 : adr (mg "RankError") = D0 := by rw [gD0]; rfl
  have gD1 : mg "NotFound" = some (.ref D1) := PySem.W.mg_of X G aD1
  have eD1 : adr (mg "NotFound") = D1 := by rw [gD1]; rfl
  have gX0 : mg "InvalidName" = some (.ref X0) := PySem.W.mg_of X G aX0
  have eX0 : adr (mg "InvalidName") = X0 := by rw [gX0]; rfl
  have XF0 := fun_mk (st := s_InvalidName___init__) xl0 xc0 xk0
  have xb0 := XF0.binds (ps := ["self", "name"]) fun _ _ _ _ _ _ us hl => match us, hl with | [_, _], _ => rfl
  have gX1 : mg "InvalidValue" = some (.ref X1) := PySem.W.mg_of X G aX1
  have eX1 : adr (mg "InvalidValue") = X1 := by rw [gX1]; rfl
  have XF1 := fun_mk (st := s_InvalidValue___init__) xl1 xc1 xk1
  have xb1 := XF1.binds (ps := ["self", "value"]) fun _ _ _ _ _ _ us hl => match us, hl with | [_, _], _ => rfl
  have gX2 : mg "DuplicateName" = some (.ref X2) := PySem.W.mg_of X G aX2
  have eX2 : adr (mg "DuplicateName") = X2 := by rw [gX2]; rfl
  have XF2 := fun_mk (st := s_DuplicateName___init__) xl2 xc2 xk2
  have xb2 := XF2.binds (ps := ["self", "name"]) fun _ _ _ _ _ _ us hl => match us, hl with | [_, _], _ => rfl
  have gX3 : mg "LimitReached" = some (.ref X3) := PySem.W.mg_of X G aX3
  have eX3 : adr (mg "LimitReached") = X3 := by rw [gX3]; rfl
  have XF3 := fun_mk (st := s_LimitReached___init__) xl3 xc3 xk3
  have xb3 := XF3.binds (ps := ["self", "limit"]) fun _ _ _ _ _ _ us hl => match us, hl with | [_, _], _ => rfl
  have gX4 : mg "InvalidRequest" = some (.ref X4) := PySem.W.mg_of X G aX4
  have eX4 : adr (mg "InvalidRequest") = X4 := by rw [gX4]; rfl
  have XF4 := fun_mk (st := s_InvalidRequest___init__) xl4 xc4 xk4
  have xb4 := XF4.binds (ps := ["self", "position"]) fun _ _ _ _ _ _ us hl => match us, hl with | [_, _], _ => rfl
  have gX5 : mg "InvalidNumber" = some (.ref X5) := PySem.W.mg_of X G aX5
  have eX5 : adr (mg "InvalidNumber") = X5 := by rw [gX5]; rfl
  have XF5 := fun_mk (st := s_InvalidNumber___init__) xl5 xc5 xk5
  have xb5 := XF5.binds (ps := ["self", "number"]) fun _ _ _ _ _ _ us hl => match us, hl with | [_, _], _ => rfl
  have gX6 : mg "InvalidCondition" = some (.ref X6) := PySem.W.mg_of X G aX6
  have eX6 : adr (mg "InvalidCondition") = X6 := by rw [gX6]; rfl
  have XF6 := fun_mk (st := s_InvalidCondition___init__) xl6 xc6 xk6
  have xb6 := XF6.binds (ps := ["self", "position"]) fun _ _ _ _ _ _ us hl => match us, hl with | [_, _], _ => rfl
  have gX7 : mg "InvalidPair" = some (.ref X7) := PySem.W.mg_of X G aX7
  have eX7 : adr (mg "InvalidPair") = X7 := by rw [gX7]; rfl
  have XF7 := fun_mk (st := s_InvalidPair___init__) xl7 xc7 xk7
  have xb7 := XF7.binds (ps := ["self", "place"]) fun _ _ _ _ _ _ us hl => match us, hl with | [_, _], _ => rfl
  have gX8 : mg "InvalidReport" = some (.ref X8) := PySem.W.mg_of X G aX8
  have eX8 : adr (mg "InvalidReport") = X8 := by rw [gX8]; rfl
  have XF8 := fun_mk (st := s_InvalidReport___init__) xl8 xc8 xk8
  have xb8 := XF8.binds (ps := ["self", "place"]) fun _ _ _ _ _ _ us hl => match us, hl with | [_, _], _ => rfl
  have gX9 : mg "InvalidSlot" = some (.ref X9) := PySem.W.mg_of X G aX9
  have eX9 : adr (mg "InvalidSlot") = X9 := by rw [gX9]; rfl
  have XF9 := fun_mk (st := s_InvalidSlot___init__) xl9 xc9 xk9
  have xb9 := XF9.binds (ps := ["self", "slot"]) fun _ _ _ _ _ _ us hl => match us, hl with | [_, _], _ => rfl
  have gX10 : mg "NotADeadlock" = some (.ref X10) := PySem.W.mg_of X G aX10
  have eX10 : adr (mg "NotADeadlock") = X10 := by rw [gX10]; rfl
  have XF10 := fun_mk (st := s_NotADeadlock___init__) xl10 xc10 xk10
  have xb10 := XF10.binds (ps := ["self"]) fun _ _ _ _ _ _ us hl => match us, hl with | [_], _ => rfl
  have gX11 : mg "InvalidOutcomes" = some (.ref X11) := PySem.W.mg_of X G aX11
  have eX11 : adr (mg "InvalidOutcomes") = X11 := by rw [gX11]; rfl
  have XF11 := fun_mk (st := s_InvalidOutcomes___init__) xl11 xc11 xk11
  have xb11 := XF11.binds (ps := ["self"]) fun _ _ _ _ _ _ us hl => match us, hl with | [_], _ => rfl
  have gX12 : mg "NothingMatches" = some (.ref X12) := PySem.W.mg_of X G aX12
  have eX12 : adr (mg "NothingMatches") = X12 := by rw [gX12]; rfl
  have XF12 := fun_mk (st := s_NothingMatches___init__) xl12 xc12 xk12
  have xb12 := XF12.binds (ps := ["self", "number"]) fun _ _ _ _ _ _ us hl => match us, hl with | [_, _], _ => rfl
  have gX13 : mg "SameRule" = some (.ref X13) := PySem.W.mg_of X G aX13
  have eX13 : adr (mg "SameRule") = X13 := by rw [gX13]; rfl
  have XF13 := fun_mk (st := s_SameRule___init__) xl13 xc13 xk13
  have xb13 := XF13.binds (ps := ["self", "name"]) fun _ _ _ _ _ _ us hl => match us, hl with | [_, _], _ => rfl
  have gX14 : mg "KnownOrder" = some (.ref X14) := PySem.W.mg_of X G aX14
  have eX14 : adr (mg "KnownOrder") = X14 := by rw [gX14]; rfl
  have XF14 := fun_mk (st := s_KnownOrder___init__) xl14 xc14 xk14
  have xb14 := XF14.binds (ps := ["self", "name", "other"]) fun _ _ _ _ _ _ us hl => match us, hl with | [_, _, _], _ => rfl
  have gX15 : mg "Contradiction" = some (.ref X15) := PySem.W.mg_of X G aX15
  have eX15 : adr (mg "Contradiction") = X15 := by rw [gX15]; rfl
  have XF15 := fun_mk (st := s_Contradiction___init__) xl15 xc15 xk15
  have xb15 := XF15.binds (ps := ["self", "deadlock"]) fun _ _ _ _ _ _ us hl => match us, hl with | [_, _], _ => rfl
  have gX16 : mg "InvalidMoment" = some (.ref X16) := PySem.W.mg_of X G aX16
  have eX16 : adr (mg "InvalidMoment") = X16 := by rw [gX16]; rfl
  have XF16 := fun_mk (st := s_InvalidMoment___init__) xl16 xc16 xk16
  have xb16 := XF16.binds (ps := ["self", "moment"]) fun _ _ _ _ _ _ us hl => match us, hl with | [_, _], _ => rfl
  have gX17 : mg "InvalidCommand" = some (.ref X17) := PySem.W.mg_of X G aX17
  have eX17 : adr (mg "InvalidCommand") = X17 := by rw [gX17]; rfl
  have XF17 := fun_mk (st := s_InvalidCommand___init__) xl17 xc17 xk17
  have xb17 := XF17.binds (ps := ["self"]) fun _ _ _ _ _ _ us hl => match us, hl with | [_], _ => rfl
  have gX18 : mg "BatchFailed" = some (.ref X18) := PySem.W.mg_of X G aX18
  have eX18 : adr (mg "BatchFailed") = X18 := by rw [gX18]; rfl
  have XF18 := fun_mk (st := s_BatchFailed___init__) xl18 xc18 xk18
  have xb18 := XF18.binds (ps := ["self", "position", "reason"]) fun _ _ _ _ _ _ us hl => match us, hl with | [_, _, _], _ => rfl
  have gX19 : mg "InvalidText" = some (.ref X19) := PySem.W.mg_of X G aX19
  have eX19 : adr (mg "InvalidText") = X19 := by rw [gX19]; rfl
  have XF19 := fun_mk (st := s_InvalidText___init__) xl19 xc19 xk19
  have xb19 := XF19.binds (ps := ["self"]) fun _ _ _ _ _ _ us hl => match us, hl with | [_], _ => rfl
  have gX20 : mg "InvalidFile" = some (.ref X20) := PySem.W.mg_of X G aX20
  have eX20 : adr (mg "InvalidFile") = X20 := by rw [gX20]; rfl
  have XF20 := fun_mk (st := s_InvalidFile___init__) xl20 xc20 xk20
  have xb20 := XF20.binds (ps := ["self", "line"]) fun _ _ _ _ _ _ us hl => match us, hl with | [_, _], _ => rfl
  have gX21 : mg "UnknownField" = some (.ref X21) := PySem.W.mg_of X G aX21
  have eX21 : adr (mg "UnknownField") = X21 := by rw [gX21]; rfl
  have XF21 := fun_mk (st := s_UnknownField___init__) xl21 xc21 xk21
  have xb21 := XF21.binds (ps := ["self", "name"]) fun _ _ _ _ _ _ us hl => match us, hl with | [_, _], _ => rfl
  have gX22 : mg "UnknownValue" = some (.ref X22) := PySem.W.mg_of X G aX22
  have eX22 : adr (mg "UnknownValue") = X22 := by rw [gX22]; rfl
  have XF22 := fun_mk (st := s_UnknownValue___init__) xl22 xc22 xk22
  have xb22 := XF22.binds (ps := ["self", "value"]) fun _ _ _ _ _ _ us hl => match us, hl with | [_, _], _ => rfl
  have gX23 : mg "UnknownEffect" = some (.ref X23) := PySem.W.mg_of X G aX23
  have eX23 : adr (mg "UnknownEffect") = X23 := by rw [gX23]; rfl
  have XF23 := fun_mk (st := s_UnknownEffect___init__) xl23 xc23 xk23
  have xb23 := XF23.binds (ps := ["self", "name"]) fun _ _ _ _ _ _ us hl => match us, hl with | [_, _], _ => rfl
  have gX24 : mg "UnknownRule" = some (.ref X24) := PySem.W.mg_of X G aX24
  have eX24 : adr (mg "UnknownRule") = X24 := by rw [gX24]; rfl
  have XF24 := fun_mk (st := s_UnknownRule___init__) xl24 xc24 xk24
  have xb24 := XF24.binds (ps := ["self", "name"]) fun _ _ _ _ _ _ us hl => match us, hl with | [_, _], _ => rfl
  have gX25 : mg "NothingLeft" = some (.ref X25) := PySem.W.mg_of X G aX25
  have eX25 : adr (mg "NothingLeft") = X25 := by rw [gX25]; rfl
  have XF25 := fun_mk (st := s_NothingLeft___init__) xl25 xc25 xk25
  have xb25 := XF25.binds (ps := ["self"]) fun _ _ _ _ _ _ us hl => match us, hl with | [_], _ => rfl
  have T : Txt K mg := {
    m_KeyError := PySem.W.mg_none_of X G z0,
    m_LookupError := PySem.W.mg_none_of X G z1,
    m_ValueError := PySem.W.mg_none_of X G z2,
    m_abs := PySem.W.mg_none_of X G z3,
    m_all := PySem.W.mg_none_of X G z4,
    m_bool := PySem.W.mg_none_of X G z5,
    m_int := PySem.W.mg_none_of X G z6,
    m_isinstance := PySem.W.mg_none_of X G z7,
    m_len := PySem.W.mg_none_of X G z8,
    m_list := PySem.W.mg_none_of X G z9,
    m_range := PySem.W.mg_none_of X G z10,
    m_str := PySem.W.mg_none_of X G z11,
    m_tuple := PySem.W.mg_none_of X G z12,
    m_zip := PySem.W.mg_none_of X G z13,
    g_RankError := by rw [eD0]; exact gD0,
    g_NotFound := by rw [eD1]; exact gD1,
    g_InvalidName := by rw [eX0]; exact gX0,
    x_InvalidName := by rw [eX0]; exact xcV_of xx0,
    n_InvalidName_name := by rw [eX0]; exact xn0name,
    n_InvalidName_word := by rw [eX0]; exact xn0word,
    h_InvalidName___init__ := ⟨_, _, XF0, xb0, by rw [eX0]; exact xa0, xt0⟩,
    e_InvalidName := by rw [eX0, eD0]; exact xe0,
    g_InvalidValue := by rw [eX1]; exact gX1,
    x_InvalidValue := by rw [eX1]; exact xcV_of xx1,
    n_InvalidValue_value := by rw [eX1]; exact xn1value,
    n_InvalidValue_word := by rw [eX1]; exact xn1word,
    h_InvalidValue___init__ := ⟨_, _, XF1, xb1, by rw [eX1]; exact xa1, xt1⟩,
    e_InvalidValue := by rw [eX1, eD0]; exact xe1,
    g_DuplicateName := by rw [eX2]; exact gX2,
    x_DuplicateName := by rw [eX2]; exact xcV_of xx2,
    n_DuplicateName_name := by rw [eX2]; exact xn2name,
    n_DuplicateName_word := by rw [eX2]; exact xn2word,
    h_DuplicateName___init__ := ⟨_, _, XF2, xb2, by rw [eX2]; exact xa2, xt2⟩,
    e_DuplicateName := by rw [eX2, eD0]; exact xe2,
    g_LimitReached := by rw [eX3]; exact gX3,
    x_LimitReached := by rw [eX3]; exact xcV_of xx3,
    n_LimitReached_limit := by rw [eX3]; exact xn3limit,
    n_LimitReached_word := by rw [eX3]; exact xn3word,
    h_LimitReached___init__ := ⟨_, _, XF3, xb3, by rw [eX3]; exact xa3, xt3⟩,
    e_LimitReached := by rw [eX3, eD0]; exact xe3,
    g_InvalidRequest := by rw [eX4]; exact gX4,
    x_InvalidRequest := by rw [eX4]; exact xcV_of xx4,
    n_InvalidRequest_position := by rw [eX4]; exact xn4position,
    n_InvalidRequest_word := by rw [eX4]; exact xn4word,
    h_InvalidRequest___init__ := ⟨_, _, XF4, xb4, by rw [eX4]; exact xa4, xt4⟩,
    e_InvalidRequest := by rw [eX4, eD0]; exact xe4,
    g_InvalidNumber := by rw [eX5]; exact gX5,
    x_InvalidNumber := by rw [eX5]; exact xcV_of xx5,
    n_InvalidNumber_number := by rw [eX5]; exact xn5number,
    n_InvalidNumber_word := by rw [eX5]; exact xn5word,
    h_InvalidNumber___init__ := ⟨_, _, XF5, xb5, by rw [eX5]; exact xa5, xt5⟩,
    e_InvalidNumber := by rw [eX5, eD0]; exact xe5,
    g_InvalidCondition := by rw [eX6]; exact gX6,
    x_InvalidCondition := by rw [eX6]; exact xcV_of xx6,
    n_InvalidCondition_position := by rw [eX6]; exact xn6position,
    n_InvalidCondition_word := by rw [eX6]; exact xn6word,
    h_InvalidCondition___init__ := ⟨_, _, XF6, xb6, by rw [eX6]; exact xa6, xt6⟩,
    e_InvalidCondition := by rw [eX6, eD0]; exact xe6,
    g_InvalidPair := by rw [eX7]; exact gX7,
    x_InvalidPair := by rw [eX7]; exact xcV_of xx7,
    n_InvalidPair_place := by rw [eX7]; exact xn7place,
    n_InvalidPair_word := by rw [eX7]; exact xn7word,
    h_InvalidPair___init__ := ⟨_, _, XF7, xb7, by rw [eX7]; exact xa7, xt7⟩,
    e_InvalidPair := by rw [eX7, eD0]; exact xe7,
    g_InvalidReport := by rw [eX8]; exact gX8,
    x_InvalidReport := by rw [eX8]; exact xcV_of xx8,
    n_InvalidReport_place := by rw [eX8]; exact xn8place,
    n_InvalidReport_word := by rw [eX8]; exact xn8word,
    h_InvalidReport___init__ := ⟨_, _, XF8, xb8, by rw [eX8]; exact xa8, xt8⟩,
    e_InvalidReport := by rw [eX8, eD0]; exact xe8,
    g_InvalidSlot := by rw [eX9]; exact gX9,
    x_InvalidSlot := by rw [eX9]; exact xcV_of xx9,
    n_InvalidSlot_slot := by rw [eX9]; exact xn9slot,
    n_InvalidSlot_word := by rw [eX9]; exact xn9word,
    h_InvalidSlot___init__ := ⟨_, _, XF9, xb9, by rw [eX9]; exact xa9, xt9⟩,
    e_InvalidSlot := by rw [eX9, eD0]; exact xe9,
    g_NotADeadlock := by rw [eX10]; exact gX10,
    x_NotADeadlock := by rw [eX10]; exact xcV_of xx10,
    n_NotADeadlock_word := by rw [eX10]; exact xn10word,
    h_NotADeadlock___init__ := ⟨_, _, XF10, xb10, by rw [eX10]; exact xa10, xt10⟩,
    e_NotADeadlock := by rw [eX10, eD0]; exact xe10,
    g_InvalidOutcomes := by rw [eX11]; exact gX11,
    x_InvalidOutcomes := by rw [eX11]; exact xcV_of xx11,
    n_InvalidOutcomes_word := by rw [eX11]; exact xn11word,
    h_InvalidOutcomes___init__ := ⟨_, _, XF11, xb11, by rw [eX11]; exact xa11, xt11⟩,
    e_InvalidOutcomes := by rw [eX11, eD0]; exact xe11,
    g_NothingMatches := by rw [eX12]; exact gX12,
    x_NothingMatches := by rw [eX12]; exact xcV_of xx12,
    n_NothingMatches_number := by rw [eX12]; exact xn12number,
    n_NothingMatches_word := by rw [eX12]; exact xn12word,
    h_NothingMatches___init__ := ⟨_, _, XF12, xb12, by rw [eX12]; exact xa12, xt12⟩,
    e_NothingMatches := by rw [eX12, eD0]; exact xe12,
    g_SameRule := by rw [eX13]; exact gX13,
    x_SameRule := by rw [eX13]; exact xcV_of xx13,
    n_SameRule_name := by rw [eX13]; exact xn13name,
    n_SameRule_word := by rw [eX13]; exact xn13word,
    h_SameRule___init__ := ⟨_, _, XF13, xb13, by rw [eX13]; exact xa13, xt13⟩,
    e_SameRule := by rw [eX13, eD0]; exact xe13,
    g_KnownOrder := by rw [eX14]; exact gX14,
    x_KnownOrder := by rw [eX14]; exact xcV_of xx14,
    n_KnownOrder_name := by rw [eX14]; exact xn14name,
    n_KnownOrder_other := by rw [eX14]; exact xn14other,
    n_KnownOrder_word := by rw [eX14]; exact xn14word,
    h_KnownOrder___init__ := ⟨_, _, XF14, xb14, by rw [eX14]; exact xa14, xt14⟩,
    e_KnownOrder := by rw [eX14, eD0]; exact xe14,
    g_Contradiction := by rw [eX15]; exact gX15,
    x_Contradiction := by rw [eX15]; exact xcV_of xx15,
    n_Contradiction_deadlock := by rw [eX15]; exact xn15deadlock,
    n_Contradiction_word := by rw [eX15]; exact xn15word,
    h_Contradiction___init__ := ⟨_, _, XF15, xb15, by rw [eX15]; exact xa15, xt15⟩,
    e_Contradiction := by rw [eX15, eD0]; exact xe15,
    g_InvalidMoment := by rw [eX16]; exact gX16,
    x_InvalidMoment := by rw [eX16]; exact xcV_of xx16,
    n_InvalidMoment_moment := by rw [eX16]; exact xn16moment,
    n_InvalidMoment_word := by rw [eX16]; exact xn16word,
    h_InvalidMoment___init__ := ⟨_, _, XF16, xb16, by rw [eX16]; exact xa16, xt16⟩,
    e_InvalidMoment := by rw [eX16, eD0]; exact xe16,
    g_InvalidCommand := by rw [eX17]; exact gX17,
    x_InvalidCommand := by rw [eX17]; exact xcV_of xx17,
    n_InvalidCommand_word := by rw [eX17]; exact xn17word,
    h_InvalidCommand___init__ := ⟨_, _, XF17, xb17, by rw [eX17]; exact xa17, xt17⟩,
    e_InvalidCommand := by rw [eX17, eD0]; exact xe17,
    g_BatchFailed := by rw [eX18]; exact gX18,
    x_BatchFailed := by rw [eX18]; exact xcV_of xx18,
    n_BatchFailed_position := by rw [eX18]; exact xn18position,
    n_BatchFailed_reason := by rw [eX18]; exact xn18reason,
    n_BatchFailed_word := by rw [eX18]; exact xn18word,
    h_BatchFailed___init__ := ⟨_, _, XF18, xb18, by rw [eX18]; exact xa18, xt18⟩,
    e_BatchFailed := by rw [eX18, eD0]; exact xe18,
    g_InvalidText := by rw [eX19]; exact gX19,
    x_InvalidText := by rw [eX19]; exact xcV_of xx19,
    n_InvalidText_word := by rw [eX19]; exact xn19word,
    h_InvalidText___init__ := ⟨_, _, XF19, xb19, by rw [eX19]; exact xa19, xt19⟩,
    e_InvalidText := by rw [eX19, eD0]; exact xe19,
    g_InvalidFile := by rw [eX20]; exact gX20,
    x_InvalidFile := by rw [eX20]; exact xcV_of xx20,
    n_InvalidFile_line := by rw [eX20]; exact xn20line,
    n_InvalidFile_word := by rw [eX20]; exact xn20word,
    h_InvalidFile___init__ := ⟨_, _, XF20, xb20, by rw [eX20]; exact xa20, xt20⟩,
    e_InvalidFile := by rw [eX20, eD0]; exact xe20,
    g_UnknownField := by rw [eX21]; exact gX21,
    x_UnknownField := by rw [eX21]; exact xcL_of xx21,
    n_UnknownField_name := by rw [eX21]; exact xn21name,
    n_UnknownField_word := by rw [eX21]; exact xn21word,
    h_UnknownField___init__ := ⟨_, _, XF21, xb21, by rw [eX21]; exact xa21, xt21⟩,
    e_UnknownField := by rw [eX21, eD0]; exact xe21,
    e2_UnknownField := by rw [eX21, eD1]; exact xg21,
    g_UnknownValue := by rw [eX22]; exact gX22,
    x_UnknownValue := by rw [eX22]; exact xcL_of xx22,
    n_UnknownValue_value := by rw [eX22]; exact xn22value,
    n_UnknownValue_word := by rw [eX22]; exact xn22word,
    h_UnknownValue___init__ := ⟨_, _, XF22, xb22, by rw [eX22]; exact xa22, xt22⟩,
    e_UnknownValue := by rw [eX22, eD0]; exact xe22,
    e2_UnknownValue := by rw [eX22, eD1]; exact xg22,
    g_UnknownEffect := by rw [eX23]; exact gX23,
    x_UnknownEffect := by rw [eX23]; exact xcL_of xx23,
    n_UnknownEffect_name := by rw [eX23]; exact xn23name,
    n_UnknownEffect_word := by rw [eX23]; exact xn23word,
    h_UnknownEffect___init__ := ⟨_, _, XF23, xb23, by rw [eX23]; exact xa23, xt23⟩,
    e_UnknownEffect := by rw [eX23, eD0]; exact xe23,
    e2_UnknownEffect := by rw [eX23, eD1]; exact xg23,
    g_UnknownRule := by rw [eX24]; exact gX24,
    x_UnknownRule := by rw [eX24]; exact xcL_of xx24,
    n_UnknownRule_name := by rw [eX24]; exact xn24name,
    n_UnknownRule_word := by rw [eX24]; exact xn24word,
    h_UnknownRule___init__ := ⟨_, _, XF24, xb24, by rw [eX24]; exact xa24, xt24⟩,
    e_UnknownRule := by rw [eX24, eD0]; exact xe24,
    e2_UnknownRule := by rw [eX24, eD1]; exact xg24,
    g_NothingLeft := by rw [eX25]; exact gX25,
    x_NothingLeft := by rw [eX25]; exact xcL_of xx25,
    n_NothingLeft_word := by rw [eX25]; exact xn25word,
    h_NothingLeft___init__ := ⟨_, _, XF25, xb25, by rw [eX25]; exact xa25, xt25⟩,
    e_NothingLeft := by rw [eX25, eD0]; exact xe25,
    e2_NothingLeft := by rw [eX25, eD1]; exact xg25,
    ek := by rw [show ((List.range 26).map fun k => adr (mg (eC k))) = [X0, X1, X2, X3, X4, X5, X6, X7, X8, X9, X10, X11, X12, X13, X14, X15, X16, X17, X18, X19, X20, X21, X22, X23, X24, X25] from by show [adr (mg "InvalidName"), adr (mg "InvalidValue"), adr (mg "DuplicateName"), adr (mg "LimitReached"), adr (mg "InvalidRequest"), adr (mg "InvalidNumber"), adr (mg "InvalidCondition"), adr (mg "InvalidPair"), adr (mg "InvalidReport"), adr (mg "InvalidSlot"), adr (mg "NotADeadlock"), adr (mg "InvalidOutcomes"), adr (mg "NothingMatches"), adr (mg "SameRule"), adr (mg "KnownOrder"), adr (mg "Contradiction"), adr (mg "InvalidMoment"), adr (mg "InvalidCommand"), adr (mg "BatchFailed"), adr (mg "InvalidText"), adr (mg "InvalidFile"), adr (mg "UnknownField"), adr (mg "UnknownValue"), adr (mg "UnknownEffect"), adr (mg "UnknownRule"), adr (mg "NothingLeft")] = _; rw [eX0, eX1, eX2, eX3, eX4, eX5, eX6, eX7, eX8, eX9, eX10, eX11, eX12, eX13, eX14, eX15, eX16, eX17, eX18, eX19, eX20, eX21, eX22, eX23, eX24, eX25], eD1]; exact xk,
    h__law_bag := ⟨_, _, F0, b0, PySem.W.mg_of X G a0⟩,
    h__law_pull := ⟨_, _, F1, b1, PySem.W.mg_of X G a1⟩,
    h__law_same := ⟨_, _, F2, b2, PySem.W.mg_of X G a2⟩,
    h__law_early := ⟨_, _, F3, b3, PySem.W.mg_of X G a3⟩,
    h__law_middle := ⟨_, _, F4, b4, PySem.W.mg_of X G a4⟩,
    h__law_late := ⟨_, _, F5, b5, PySem.W.mg_of X G a5⟩,
    h__law_flags := ⟨_, _, F6, b6, PySem.W.mg_of X G a6⟩,
    h__law_words := ⟨_, _, F7, b7, PySem.W.mg_of X G a7⟩,
    h__law_raised := ⟨_, _, F8, b8, PySem.W.mg_of X G a8⟩ }
  exact ⟨PySem.W.fnOf "law" "law" (defArgs s_law) (defBody s_law) (defScope s_law) .none kV9 dc9 pm9 an9 cd9 ct9, fun s v => .of_eq rfl, fun base _ _ => ok_law T F9⟩
end Hr
open PySem PySem.W PyProof.Rows
set_option maxRecDepth 100000 in
set_option maxHeartbeats 0 in
theorem PySem.Challenge.cw_hiddenrank_k68_error_classes_holds : PySem.Challenge.rw_hiddenrank_k68_error_classes.Holds := by
  w_on; o_law; k_head; (case hw => w_witness2)
  k_fill
  refine L2.walk_ofK (l := PySem.Challenge.rw_hiddenrank_k68_error_classes) (n := 63) (k := 60) (x := "_law_script") (CX := L2.CX0) (sp := Hr.sp_law) rfl (by decide) rfl ⟨rfl, by decide, by decide⟩ (fun w h Y => PySem.W.kIn_of Y) ?F (fun _ _ a ns hl _ hS => ⟨a, ns, rfl, hS, hl, fun _ => rfl⟩) (fun _ _ _ _ h => h)
  case F =>
    intro w mg fa h KX G hmg
    refine' Hr.all_mk KX G hmg ?a0 ?l0 ?c0 ?k0 ?a1 ?l1 ?c1 ?k1 ?a2 ?l2 ?c2 ?k2 ?a3 ?l3 ?c3 ?k3 ?a4 ?l4 ?c4 ?k4 ?a5 ?l5 ?c5 ?k5 ?a6 ?l6 ?c6 ?k6 ?a7 ?l7 ?c7 ?k7 ?a8 ?l8 ?c8 ?k8 ?a9 ?l9 ?c9 ?k9 ?aD0 ?aD1 ?aX0 ?xx0 ?xn0name ?xn0word ?xa0 ?xt0 ?xl0 ?xc0 ?xk0 ?xe0 ?aX1 ?xx1 ?xn1value ?xn1word ?xa1 ?xt1 ?xl1 ?xc1 ?xk1 ?xe1 ?aX2 ?xx2 ?xn2name ?xn2word ?xa2 ?xt2 ?xl2 ?xc2 ?xk2 ?xe2 ?aX3 ?xx3 ?xn3limit ?xn3word ?xa3 ?xt3 ?xl3 ?xc3 ?xk3 ?xe3 ?aX4 ?xx4 ?xn4position ?xn4word ?xa4 ?xt4 ?xl4 ?xc4 ?xk4 ?xe4 ?aX5 ?xx5 ?xn5number ?xn5word ?xa5 ?xt5 ?xl5 ?xc5 ?xk5 ?xe5 ?aX6 ?xx6 ?xn6position ?xn6word ?xa6 ?xt6 ?xl6 ?xc6 ?xk6 ?xe6 ?aX7 ?xx7 ?xn7place ?xn7word ?xa7 ?xt7 ?xl7 ?xc7 ?xk7 ?xe7 ?aX8 ?xx8 ?xn8place ?xn8word ?xa8 ?xt8 ?xl8 ?xc8 ?xk8 ?xe8 ?aX9 ?xx9 ?xn9slot ?xn9word ?xa9 ?xt9 ?xl9 ?xc9 ?xk9 ?xe9 ?aX10 ?xx10 ?xn10word ?xa10 ?xt10 ?xl10 ?xc10 ?xk10 ?xe10 ?aX11 ?xx11 ?xn11word ?xa11 ?xt11 ?xl11 ?xc11 ?xk11 ?xe11 ?aX12 ?xx12 ?xn12number ?xn12word ?xa12 ?xt12 ?xl12 ?xc12 ?xk12 ?xe12 ?aX13 ?xx13 ?xn13name ?xn13word ?xa13 ?xt13 ?xl13 ?xc13 ?xk13 ?xe13 ?aX14 ?xx14 ?xn14name ?xn14other ?xn14word ?xa14 ?xt14 ?xl14 ?xc14 ?xk14 ?xe14 ?aX15 ?xx15 ?xn15deadlock ?xn15word ?xa15 ?xt15 ?xl15 ?xc15 ?xk15 ?xe15 ?aX16 ?xx16 ?xn16moment ?xn16word ?xa16 ?xt16 ?xl16 ?xc16 ?xk16 ?xe16 ?aX17 ?xx17 ?xn17word ?xa17 ?xt17 ?xl17 ?xc17 ?xk17 ?xe17 ?aX18 ?xx18 ?xn18position ?xn18reason ?xn18word ?xa18 ?xt18 ?xl18 ?xc18 ?xk18 ?xe18 ?aX19 ?xx19 ?xn19word ?xa19 ?xt19 ?xl19 ?xc19 ?xk19 ?xe19 ?aX20 ?xx20 ?xn20line ?xn20word ?xa20 ?xt20 ?xl20 ?xc20 ?xk20 ?xe20 ?aX21 ?xx21 ?xn21name ?xn21word ?xa21 ?xt21 ?xl21 ?xc21 ?xk21 ?xe21 ?xg21 ?aX22 ?xx22 ?xn22value ?xn22word ?xa22 ?xt22 ?xl22 ?xc22 ?xk22 ?xe22 ?xg22 ?aX23 ?xx23 ?xn23name ?xn23word ?xa23 ?xt23 ?xl23 ?xc23 ?xk23 ?xe23 ?xg23 ?aX24 ?xx24 ?xn24name ?xn24word ?xa24 ?xt24 ?xl24 ?xc24 ?xk24 ?xe24 ?xg24 ?aX25 ?xx25 ?xn25word ?xa25 ?xt25 ?xl25 ?xc25 ?xk25 ?xe25 ?xg25 ?xk ?z0 ?z1 ?z2 ?z3 ?z4 ?z5 ?z6 ?z7 ?z8 ?z9 ?z10 ?z11 ?z12 ?z13
    (case a0 => k_is)
    (case l0 => k_is)
    (case c0 => k_is)
    (case k0 => k_is)
    (case a1 => k_is)
    (case l1 => k_is)
    (case c1 => k_is)
    (case k1 => k_is)
    (case a2 => k_is)
    (case l2 => k_is)
    (case c2 => k_is)
    (case k2 => k_is)
    (case a3 => k_is)
    (case l3 => k_is)
    (case c3 => k_is)
    (case k3 => k_is)
    (case a4 => k_is)
    (case l4 => k_is)
    (case c4 => k_is)
    (case k4 => k_is)
    (case a5 => k_is)
    (case l5 => k_is)
    (case c5 => k_is)
    (case k5 => k_is)
    (case a6 => k_is)
    (case l6 => k_is)
    (case c6 => k_is)
    (case k6 => k_is)
    (case a7 => k_is)
    (case l7 => k_is)
    (case c7 => k_is)
    (case k7 => k_is)
    (case a8 => k_is)
    (case l8 => k_is)
    (case c8 => k_is)
    (case k8 => k_is)
    (case a9 => k_is)
    (case l9 => k_is)
    (case c9 => k_is)
    (case k9 => k_is)
    (case aD0 => k_is)
    (case aD1 => k_is)
    (case aX0 => k_is)
    (case xx0 => kernel_rfl)
    (case xn0name => k_is)
    (case xn0word => k_is)
    (case xa0 => k_is)
    (case xt0 => k_is)
    (case xl0 => k_is)
    (case xc0 => k_is)
    (case xk0 => kernel_rfl)
    (case xe0 => kernel_rfl)
    (case aX1 => k_is)
    (case xx1 => kernel_rfl)
    (case xn1value => k_is)
    (case xn1word => k_is)
    (case xa1 => k_is)
    (case xt1 => k_is)
    (case xl1 => k_is)
    (case xc1 => k_is)
    (case xk1 => kernel_rfl)
    (case xe1 => kernel_rfl)
    (case aX2 => k_is)
    (case xx2 => kernel_rfl)
    (case xn2name => k_is)
    (case xn2word => k_is)
    (case xa2 => k_is)
    (case xt2 => k_is)
    (case xl2 => k_is)
    (case xc2 => k_is)
    (case xk2 => kernel_rfl)
    (case xe2 => kernel_rfl)
    (case aX3 => k_is)
    (case xx3 => kernel_rfl)
    (case xn3limit => k_is)
    (case xn3word => k_is)
    (case xa3 => k_is)
    (case xt3 => k_is)
    (case xl3 => k_is)
    (case xc3 => k_is)
    (case xk3 => kernel_rfl)
    (case xe3 => kernel_rfl)
    (case aX4 => k_is)
    (case xx4 => kernel_rfl)
    (case xn4position => k_is)
    (case xn4word => k_is)
    (case xa4 => k_is)
    (case xt4 => k_is)
    (case xl4 => k_is)
    (case xc4 => k_is)
    (case xk4 => kernel_rfl)
    (case xe4 => kernel_rfl)
    (case aX5 => k_is)
    (case xx5 => kernel_rfl)
    (case xn5number => k_is)
    (case xn5word => k_is)
    (case xa5 => k_is)
    (case xt5 => k_is)
    (case xl5 => k_is)
    (case xc5 => k_is)
    (case xk5 => kernel_rfl)
    (case xe5 => kernel_rfl)
    (case aX6 => k_is)
    (case xx6 => kernel_rfl)
    (case xn6position => k_is)
    (case xn6word => k_is)
    (case xa6 => k_is)
    (case xt6 => k_is)
    (case xl6 => k_is)
    (case xc6 => k_is)
    (case xk6 => kernel_rfl)
    (case xe6 => kernel_rfl)
    (case aX7 => k_is)
    (case xx7 => kernel_rfl)
    (case xn7place => k_is)
    (case xn7word => k_is)
    (case xa7 => k_is)
    (case xt7 => k_is)
    (case xl7 => k_is)
    (case xc7 => k_is)
    (case xk7 => kernel_rfl)
    (case xe7 => kernel_rfl)
    (case aX8 => k_is)
    (case xx8 => kernel_rfl)
    (case xn8place => k_is)
    (case xn8word => k_is)
    (case xa8 => k_is)
    (case xt8 => k_is)
    (case xl8 => k_is)
    (case xc8 => k_is)
    (case xk8 => kernel_rfl)
    (case xe8 => kernel_rfl)
    (case aX9 => k_is)
    (case xx9 => kernel_rfl)
    (case xn9slot => k_is)
    (case xn9word => k_is)
    (case xa9 => k_is)
    (case xt9 => k_is)
    (case xl9 => k_is)
    (case xc9 => k_is)
    (case xk9 => kernel_rfl)
    (case xe9 => kernel_rfl)
    (case aX10 => k_is)
    (case xx10 => kernel_rfl)
    (case xn10word => k_is)
    (case xa10 => k_is)
    (case xt10 => k_is)
    (case xl10 => k_is)
    (case xc10 => k_is)
    (case xk10 => kernel_rfl)
    (case xe10 => kernel_rfl)
    (case aX11 => k_is)
    (case xx11 => kernel_rfl)
    (case xn11word => k_is)
    (case xa11 => k_is)
    (case xt11 => k_is)
    (case xl11 => k_is)
    (case xc11 => k_is)
    (case xk11 => kernel_rfl)
    (case xe11 => kernel_rfl)
    (case aX12 => k_is)
    (case xx12 => kernel_rfl)
    (case xn12number => k_is)
    (case xn12word => k_is)
    (case xa12 => k_is)
    (case xt12 => k_is)
    (case xl12 => k_is)
    (case xc12 => k_is)
    (case xk12 => kernel_rfl)
    (case xe12 => kernel_rfl)
    (case aX13 => k_is)
    (case xx13 => kernel_rfl)
    (case xn13name => k_is)
    (case xn13word => k_is)
    (case xa13 => k_is)
    (case xt13 => k_is)
    (case xl13 => k_is)
    (case xc13 => k_is)
    (case xk13 => kernel_rfl)
    (case xe13 => kernel_rfl)
    (case aX14 => k_is)
    (case xx14 => kernel_rfl)
    (case xn14name => k_is)
    (case xn14other => k_is)
    (case xn14word => k_is)
    (case xa14 => k_is)
    (case xt14 => k_is)
    (case xl14 => k_is)
    (case xc14 => k_is)
    (case xk14 => kernel_rfl)
    (case xe14 => kernel_rfl)
    (case aX15 => k_is)
    (case xx15 => kernel_rfl)
    (case xn15deadlock => k_is)
    (case xn15word => k_is)
    (case xa15 => k_is)
    (case xt15 => k_is)
    (case xl15 => k_is)
    (case xc15 => k_is)
    (case xk15 => kernel_rfl)
    (case xe15 => kernel_rfl)
    (case aX16 => k_is)
    (case xx16 => kernel_rfl)
    (case xn16moment => k_is)
    (case xn16word => k_is)
    (case xa16 => k_is)
    (case xt16 => k_is)
    (case xl16 => k_is)
    (case xc16 => k_is)
    (case xk16 => kernel_rfl)
    (case xe16 => kernel_rfl)
    (case aX17 => k_is)
    (case xx17 => kernel_rfl)
    (case xn17word => k_is)
    (case xa17 => k_is)
    (case xt17 => k_is)
    (case xl17 => k_is)
    (case xc17 => k_is)
    (case xk17 => kernel_rfl)
    (case xe17 => kernel_rfl)
    (case aX18 => k_is)
    (case xx18 => kernel_rfl)
    (case xn18position => k_is)
    (case xn18reason => k_is)
    (case xn18word => k_is)
    (case xa18 => k_is)
    (case xt18 => k_is)
    (case xl18 => k_is)
    (case xc18 => k_is)
    (case xk18 => kernel_rfl)
    (case xe18 => kernel_rfl)
    (case aX19 => k_is)
    (case xx19 => kernel_rfl)
    (case xn19word => k_is)
    (case xa19 => k_is)
    (case xt19 => k_is)
    (case xl19 => k_is)
    (case xc19 => k_is)
    (case xk19 => kernel_rfl)
    (case xe19 => kernel_rfl)
    (case aX20 => k_is)
    (case xx20 => kernel_rfl)
    (case xn20line => k_is)
    (case xn20word => k_is)
    (case xa20 => k_is)
    (case xt20 => k_is)
    (case xl20 => k_is)
    (case xc20 => k_is)
    (case xk20 => kernel_rfl)
    (case xe20 => kernel_rfl)
    (case aX21 => k_is)
    (case xx21 => kernel_rfl)
    (case xn21name => k_is)
    (case xn21word => k_is)
    (case xa21 => k_is)
    (case xt21 => k_is)
    (case xl21 => k_is)
    (case xc21 => k_is)
    (case xk21 => kernel_rfl)
    (case xe21 => kernel_rfl)
    (case xg21 => kernel_rfl)
    (case aX22 => k_is)
    (case xx22 => kernel_rfl)
    (case xn22value => k_is)
    (case xn22word => k_is)
    (case xa22 => k_is)
    (case xt22 => k_is)
    (case xl22 => k_is)
    (case xc22 => k_is)
    (case xk22 => kernel_rfl)
    (case xe22 => kernel_rfl)
    (case xg22 => kernel_rfl)
    (case aX23 => k_is)
    (case xx23 => kernel_rfl)
    (case xn23name => k_is)
    (case xn23word => k_is)
    (case xa23 => k_is)
    (case xt23 => k_is)
    (case xl23 => k_is)
    (case xc23 => k_is)
    (case xk23 => kernel_rfl)
    (case xe23 => kernel_rfl)
    (case xg23 => kernel_rfl)
    (case aX24 => k_is)
    (case xx24 => kernel_rfl)
    (case xn24name => k_is)
    (case xn24word => k_is)
    (case xa24 => k_is)
    (case xt24 => k_is)
    (case xl24 => k_is)
    (case xc24 => k_is)
    (case xk24 => kernel_rfl)
    (case xe24 => kernel_rfl)
    (case xg24 => kernel_rfl)
    (case aX25 => k_is)
    (case xx25 => kernel_rfl)
    (case xn25word => k_is)
    (case xa25 => k_is)
    (case xt25 => k_is)
    (case xl25 => k_is)
    (case xc25 => k_is)
    (case xk25 => kernel_rfl)
    (case xe25 => kernel_rfl)
    (case xg25 => kernel_rfl)
    (case xk => kernel_rfl)
    (case z0 => k_is)
    (case z1 => k_is)
    (case z2 => k_is)
    (case z3 => k_is)
    (case z4 => k_is)
    (case z5 => k_is)
    (case z6 => k_is)
    (case z7 => k_is)
    (case z8 => k_is)
    (case z9 => k_is)
    (case z10 => k_is)
    (case z11 => k_is)
    (case z12 => k_is)
    (case z13 => k_is)
