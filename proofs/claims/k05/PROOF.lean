import PyProof.Rows.All
import Wide.All
import OpenK.AllK
import Wide.FinOn
import PyProof.EqAt
import PyProof.EqKinds
import PyProof.TupleCall
import HandS.ForMost
import HandS.Walk
import HandS.Zip
import HandS.IsInst
import HandS.Wide
import HandS.Flow
import HandS.Exc
import KE.KxIndex
import KE.KxText
import HandS.Deep
import HandS.SortKw
import HandS.Style
import HandS.TupAny
import KE.DatumOrd
import HandS.Conv
import HandS.Rev
import HandS.Strs
import KE.KDictZip
import KE.KDictItemsList
import HandS.ListItems
import HandS.TryOnly
import PyProof.P3Eq
import KE.GoesEnum
import HandS.Defaults
import HandS.WideBits
import HandS.More
import HandS.TupMul
import HandS.SortInts
import HandS.DictComp
import HandS.SetFor
import KE.SortData
import HandS.ExcInit
import HandS.ExcInitHot
import HandS.ExcCtx
import HandS.HotCalls
import HandS.Lambda
import HandS.EndTab
import KE.KExcInit
import HandS.ExcIs
import KE.KDflt
import HandS.Star
import HandS.SlotsOwn
import HandS.StrSplit
import HandS.FStr
import HandS.WrittenGet
import HandS.OwnEq
import HandS.TupSets
import PySem.Challenge.RW_hiddenrank_k05_whole_requests_are_number
set_option Elab.async false
set_option linter.all false
set_option maxRecDepth 100000
set_option maxHeartbeats 4000000
/-! general words: heaps, a frame rule for calls, data under growing heaps -/
namespace Hr
open PySem PySem.Spec PyProof.Rows L2
/-! ### heaps -/
theorem same_new {H : Hp} {p : Addr} {o : HO} (h : H p = none) : Same H (upd H p o) := fun b u e => by
  rw [upd_ne (ne_of_none e h)]
  exact e
theorem upd_comm {H : Hp} {a b : Addr} {o u : HO} (h : a ≠ b) : upd (upd H a o) b u = upd (upd H b u) a o := by
  funext c
  by_cases e : c = b
  · rw [e, upd_same, upd_ne (Ne.symm h), upd_same]
  · by_cases f : c = a
    · rw [f, upd_ne h, upd_same, upd_same]
    · rw [upd_ne e, upd_ne f, upd_ne f, upd_ne e]
theorem upd_id {H : Hp} {a : Addr} {o : HO} (h : H a = some o) : upd H a o = H := by
  funext c
  by_cases e : c = a
  · rw [e, upd_same, h]
  · rw [upd_ne e]
theorem Same.seqT {K : PySem.W.Frag} {H H' : Hp} {a : Addr} {xs : List V} (e : Same H H') (h : SqT K H a xs) : SqT K H' a xs := by
  rcases h with (h | ⟨o, h⟩) | h
  · exact .inl (.inl (e _ _ h))
  · exact .inl (.inr ⟨o, e _ _ h⟩)
  · exact .inr h
mutual
theorem dp_mono {K : PySem.W.Frag} {H H' : Hp} (e : Same H H') : ∀ {v : V} {d : PyData}, Dp K H v d → Dp K H' v d
  | _, _, .non => .non
  | _, _, .bl b => .bl b
  | _, _, .int i => .int i
  | _, _, .str x => .str x
  | _, _, .lst h t => .lst (e.seq h) (dpa_mono e t)
  | _, _, .tup h t => .tup (Same.seqT e h) (dpa_mono e t)
theorem dpa_mono {K : PySem.W.Frag} {H H' : Hp} (e : Same H H') : ∀ {vs : List V} {ds : List PyData}, DpAll K H vs ds → DpAll K H' vs ds
  | _, _, .nil => .nil
  | _, _, .cons h t => .cons (dp_mono e h) (dpa_mono e t)
end
/-! ### heaps without some lists -/
def dl (H : Hp) (S : List Addr) : Hp := fun a => if a ∈ S then none else H a
theorem dl_at {H : Hp} {S : List Addr} {a : Addr} (h : a ∈ S) : dl H S a = none := by unfold dl; rw [if_pos h]
theorem dl_ne {H : Hp} {S : List Addr} {a : Addr} (h : a ∉ S) : dl H S a = H a := by unfold dl; rw [if_neg h]
theorem dl_nil {H : Hp} : dl H [] = H := by funext a; exact dl_ne (by simp)
theorem dl_some {H : Hp} {S : List Addr} {a : Addr} {o : HO} (h : dl H S a = some o) : a ∉ S ∧ H a = some o := by
  by_cases e : a ∈ S
  · rw [dl_at e] at h; cases h
  · rw [dl_ne e] at h; exact ⟨e, h⟩
theorem dl_le {H : Hp} {S : List Addr} : Same (dl H S) H := fun a o e => (dl_some e).2
theorem dl_sub {H : Hp} {S S' : List Addr} (h : ∀ a ∈ S, a ∈ S') : Same (dl H S') (dl H S) := fun a o e => by
  obtain ⟨h1, h2⟩ := dl_some e
  rw [dl_ne fun z => h1 (h a z)]
  exact h2
theorem dl_mono {H H' : Hp} {S : List Addr} (s : Same H H') : Same (dl H S) (dl H' S) := fun a o e => by
  obtain ⟨h1, h2⟩ := dl_some e
  rw [dl_ne h1]
  exact s a o h2
theorem dl_upd {H : Hp} {S : List Addr} {a : Addr} {o : HO} (h : a ∈ S) : dl (upd H a o) S = dl H S := by
  funext c
  by_cases e : c ∈ S
  · rw [dl_at e, dl_at e]
  · rw [dl_ne e, dl_ne e, upd_ne fun z => e (by rw [z]; exact h)]
theorem dl_new {H : Hp} {S : List Addr} {p : Addr} {o : HO} (h : p ∉ S) : dl (upd H p o) S = upd (dl H S) p o := by
  funext c
  by_cases e : c ∈ S
  · rw [dl_at e, upd_ne fun z => h (by rw [← z]; exact e), dl_at e]
  · rw [dl_ne e]
    by_cases f : c = p
    · rw [f, upd_same, upd_same]
    · rw [upd_ne f, upd_ne f, dl_ne e]
/-- H' with what H has at S -/
def bk (H' H : Hp) (S : List Addr) : Hp := fun a => if a ∈ S then H a else H' a
theorem bk_at {H' H : Hp} {S : List Addr} {a : Addr} (h : a ∈ S) : bk H' H S a = H a := by unfold bk; rw [if_pos h]
theorem bk_ne {H' H : Hp} {S : List Addr} {a : Addr} (h : a ∉ S) : bk H' H S a = H' a := by unfold bk; rw [if_neg h]
theorem dl_bk {H' H : Hp} {S : List Addr} (h : ∀ a ∈ S, H' a = none) : dl (bk H' H S) S = H' := by
  funext c
  by_cases e : c ∈ S
  · rw [dl_at e, h c e]
  · rw [dl_ne e, bk_ne e]
theorem same_bk {H' H : Hp} {S : List Addr} (s : Same (dl H S) H') : Same H (bk H' H S) := fun a o e => by
  by_cases z : a ∈ S
  · rw [bk_at z]; exact e
  · rw [bk_ne z]; exact s a o (by rw [dl_ne z]; exact e)
theorem bk_le {H' H : Hp} {S : List Addr} (h : ∀ a ∈ S, H' a = none) : Same H' (bk H' H S) := fun a o e => by
  by_cases z : a ∈ S
  · rw [h a z] at e; cases e
  · rw [bk_ne z]; exact e
/-! ### the frame rule: tracked lists that the callee is not told of stay as they are -/
def Lists (H : Hp) (S : List Addr) : Prop := ∀ a ∈ S, ∃ xs, H a = some (.lst xs)
theorem Lists.ne {H : Hp} {S : List Addr} (hb : Lists H S) {a : Addr} {o : HO} (h : H a = some o) (d : ∀ xs, o ≠ .lst xs) : a ∉ S := fun z => by
  obtain ⟨xs, e⟩ := hb a z
  rw [h] at e
  exact d xs (Option.some.inj e)
theorem hok_dl {P : Program} {w : World} {H : Hp} {h : Heap} {S : List Addr} (ok : HOk P w H h) (hb : Lists H S) : HOk P w (dl H S) h := fun a o e => by
  refine (ok a o (dl_le _ _ e)).stay (fun _ _ _ q => q) (fun c q => ?_) fun c ys q => ?_
  · rw [dl_ne (hb.ne q fun _ z => by cases z)]; exact q
  · rw [dl_ne (hb.ne q fun _ z => by cases z)]; exact q
theorem env_dl {P : Program} {w : World} {K : PySem.W.Frag} {mg : Str → Option Value} {base : Heap} {A : Around} {outer : List Env} {s : Shared} {H : Hp} {S : List Addr} (E0 : Env0 P w K mg base A outer s H) (hb : Lists H S) :
    Env0 P w K mg base A outer s (dl H S) :=
  ⟨E0.frames, E0.mod, fun c o e => ⟨(E0.bs c o e).1, by
      by_cases z : c ∈ S
      · rw [dl_at z]
      · rw [dl_ne z]; exact (E0.bs c o e).2⟩, E0.bsz, E0.funs, fun c hc => by
      by_cases z : c ∈ S
      · rw [dl_at z]
      · rw [dl_ne z]; exact E0.frf c hc, hok_dl E0.hok hb, E0.bare⟩
/-- the promise with some tracked lists kept aside -/
def framed (sp : Sp) : Sp := fun vs H Q E => ∃ S : List Addr, Lists H S ∧ sp vs (dl H S) (fun v H' => (∀ a ∈ S, H' a = none) → Q v (bk H' H S)) fun c d H' => (∀ a ∈ S, H' a = none) → E c d (bk H' H S)
theorem un_bk {fs : List Addr} {H H' : Hp} {h h' : Heap} {S : List Addr} (u : Un fs [] (dl H S) H' h h') (hb : Lists H S) (ex : ∀ a ∈ S, ∃ o, h.get? a = some o) : (∀ a ∈ S, H' a = none) ∧ Un fs [] H (bk H' H S) h h' := by
  have fr : ∀ a ∈ S, H' a = none := fun a ha => by
    obtain ⟨o, ho⟩ := ex a ha
    exact u.free a o ho (dl_at ha) (by simp)
  have hid : ∀ c, H c = none → dl H S c = none := fun c n => by
    by_cases z : c ∈ S
    · rw [dl_at z]
    · rw [dl_ne z]; exact n
  refine ⟨fr, ⟨fun c q e n hc hx => u.keep c q e (hid c n) hc hx, fun c q e n hc hx => u.slot c q e (hid c n) hc hx, fun c q e n hx => ?_, u.there, fun c ys e => ?_, fun c q v e => ?_, fun c ps e => ?_⟩⟩
  · have z : c ∉ S := fun z => by
      obtain ⟨xs, k⟩ := hb c z
      rw [n] at k; cases k
    rw [bk_ne z]
    exact u.free c q e (hid c n) hx
  · have z := hb.ne e fun _ z => by cases z
    rw [bk_ne z]
    exact u.tups c ys (by rw [dl_ne z]; exact e)
  · have z := hb.ne e fun _ z => by cases z
    rw [bk_ne z]
    exact u.frzs c q v (by rw [dl_ne z]; exact e)
  · have z := hb.ne e fun _ z => by cases z
    rw [bk_ne z]
    exact u.tbls c ps (by rw [dl_ne z]; exact e)
theorem hok_bk {P : Program} {w : World} {H H' : Hp} {h' : Heap} {S : List Addr} (ok : HOk P w H' h') (fr : ∀ a ∈ S, H' a = none) (nb : ∀ a ∈ S, ∀ o, H a = some o → ObjOk P w (bk H' H S) h' a o) : HOk P w (bk H' H S) h' := fun a o e => by
  by_cases z : a ∈ S
  · rw [bk_at z] at e
    exact nb a z o e
  · rw [bk_ne z] at e
    refine (ok a o e).stay (fun _ _ _ q => q) (fun c q => ?_) fun c ys q => ?_
    · rw [bk_ne fun k => by rw [fr c k] at q; cases q]; exact q
    · rw [bk_ne fun k => by rw [fr c k] at q; cases q]; exact q
theorem frame_end {P : Program} {w : World} {K : PySem.W.Frag} {mg : Str → Option Value} {base : Heap} {A : Around} {outer : List Env} {s : Shared} {H H' : Hp} {S : List Addr} {h' : Heap} (e0 : Env0 P w K mg base A outer s H) (hb : Lists H S) (un : Un (frs outer) [] (dl H S) H' s.heap h') (hk : HOk P w H' h') :
    (∀ a ∈ S, H' a = none) ∧ Un (frs outer) [] H (bk H' H S) s.heap h' ∧ HOk P w (bk H' H S) h' := by
  have nf : ∀ a ∈ S, a ∉ frs outer := fun a ha z => by
    have := e0.frf a z
    obtain ⟨xs, k⟩ := hb a ha
    rw [k] at this; cases this
  obtain ⟨fr, un'⟩ := un_bk un hb fun a ha => by
    obtain ⟨xs, k⟩ := hb a ha
    obtain ⟨_, its, n, _, ob⟩ := (show ObjOk P w H s.heap a (.lst xs) from e0.hok a _ k)
    exact ⟨_, ob⟩
  refine ⟨fr, un', hok_bk hk fr fun a ha o e => ?_⟩
  obtain ⟨xs, k⟩ := hb a ha
  rw [k] at e
  cases e
  obtain ⟨zl, its, n, rv, ob⟩ := (show ObjOk P w H s.heap a (.lst xs) from e0.hok a _ k)
  exact ⟨zl, its, n, rv, un.keep a _ ob (dl_at ha) (nf a ha) (by simp)⟩
theorem FnOk.frame {P : Program} {w : World} {K : PySem.W.Frag} {mg : Str → Option Value} {base : Heap} {k : Nat} {f : Addr} {fd : FuncData} {ps : List Str} {sp : Sp} (F : FnOk P w K mg base CX0 k f fd ps sp) : FnOk P w K mg base CX0 k f fd ps (framed sp) := by
  refine ⟨fun vs H Q E ⟨S, _, h⟩ => F.len _ _ _ _ h, fun A outer s H args us vs Q E hr e0 bd vl h => ?_⟩
  obtain ⟨S, hb, h⟩ := h
  have r := F.run A outer s (dl H S) args us vs _ _ hr (env_dl e0 hb) bd vl h
  refine PySem.codeAny_mono r fun R s' q => ?_
  unfold CR at q ⊢
  split at q
  · obtain ⟨v, H', os, ag, un, hk, rl, qq⟩ := q
    obtain ⟨fr, un', hk'⟩ := frame_end e0 hb un hk
    exact ⟨v, _, os, ag, un', hk', rl, qq fr⟩
  · exact q
  · exact q.elim
end Hr

set_option Elab.async false
set_option linter.all false
set_option maxRecDepth 100000
set_option maxHeartbeats 4000000
namespace Hr
open PySem PySem.Spec PyProof.Rows L2
/-! ### a module's constant, a call by keywords alone, a text repeated -/
def Gv (mg : Str → Option Value) (x : Str) (v : V) : Prop := ∃ u, mg x = some u ∧ RelV v u
theorem pe_gv {X : Cx} {x : Str} {pos : Pos} {v : V} (hg : Gl X x) (h : Gv X.mg x v) (hd : (x == ("__debug__" : Str)) = false := by decide) : PE X (.Name x pos) (tC v) := by
  obtain ⟨u, hm, r⟩ := h
  exact pe_glob hg hm r hd
/-- all parameters by their names, in their order -/
structure KwB (fd : FuncData) (ps ks : List Str) : Prop where
  to : ∀ (s : Shared) (us : List Value), us.length = ps.length → BindsTo s fd ⟨[], ks.zip us⟩ (ps.zip us)
def tKw (sp : Sp) (E : XK) (tk : TA) : TE := fun σ H Q => tk σ H fun vs H1 => sp vs H1 Q E
section
variable {X : Cx} {CX : CXT} {k : Nat} {f : Addr} {fd : FuncData} {ps ks : List Str} {sp : Sp} {E : XK} {x : Str} {p pos : Pos} {kws : List Keyword} {tk : TA}
theorem pe_kw (F : FnOk X.prog X.w X.K X.mg X.base CX k f fd ps sp) (hr : Room k X.A) (hg : Gl X x) (hm : X.mg x = some (.ref f)) (hk : PySem.W.keepIn X.K (.ref f) = true) (hb : KwB fd ps ks) (hx : Passes CX X E) (hkw : PK X kws tk)
    (hall : (backToKw pos (keywordEach kws X.env)).all (·.1.isSome) = true := by rfl) (hks : (backToKw pos (keywordEach kws X.env)).filterMap (·.1) = ks := by rfl) (hdb : (x == ("__debug__" : Str)) = false := by decide)
    (hpl : ((backTo pos (starEach [] X.env)).any (·.1) || (backToKw pos (keywordEach kws X.env)).any (·.1.isNone)) = false := by rfl) :
    PE X (.Call (.Name x p) [] kws pos) (tKw sp E tk) := by
  refine ⟨fun pins s σ H Q I h => ?_⟩
  refine wpAny_Call_Name_kw (ld_glob I hg hm ?_ hdb)
  refine PySem.W.callWith_KW0 (h₀ := X.base) I.ok.mod.kin hk hall ?_ hpl
  refine thn (hkw.run pos pins s σ H _ I h) fun us s1 ⟨vs, H1, I1, r, q⟩ => ⟨I1.kIn, ?_⟩
  rw [hks]
  have hl : us.length = ps.length := by rw [← r.length]; exact F.len _ _ _ _ q
  refine wpAny_call (codeAny_mono (F.run X.A X.stack s1 H1 ⟨[], ks.zip us⟩ us vs Q E hr I1.env0 (hb.to s1 us hl) r q) fun r s' hq => ?_)
  cases r with
  | error e => exact hx pins σ H1 s1 e s' I1 hq
  | ok fl =>
    cases fl with
    | ret u => exact I1.after hq
    | next => exact False.elim hq
    | brk => exact False.elim hq
    | cont => exact False.elim hq
def rRepS : R2 := fun x y H Q => ∃ z i, x = .str z ∧ y = .int i ∧ z.length ≤ 16 ∧ 0 ≤ i ∧ i ≤ 1048576 ∧ Q (.str (Txt.mul z i)) H
theorem op_repS : OpR X (binaryOp .Mult) rRepS := by
  intro pins s σ H x y v u Q I rx ry h
  obtain ⟨z, i, rfl, rfl, hz, h0, h1, q⟩ := h
  obtain ⟨t, rfl⟩ := rx
  obtain ⟨t', rfl⟩ := ry
  exact PySem.W.KXi.mul rfl hz (by omega) (by omega) fun t2 k _ _ => ⟨.str (Txt.mul z i), H, I.tok _, ⟨_, rfl⟩, q⟩
end
theorem kb_of {K : PySem.W.Frag} {x qual : Str} {st : Stmt} {f : Addr} {fd : FuncData} {ps ks : List Str} (F : Fun K x qual st f fd)
    (h : ∀ (kV doc pm : Value) (an : Option Addr) (cdv ct : Value) (us : List Value), us.length = ps.length → bindArgs (PySem.W.fnOf x qual (defArgs st) (defBody st) (defScope st) .none kV doc pm an cdv ct) ⟨[], ks.zip us⟩ = pure (ps.zip us)) : KwB fd ps ks := by
  obtain ⟨oc, od, kV, doc, pm, an, cdv, ct, osl, rfl, lk, hcd⟩ := F.ex
  exact ⟨fun s us hl => .of_eq (h kV doc pm an cdv ct us hl)⟩
/-! ### the bag that a script is drawn from: at b, its ints at l -/
def Bag (H : Hp) (b l : Addr) : Prop := ∃ (ns : List Int) (i g s : Int), H b = some (.lst [.ref l, .int i, .int g, .int s]) ∧ H l = some (.lst (ns.map V.int)) ∧ ns.length ≤ 63 ∧ 0 ≤ i ∧ 0 ≤ g ∧ 0 ≤ s ∧ s < 2147483647
theorem Bag.tracked {H : Hp} {b l : Addr} (h : Bag H b l) : ∃ xs, H b = some (.lst xs) := by
  obtain ⟨ns, i, g, s, h, _⟩ := h
  exact ⟨_, h⟩
theorem Bag.ne {H : Hp} {b l : Addr} (h : Bag H b l) : l ≠ b := by
  obtain ⟨ns, i, g, s, h1, h2, _⟩ := h
  refine ne_of h2 h1 fun e => ?_
  cases ns with
  | nil => cases e
  | cons n r => cases (List.cons.inj (HO.lst.inj e)).1
theorem Bag.ne_new {H : Hp} {b l p : Addr} (h : Bag H b l) (hp : H p = none) : p ≠ b := by
  obtain ⟨xs, e⟩ := h.tracked
  exact (ne_of_none e hp).symm
theorem Bag.ne_newl {H : Hp} {b l p : Addr} (h : Bag H b l) (hp : H p = none) : p ≠ l := by
  obtain ⟨ns, i, g, s, h1, h2, _⟩ := h
  exact (ne_of_none h2 hp).symm
theorem Bag.of {H H' : Hp} {b l : Addr} (h : Bag H b l) (h1 : H' b = H b) (h2 : H' l = H l) : Bag H' b l := by
  obtain ⟨ns, i, g, t, hb, hl, r⟩ := h
  exact ⟨ns, i, g, t, by rw [h1]; exact hb, by rw [h2]; exact hl, r⟩
/-- a step: all but the bag is kept, the bag is a bag -/
structure Bx (b l : Addr) (H H' : Hp) : Prop where
  bag : Bag H' b l
  keep : ∀ a o, a ≠ b → H a = some o → H' a = some o
theorem Bx.refl {b l : Addr} {H : Hp} (h : Bag H b l) : Bx b l H H := ⟨h, fun _ _ _ e => e⟩
theorem Bx.trans {b l : Addr} {H H1 H2 : Hp} (x : Bx b l H H1) (y : Bx b l H1 H2) : Bx b l H H2 := ⟨y.bag, fun a o n e => y.keep a o n (x.keep a o n e)⟩
theorem Bx.new {b l p : Addr} {H : Hp} {o : HO} (h : Bag H b l) (hp : H p = none) : Bx b l H (upd H p o) :=
  ⟨h.of (upd_ne (h.ne_new hp).symm) (upd_ne (h.ne_newl hp).symm), fun a u _ e => by rw [upd_ne (ne_of_none e hp)]; exact e⟩
theorem Bx.bagstep {b l : Addr} {H : Hp} {xs : List V} (h : Bag (upd H b (.lst xs)) b l) : Bx b l H (upd H b (.lst xs)) := ⟨h, fun a o n e => by rw [upd_ne n]; exact e⟩
theorem Bx.same {b l : Addr} {H H' : Hp} {S : List Addr} (x : Bx b l H H') (hb : b ∈ S) : Same (dl H S) (dl H' S) := fun a o e => by
  obtain ⟨h1, h2⟩ := dl_some e
  rw [dl_ne h1]
  exact x.keep a o (fun z => h1 (by rw [z]; exact hb)) h2
theorem Bx.free {b l p : Addr} {H H' : Hp} (x : Bx b l H H') (h : H' p = none) : H p = none := by
  cases q : H p with
  | none => rfl
  | some o =>
    rw [x.keep p o (x.bag.ne_new h) q] at h
    cases h
/-- behind a framed call -/
theorem Bx.back {b l : Addr} {H H' : Hp} {S : List Addr} (h : Bag H b l) (hb : b ∈ S) (s : Same (dl H S) H') : Bx b l H (bk H' H S) := by
  have sm := same_bk (H := H) s
  obtain ⟨ns, i, g, t, h1, h2, r⟩ := h
  exact ⟨⟨ns, i, g, t, sm _ _ h1, sm _ _ h2, r⟩, fun a o _ e => sm a o e⟩
theorem Bag.lists {H : Hp} {b l : Addr} (h : Bag H b l) : Lists H [b] := fun a ha => by
  rw [List.mem_singleton.mp ha]
  exact h.tracked
def sp_bag (K : PySem.W.Frag) : Sp := fun vs H Q _ => ∃ (a : Addr) (ns : List Int), vs = [.ref a] ∧ SqL K H a (ns.map V.int) ∧ ns.length ≤ 63 ∧ ∀ b l H', Bag H' b l → H b = none → Same H H' → Q (.ref b) H'
def sp_pull : Sp := fun vs H Q _ => ∃ (b l : Addr) (n : Int), vs = [.ref b, .int n] ∧ Bag H b l ∧ 1 ≤ n ∧ n < 1073741824 ∧ ∀ (d : Int) (H' : Hp), 0 ≤ d → d < n → Bx b l H H' → Q (.int d) H'
/-- _law_of(bag, text) -/
def sp_ofS : Sp := fun vs H Q _ => ∃ (b l : Addr) (z : Str), vs = [.ref b, .str z] ∧ Bag H b l ∧ 1 ≤ z.length ∧ z.length ≤ 100000 ∧ ∀ (c : Nat) (H' : Hp), c ∈ z.cps.toList → Bx b l H H' → Q (.str ⟨#[c]⟩) H'
/-- _law_of(bag, list or tuple) -/
def sp_ofL (K : PySem.W.Frag) : Sp := fun vs H Q _ => ∃ (b l a : Addr) (xs : List V), vs = [.ref b, .ref a] ∧ Bag H b l ∧ (∀ H', Bx b l H H' → SqL K H' a xs ∨ SqT K H' a xs) ∧ 1 ≤ xs.length ∧ xs.length ≤ 100000 ∧ ∀ (x : V) (H' : Hp), x ∈ xs → Bx b l H H' → Q x H'
/-! ### data of one depth -/
mutual
def deep : Nat → PyData → Bool
  | 0, _ => false
  | n + 1, .list ds => decide (ds.length < 50000) && deepAll n ds
  | n + 1, .tuple ds => decide (ds.length < 50000) && deepAll n ds
  | _ + 1, .dict _ => false
  | _ + 1, .str s => PySem.PyData.strOk s
  | _ + 1, _ => true
def deepAll : Nat → List PyData → Bool
  | _, [] => true
  | n, d :: ds => deep n d && deepAll n ds
end
theorem deep_list {n : Nat} {ds : List PyData} (h : deep (n + 1) (.list ds) = true) : ds.length < 50000 ∧ deepAll n ds = true := by
  unfold deep at h
  have := Bool.and_eq_true_iff.mp h
  exact ⟨of_decide_eq_true this.1, this.2⟩
theorem deep_tuple {n : Nat} {ds : List PyData} (h : deep (n + 1) (.tuple ds) = true) : ds.length < 50000 ∧ deepAll n ds = true := by
  unfold deep at h
  have := Bool.and_eq_true_iff.mp h
  exact ⟨of_decide_eq_true this.1, this.2⟩
theorem deep_zero {d : PyData} : deep 0 d = false := by unfold deep; rfl
theorem deep_cases (d : PyData) : (∃ ds, d = .list ds) ∨ (∃ ds, d = .tuple ds) ∨ (∃ ds, d = .dict ds) ∨ d = .none ∨ (∃ b, d = .bool b) ∨ (∃ i, d = .int i) ∨ (∃ x, d = .str x) := by
  cases d <;> simp
/-! ### isinstance of data -/
def tyN : PyData → String
  | .none => "NoneType"
  | .bool _ => "bool"
  | .int _ => "int"
  | .str _ => "str"
  | .list _ => "list"
  | .tuple _ => "tuple"
  | .dict _ => "dict"
theorem ty_of {K : PySem.W.Frag} {H : Hp} {x : V} {d : PyData} (h : Dp K H x d) : TyX K H x (.type (tyN d)) := by
  cases h with
  | non => exact .base .non
  | bl b => exact .base (.bl b)
  | int i => exact .base (.int i)
  | str x => exact .base (.str x)
  | lst h t =>
    rcases h with (h | ⟨o, h⟩) | ⟨o, its, n, h1, h2, _⟩
    · exact .base (.lst h)
    · exact .base (.frz h)
    · exact .kList h1 h2
  | tup h t =>
    rcases h with (h | ⟨o, h⟩) | ⟨o, its, n, h1, h2, _⟩
    · exact .base (.tup h)
    · exact .fTuple h
    · exact .kTuple h1 h2
theorem isi {K : PySem.W.Frag} {H : Hp} {x : V} {d : PyData} {n : String} {r : Bool} {Q : VK} (h : Dp K H x d) (e : kitB (tyN d) n = some r) (q : Q (.bl r) H) : rIsi K [x, .ty n] H Q := ⟨x, .ty n, _, _, r, rfl, .ty n, ty_of h, kit_ty e, q⟩
theorem kit_NoneType_bool : kitB "NoneType" "bool" = some false := by decide +kernel
theorem kit_NoneType_int : kitB "NoneType" "int" = some false := by decide +kernel
theorem kit_NoneType_str : kitB "NoneType" "str" = some false := by decide +kernel
theorem kit_NoneType_list : kitB "NoneType" "list" = some false := by decide +kernel
theorem kit_NoneType_tuple : kitB "NoneType" "tuple" = some false := by decide +kernel
theorem kit_bool_bool : kitB "bool" "bool" = some true := by decide +kernel
theorem kit_bool_int : kitB "bool" "int" = some true := by decide +kernel
theorem kit_bool_str : kitB "bool" "str" = some false := by decide +kernel
theorem kit_bool_list : kitB "bool" "list" = some false := by decide +kernel
theorem kit_bool_tuple : kitB "bool" "tuple" = some false := by decide +kernel
theorem kit_int_bool : kitB "int" "bool" = some false := by decide +kernel
theorem kit_int_int : kitB "int" "int" = some true := by decide +kernel
theorem kit_int_str : kitB "int" "str" = some false := by decide +kernel
theorem kit_int_list : kitB "int" "list" = some false := by decide +kernel
theorem kit_int_tuple : kitB "int" "tuple" = some false := by decide +kernel
theorem kit_str_bool : kitB "str" "bool" = some false := by decide +kernel
theorem kit_str_int : kitB "str" "int" = some false := by decide +kernel
theorem kit_str_str : kitB "str" "str" = some true := by decide +kernel
theorem kit_str_list : kitB "str" "list" = some false := by decide +kernel
theorem kit_str_tuple : kitB "str" "tuple" = some false := by decide +kernel
theorem kit_list_bool : kitB "list" "bool" = some false := by decide +kernel
theorem kit_list_int : kitB "list" "int" = some false := by decide +kernel
theorem kit_list_str : kitB "list" "str" = some false := by decide +kernel
theorem kit_list_list : kitB "list" "list" = some true := by decide +kernel
theorem kit_list_tuple : kitB "list" "tuple" = some false := by decide +kernel
theorem kit_tuple_bool : kitB "tuple" "bool" = some false := by decide +kernel
theorem kit_tuple_int : kitB "tuple" "int" = some false := by decide +kernel
theorem kit_tuple_str : kitB "tuple" "str" = some false := by decide +kernel
theorem kit_tuple_list : kitB "tuple" "list" = some false := by decide +kernel
theorem kit_tuple_tuple : kitB "tuple" "tuple" = some true := by decide +kernel
theorem ifT {c : Prop} [Decidable c] {A B : Prop} (hc : c) (h : A) : if decide c = true then A else B := by
  rw [decide_eq_true hc, if_pos rfl]
  exact h
theorem ifF {c : Prop} [Decidable c] {A B : Prop} (hc : ¬ c) (h : B) : if decide c = true then A else B := by
  rw [decide_eq_false hc, if_neg Bool.false_ne_true]
  exact h
theorem dpa_len {K : PySem.W.Frag} {H : Hp} : ∀ {vs : List V} {ds : List PyData}, DpAll K H vs ds → vs.length = ds.length
  | _, _, .nil => rfl
  | _, _, .cons _ t => by rw [List.length_cons, List.length_cons, dpa_len t]
theorem dpa_get {K : PySem.W.Frag} {H : Hp} : ∀ {vs : List V} {ds : List PyData} {i : Nat} {v : V}, DpAll K H vs ds → vs[i]? = some v → ∃ d, ds[i]? = some d ∧ Dp K H v d
  | _, _, _, _, .nil, e => by simp at e
  | _, _, 0, _, .cons h _, e => by
    simp at e
    subst e
    exact ⟨_, rfl, h⟩
  | _, _, i + 1, v, .cons _ t, e => by
    obtain ⟨d, h1, h2⟩ := dpa_get (i := i) (v := v) t (by simpa using e)
    exact ⟨d, by simpa using h1, h2⟩
theorem deep_get : ∀ {n : Nat} {ds : List PyData} {i : Nat} {d : PyData}, deepAll n ds = true → ds[i]? = some d → deep n d = true
  | _, [], _, _, _, e => by simp at e
  | n, a :: r, 0, d, h, e => by
    simp at e
    subst e
    unfold deepAll at h
    exact (Bool.and_eq_true_iff.mp h).1
  | n, a :: r, i + 1, d, h, e => by
    unfold deepAll at h
    exact deep_get (i := i) (Bool.and_eq_true_iff.mp h).2 (by simpa using e)
theorem walk_zipT {K : PySem.W.Frag} {a b : Addr} {xs ys : List V} {n : Nat} (hx : xs.length = n) (hy : ys.length = n) : Walk (RZ.ItzT K a b) n (fun H => SqT K H a xs ∧ SqT K H b ys) (YPair (fun i => xs[i]?) (fun i => ys[i]?)) := by
  refine ⟨fun i _ hi q => ?_, fun _ q => ⟨xs, ys, q.1, q.2, by omega⟩, fun i H v H' _ q y => ?_⟩
  · have h1 : i < xs.length := by omega
    have h2 : i < ys.length := by omega
    exact ⟨xs, ys, xs[i], ys[i], q.1, q.2, by simp [h1], by simp [h2]⟩
  · obtain ⟨T, x, z, h1, h2, h3, h4, h5⟩ := y
    exact ⟨T, x, z, h1, h2, h3, h4 xs q.1, h5 ys q.2⟩
theorem all_true {n : Nat} : (((List.range n).map fun _ => V.bl true) = ((List.replicate n true).map V.bl)) ∧ (List.replicate n true).all id = true := by
  constructor
  · rw [List.map_const', List.map_replicate, List.length_range]
  · simp
/-- _law_same(x, y), x and y the same data: True -/
def sp_same (K : PySem.W.Frag) (n : Nat) : Sp := fun vs H Q _ => ∃ (x y : V) (d : PyData), vs = [x, y] ∧ Dp K H x d ∧ Dp K H y d ∧ deep n d = true ∧ ∀ H', Same H H' → Q (.bl true) H'
def sp_law (K : PySem.W.Frag) : Sp := fun vs H Q _ => ∃ (a : Addr) (ns : List Int), vs = [.ref a] ∧ SqL K H a (ns.map V.int) ∧ ns.length ≤ 63 ∧ ∀ H', Q (.bl true) H'
end Hr
namespace Hr
open PySem PySem.Spec PyProof.Rows L2
theorem yes {te : TE} {σ : L2.St} {H : Hp} {Qe : VK} {Z : Hp → Prop} (h : te σ H Qe) : tYes σ H (fun b H3 => if b = true then te σ H3 Qe else Z H3) := by
  show (if true = true then te σ H Qe else Z H)
  rw [if_pos rfl]
  exact h
theorem szl {n : Nat} (h : n ≤ 100000) : n ≤ sizeLine := Nat.le_trans h (by decide)
theorem szt {n : Nat} (h : n < 100000) : n < sizeLine := Nat.lt_of_lt_of_le h (by decide)
/-! ### comprehensions: what is made by the elements is told of the heap without the list that grows (and without S) -/
theorem lc_bag {J : It} {n : Nat} {G : Hp → Prop} {Y : Nat → Hp → V → Hp → Prop} (w : Walk J n G Y) {g : TG} {tt : TT} {te : TE} {vs : List Nat} {σ : L2.St} {H1 : Hp} {D b l : Addr} {Qd : Hp → Prop} (S : List Addr) (hS : b ∈ S) (hb : Bag H1 b l) (hD : H1 D = none) (P : V → Hp → Prop) (hP : ∀ y H H', Same H H' → P y H → P y H') (hG : ∀ H, Bx b l H1 H → G H) (hn : n < 100000)
    (hs : ∀ i x H H' (Qe : V → Hp → Prop) (Z : Hp → Prop), i < n → Bx b l H1 H → Same (dl H1 S) (dl H (D :: S)) → (∃ xs, H D = some (.lst xs)) → (∀ y H4, Bx b l H H4 → P y (dl H4 (D :: S)) → Qe y H4) → Y i H x H' → g x (wipe σ vs) H' fun σ2 H2 => wipe σ2 vs = wipe σ vs ∧ tt σ2 H2 fun bb H3 => if bb = true then te σ2 H3 Qe else Z H3)
    (hd : ∀ H ys, Bx b l H1 H → ys.length = n → H D = some (.lst ys) → (∀ y ∈ ys, P y (dl H (D :: S))) → Qd H) :
    ∃ W : Nat → Nat → Hp → Prop, (∃ m, W 0 m (upd H1 D (.lst []))) ∧ ∀ i m H, W i m H →
      (J.stop i H ∧ Qd H) ∨ (J.go i H ∧ ∃ Nx : Hp → Prop, (∀ H', Nx H' → ∃ m', m' < m ∧ W (i + 1) m' H') ∧ ∀ x H', J.yld i H x H' → g x (wipe σ vs) H' fun σ2 H2 => wipe σ2 vs = wipe σ vs ∧ tt σ2 H2 fun b H3 =>
        if b = true then te σ2 H3 fun y H4 => ∃ acc, H4 D = some (.lst acc) ∧ acc.length < sizeLine ∧ Nx (upd H4 D (.lst (acc ++ [y]))) else Nx H3) := by
  have nD : D ≠ b := hb.ne_new hD
  have nL : D ≠ l := hb.ne_newl hD
  refine lc_it w (fun i H => Bx b l H1 H ∧ ∃ ys, H D = some (.lst ys) ∧ ys.length = i ∧ ∀ y ∈ ys, P y (dl H (D :: S))) ⟨Bx.new hb hD, [], upd_same, rfl, fun _ h => nomatch h⟩ (fun i H _ h => hG H h.1) ?_ ?_
  · rintro i x H H' hi ⟨bx, ys, hy, hl, hp⟩ y
    refine hs i x H H' _ _ hi bx (fun a o e => ?_) ⟨ys, hy⟩ (fun y H4 b4 p4 => ⟨ys, b4.keep D _ nD hy, szt (by omega), ⟨b4.bag.of (upd_ne nD.symm) (upd_ne nL.symm), fun a o n e => ?_⟩, ys ++ [y], upd_same, by simp [hl], fun z hz => ?_⟩) y
    · obtain ⟨h1, h2⟩ := dl_some e
      rw [dl_ne (fun z => (List.mem_cons.mp z).elim (fun z => ne_of_none h2 hD z) h1)]
      exact bx.keep a o (fun z => h1 (by rw [z]; exact hS)) h2
    · rw [upd_ne (ne_of_none e hD)]
      exact b4.keep a o n (bx.keep a o n e)
    · rw [dl_upd List.mem_cons_self]
      rcases List.mem_append.mp hz with hz | hz
      · exact hP z _ _ (b4.same (List.mem_cons_of_mem _ hS)) (hp z hz)
      · rw [List.mem_singleton.mp hz]; exact p4
  · rintro H ⟨bx, ys, hy, hl, hp⟩
    exact hd H ys bx hl hy hp
/-- without a bag: the i-th element's value is known -/
theorem lc_val {J : It} {n : Nat} {G : Hp → Prop} {Y : Nat → Hp → V → Hp → Prop} (w : Walk J n G Y) {g : TG} {tt : TT} {te : TE} {vs : List Nat} {σ : L2.St} {H1 : Hp} {D : Addr} {Qd : Hp → Prop} (hD : H1 D = none) (f : Nat → V) (hG : ∀ H, Same H1 H → G H) (hn : n < 100000)
    (hs : ∀ i x H H' (Qe : V → Hp → Prop) (Z : Hp → Prop), i < n → Same H1 H → (∀ H4, Same H H4 → Qe (f i) H4) → Y i H x H' → g x (wipe σ vs) H' fun σ2 H2 => wipe σ2 vs = wipe σ vs ∧ tt σ2 H2 fun bb H3 => if bb = true then te σ2 H3 Qe else Z H3)
    (hd : ∀ H, Same H1 H → H D = some (.lst ((List.range n).map f)) → Qd H) :
    ∃ W : Nat → Nat → Hp → Prop, (∃ m, W 0 m (upd H1 D (.lst []))) ∧ ∀ i m H, W i m H →
      (J.stop i H ∧ Qd H) ∨ (J.go i H ∧ ∃ Nx : Hp → Prop, (∀ H', Nx H' → ∃ m', m' < m ∧ W (i + 1) m' H') ∧ ∀ x H', J.yld i H x H' → g x (wipe σ vs) H' fun σ2 H2 => wipe σ2 vs = wipe σ vs ∧ tt σ2 H2 fun b H3 =>
        if b = true then te σ2 H3 fun y H4 => ∃ acc, H4 D = some (.lst acc) ∧ acc.length < sizeLine ∧ Nx (upd H4 D (.lst (acc ++ [y]))) else Nx H3) := by
  refine lc_it w (fun i H => Same H1 H ∧ H D = some (.lst ((List.range i).map f))) ⟨same_new hD, upd_same⟩ (fun i H _ h => hG H h.1) ?_ ?_
  · rintro i x H H' hi ⟨sm, hy⟩ y
    refine hs i x H H' _ _ hi sm (fun H4 s4 => ⟨_, s4 _ _ hy, szt (by rw [List.length_map, List.length_range]; omega), fun a o e => ?_, ?_⟩) y
    · rw [upd_ne (ne_of_none e hD)]
      exact s4 _ _ (sm _ _ e)
    · rw [upd_same, List.range_succ, List.map_append]
      rfl
  · rintro H ⟨sm, hy⟩
    exact hd H sm hy
theorem Bx.ofSame {b l : Addr} {H H' : Hp} (h : Bag H b l) (s : Same H H') : Bx b l H H' := by
  obtain ⟨ns, i, g, t, h1, h2, r⟩ := h
  exact ⟨⟨ns, i, g, t, s _ _ h1, s _ _ h2, r⟩, fun a o _ e => s a o e⟩
theorem Bag.ofSame {b l : Addr} {H H' : Hp} (h : Bag H b l) (s : Same H H') : Bag H' b l := (Bx.ofSame h s).bag
theorem strs_of {ys : List V} (h : ∀ y ∈ ys, ∃ c : Nat, y = .str ⟨#[c]⟩) : ∃ ss : List Str, ys = ss.map V.str ∧ ss.length = ys.length ∧ ∀ s ∈ ss, s.length = 1 := by
  induction ys with
  | nil => exact ⟨[], rfl, rfl, fun _ h => nomatch h⟩
  | cons y r ih =>
    obtain ⟨c, rfl⟩ := h y List.mem_cons_self
    obtain ⟨ss, e, l, k⟩ := ih fun z hz => h z (List.mem_cons_of_mem _ hz)
    refine ⟨⟨#[c]⟩ :: ss, by rw [e]; rfl, by rw [List.length_cons, l, List.length_cons], fun s hs => ?_⟩
    rcases List.mem_cons.mp hs with rfl | hs
    · rfl
    · exact k s hs
theorem sum_ones : ∀ {ss : List Str}, (∀ s ∈ ss, s.length = 1) → (ss.map (·.length)).sum = ss.length
  | [], _ => rfl
  | s :: r, h => by
    rw [List.map_cons, List.sum_cons, h s List.mem_cons_self, sum_ones fun z hz => h z (List.mem_cons_of_mem _ hz), List.length_cons]
    omega
theorem dl_bls {K : PySem.W.Frag} {H : Hp} : ∀ (bs : List Bool), DpAll K H (bs.map V.bl) (bs.map PyData.bool)
  | [] => .nil
  | b :: r => .cons (.bl b) (dl_bls r)
end Hr

set_option Elab.async false
set_option linter.all false
set_option maxRecDepth 100000
set_option maxHeartbeats 4000000
namespace Hr
open PySem PySem.Spec PyProof.Rows L2
/-! ### texts as lists of codes -/
abbrev cl (z : Str) : List Nat := z.cps.toList
theorem cl_len (z : Str) : z.length = (cl z).length := rfl
theorem cl_app (x y : Str) : cl (x ++ y) = cl x ++ cl y := cps_toList_append x y
theorem cl_ext {x y : Str} (h : cl x = cl y) : x = y := ext_toList h
theorem cl_take (z : Str) {n : Int} (h : 0 ≤ n) : cl (cutS z none (some n)) = (cl z).take n.toNat := by
  obtain ⟨k, rfl⟩ : ∃ k : Nat, n = k := ⟨n.toNat, by omega⟩
  unfold cutS cl
  rw [HT.sIx_none, HT.sIx_nat, List.drop_zero, Nat.sub_zero, Int.toNat_natCast]
  show List.take _ _ = _
  have e : z.length = z.cps.toList.length := rfl
  rw [e]
  by_cases hk : k ≤ z.cps.toList.length
  · rw [Nat.min_eq_left hk]
  · rw [Nat.min_eq_right (by omega), List.take_of_length_le (Nat.le_refl _), List.take_of_length_le (by omega)]
theorem cl_drop (z : Str) {n : Int} (h : 0 ≤ n) : cl (cutS z (some n) none) = (cl z).drop n.toNat := by
  obtain ⟨k, rfl⟩ : ∃ k : Nat, n = k := ⟨n.toNat, by omega⟩
  unfold cutS cl
  rw [HT.sIx_none, HT.sIx_nat, Int.toNat_natCast]
  show List.take _ (List.drop _ _) = _
  have e : z.length = z.cps.toList.length := rfl
  rw [e]
  by_cases hk : k ≤ z.cps.toList.length
  · rw [Nat.min_eq_left hk]
    apply List.take_of_length_le
    rw [List.length_drop]
    omega
  · rw [Nat.min_eq_right (by omega), Nat.sub_self, List.take_zero, List.drop_of_length_le (by omega)]
theorem cl_join0 : ∀ (ss : List Str), cl (Txt.join "" ss) = (ss.map cl).flatten := fun ss => by
  show cl (Builtin.Str.glued "" ss) = _
  rw [StrLaws.glued_eq_join]
  induction ss with
  | nil => rfl
  | cons x r ih =>
    cases r with
    | nil => simp [Str.join]
    | cons y r2 =>
      show cl (x ++ ("" : Str) ++ Str.join "" (y :: r2)) = _
      rw [cl_app, cl_app, ih]
      simp [show cl ("" : Str) = [] from rfl]
theorem foldl_app (x : Array Nat) : ∀ (n : Nat) (a : Array Nat), ((List.replicate n x).foldl (· ++ ·) a).toList = a.toList ++ (List.replicate n x.toList).flatten
  | 0, a => by simp
  | n + 1, a => by
    rw [List.replicate_succ, List.foldl_cons, foldl_app x n, Array.toList_append, List.replicate_succ, List.flatten_cons, List.append_assoc]
theorem cl_mul (z : Str) {n : Int} (h : 0 ≤ n) : cl (Txt.mul z n) = (List.replicate n.toNat (cl z)).flatten := by
  unfold Txt.mul
  by_cases h1 : n < 1
  · have e : n = 0 := by omega
    subst e
    rfl
  · rw [if_neg h1]
    by_cases h2 : (n == 1 || z.length == 0) = true
    · rw [if_pos h2]
      rcases Bool.or_eq_true_iff.mp h2 with e | e
      · have e' : n = 1 := by simpa using e
        subst e'
        simp
      · have e' : cl z = [] := List.eq_nil_of_length_eq_zero (by rw [← cl_len]; simpa using e)
        show cl z = _
        rw [e', List.flatten_replicate_nil]
    · rw [if_neg h2]
      show ((List.replicate n.toNat z.cps).foldl (· ++ ·) #[]).toList = _
      rw [foldl_app]
      rfl
def isNm (s : Str) : Prop := 1 ≤ (cl s).length ∧ (cl s).length ≤ 8 ∧ ∀ c ∈ cl s, c ∈ cl "abcdefghijklmnopqrstuvwxyz"
def isVl (s : Str) : Prop := 1 ≤ (cl s).length ∧ (cl s).length ≤ 8 ∧ ∀ c ∈ cl s, c ∈ cl "abcdefghijklmnopqrstuvwxyz0123456789"
/-! ### tracked sets -/
def Tr (H : Hp) (S : List Addr) : Prop := ∀ a ∈ S, ∃ o, H a = some o
theorem Tr.fresh {H : Hp} {S : List Addr} {p : Addr} (t : Tr H S) (h : H p = none) : p ∉ S := fun z => by
  obtain ⟨o, e⟩ := t p z
  rw [h] at e
  cases e
theorem Tr.bx {b l : Addr} {H H' : Hp} {S : List Addr} (t : Tr H S) (x : Bx b l H H') : Tr H' S := fun a ha => by
  obtain ⟨o, e⟩ := t a ha
  by_cases z : a = b
  · rw [z]
    obtain ⟨xs, h⟩ := x.bag.tracked
    exact ⟨_, h⟩
  · exact ⟨o, x.keep a o z e⟩
theorem Tr.cons {H : Hp} {S : List Addr} {p : Addr} {o : HO} (t : Tr H S) (h : H p = some o) : Tr H (p :: S) := fun a ha => by
  rcases List.mem_cons.mp ha with rfl | ha
  · exact ⟨o, h⟩
  · exact t a ha
theorem Tr.one {H : Hp} {b l : Addr} (h : Bag H b l) : Tr H [b] := fun a ha => by
  rw [List.mem_singleton.mp ha]
  obtain ⟨xs, e⟩ := h.tracked
  exact ⟨_, e⟩
theorem Tr.same {H H' : Hp} {S : List Addr} (t : Tr H S) (s : Same H H') : Tr H' S := fun a ha => by
  obtain ⟨o, e⟩ := t a ha
  exact ⟨o, s a o e⟩
theorem dl_free {H : Hp} {S : List Addr} {p : Addr} (t : Tr H S) (h : H p = none) : dl H S p = none := by
  rw [dl_ne (t.fresh h)]
  exact h
/-- behind a new object -/
theorem dl_same_new {H : Hp} {S : List Addr} {p : Addr} {o : HO} (t : Tr H S) (h : H p = none) : Same (dl H S) (dl (upd H p o) S) := by
  rw [dl_new (t.fresh h)]
  exact same_new (dl_free t h)
theorem dl_upd_at {H : Hp} {S : List Addr} {p : Addr} {o : HO} (t : Tr H S) (h : H p = none) : dl (upd H p o) S p = some o := by
  rw [dl_ne (t.fresh h), upd_same]
/-! ### max with a default -/
def maxI : List Int → Int → Int
  | [], d => d
  | y :: ys, _ => PySem.W.maxOf y ys
def rMaxD (K : PySem.W.Frag) : List V → List V → Hp → VK → Prop := fun vs zs H Q => ∃ (a : Addr) (ns : List Int) (d : Int), vs = [.ref a] ∧ zs = [.int d] ∧ SqL K H a (ns.map V.int) ∧ Q (.int (maxI ns d)) H
theorem dpa_ints {K : PySem.W.Frag} {H : Hp} : ∀ (ns : List Int), DpAll K H (ns.map V.int) (ns.map PyData.int)
  | [] => .nil
  | n :: r => .cons (.int n) (dpa_ints r)
theorem cr_maxD {X : Cx} (hc : X.calm = true) (hu : X.A.units + 64 < cLine) : CallRK X (.builtin "max") [Str.ofString "default"] (rMaxD X.K) := by
  intro pins s σ H vs zs us ws Q I r rz h
  obtain ⟨a, ns, d, rfl, rfl, hs, q⟩ := h
  obtain rfl := Vals.ref1 r
  obtain ⟨w1, rfl, t, rfl⟩ := vals1 rz
  obtain ⟨its, rv, hl, _⟩ := I.list hs
  obtain ⟨as, ra⟩ := Dp.readsAll I (ns.map PyData.int) _ _ (dpa_ints ns) rv
  refine PySem.W.max_list_datum_default (α := Int) (xs := ns) (I.ok.hd hc) hl.isList ⟨as, ra⟩ (by show X.A.units + 1 + 0 < cLine; omega) (fun e h' tk k => ?_) fun y ys i v h' tk e hv hh k => ?_
  · subst e
    exact ⟨.int d, H, I.kept k, ⟨t, rfl⟩, q⟩
  · subst e
    obtain ⟨bs, rd⟩ := hh
    cases rd
    exact ⟨.int _, H, I.kept k, ⟨_, rfl⟩, q⟩
theorem bx_seq {K : PySem.W.Frag} {b l a : Addr} {H H' : Hp} {xs : List V} (x : Bx b l H H') (n : a ≠ b) (h : SqL K H a xs) : SqL K H' a xs := by
  rcases h with (h | ⟨o, h⟩) | h
  · exact .inl (.inl (x.keep _ _ n h))
  · exact .inl (.inr ⟨o, x.keep _ _ n h⟩)
  · exact .inr h
theorem bx_seqT {K : PySem.W.Frag} {b l a : Addr} {H H' : Hp} {xs : List V} (x : Bx b l H H') (n : a ≠ b) (h : SqT K H a xs) : SqT K H' a xs := by
  rcases h with (h | ⟨o, h⟩) | h
  · exact .inl (.inl (x.keep _ _ n h))
  · exact .inl (.inr ⟨o, x.keep _ _ n h⟩)
  · exact .inr h
theorem stem_of {al : List Nat} {ys : List V} (h : ∀ y ∈ ys, ∃ c : Nat, y = .str ⟨#[c]⟩ ∧ c ∈ al) : ∃ ss : List Str, ys = ss.map V.str ∧ ss.length = ys.length ∧ (ss.map (·.length)).sum = ys.length ∧ (cl (Txt.join "" ss)).length = ys.length ∧ ∀ c ∈ cl (Txt.join "" ss), c ∈ al := by
  have k : ∃ cs : List Nat, ys = cs.map (fun c => V.str ⟨#[c]⟩) ∧ ∀ c ∈ cs, c ∈ al := by
    induction ys with
    | nil => exact ⟨[], rfl, fun _ h => nomatch h⟩
    | cons y r ih =>
      obtain ⟨c, rfl, hc⟩ := h y List.mem_cons_self
      obtain ⟨cs, e, k⟩ := ih fun z hz => h z (List.mem_cons_of_mem _ hz)
      refine ⟨c :: cs, by rw [e]; rfl, fun d hd => ?_⟩
      rcases List.mem_cons.mp hd with rfl | hd
      · exact hc
      · exact k d hd
  obtain ⟨cs, rfl, hc⟩ := k
  have e : cl (Txt.join "" (cs.map fun c => (⟨#[c]⟩ : Str))) = cs := by
    rw [cl_join0, List.map_map]
    clear hc h
    induction cs with
    | nil => rfl
    | cons c r ih =>
      rw [List.map_cons, List.flatten_cons, ih]
      rfl
  refine ⟨cs.map fun c => (⟨#[c]⟩ : Str), by rw [List.map_map]; rfl, by simp, ?_, by rw [e]; simp, by rw [e]; exact hc⟩
  clear e hc h
  induction cs with
  | nil => rfl
  | cons c r ih =>
    rw [List.map_cons, List.map_cons, List.sum_cons, ih]
    simp [Str.length]
    omega
theorem nodup_of_key {α β : Type} {ss : List α} (key : Nat → β) (f : α → β) (h : ∀ j s, ss[j]? = some s → f s = key j) (inj : ∀ i j, i < j → j < ss.length → key i ≠ key j) : ss.Nodup := by
  refine List.pairwise_iff_getElem.mpr fun i j hi hj lt e => ?_
  have h1 := h i _ (List.getElem?_eq_getElem hi)
  have h2 := h j _ (List.getElem?_eq_getElem hj)
  rw [e, h2] at h1
  exact inj i j lt hj h1.symm
theorem let_at : ∀ m : Nat, m < 26 → (cl "abcdefghijklmnopqrstuvwxyz")[m]? = some (97 + m) := by decide
theorem sgn_at : ∀ m : Nat, m < 36 → (cl "abcdefghijklmnopqrstuvwxyz0123456789")[m]? = some (if m < 26 then 97 + m else 22 + m) := by decide
theorem at_code {z : Str} {i : Int} {c : Nat} (h0 : 0 ≤ i) (h : (cl z)[i.toNat]? = some c) : atI z.cps.toList i = some c := by
  have q : atI z.cps.toList ((i.toNat : Nat) : Int) = some c := atI_nat h
  rwa [show ((i.toNat : Nat) : Int) = i by omega] at q
/-- a sign put into a word at a place -/
theorem put_sign {z : Str} {c : Nat} {i : Int} (h0 : 0 ≤ i) (h1 : i ≤ ((cl z).length : Int)) :
    cl (cutS z none (some i) ++ ⟨#[c]⟩ ++ cutS z (some i) none) = (cl z).take i.toNat ++ c :: (cl z).drop i.toNat := by
  rw [cl_app, cl_app, cl_take z h0, cl_drop z h0, List.append_assoc]
  rfl
theorem put_at {l : List Nat} {c i : Nat} (h : i ≤ l.length) : (l.take i ++ c :: l.drop i)[i]? = some c := by
  rw [List.getElem?_append_right (by rw [List.length_take]; omega), List.length_take, Nat.min_eq_left h, Nat.sub_self]
  rfl
theorem put_len {l : List Nat} {c i : Nat} (h : i ≤ l.length) : (l.take i ++ c :: l.drop i).length = l.length + 1 := by
  rw [List.length_append, List.length_cons, List.length_take, List.length_drop]
  omega
theorem put_mem {l al : List Nat} {c i : Nat} (hc : c ∈ al) (h : ∀ x ∈ l, x ∈ al) : ∀ x ∈ l.take i ++ c :: l.drop i, x ∈ al := fun x hx => by
  rcases List.mem_append.mp hx with hx | hx
  · exact h x (List.mem_of_mem_take hx)
  · rcases List.mem_cons.mp hx with rfl | hx
    · exact hc
    · exact h x (List.mem_of_mem_drop hx)
/-! ### comprehensions, item by item -/
theorem lc_bagI {J : It} {n : Nat} {G : Hp → Prop} {Y : Nat → Hp → V → Hp → Prop} (w : Walk J n G Y) {g : TG} {tt : TT} {te : TE} {vs : List Nat} {σ : L2.St} {H1 : Hp} {D b l : Addr} {Qd : Hp → Prop} (S : List Addr) (hS : b ∈ S) (hb : Bag H1 b l) (hD : H1 D = none) (P : Nat → V → Hp → Prop) (hP : ∀ i y H H', Same H H' → P i y H → P i y H') (hG : ∀ H, Bx b l H1 H → G H) (hn : n < 100000)
    (hs : ∀ i x H H' (Qe : V → Hp → Prop) (Z : Hp → Prop), i < n → Bx b l H1 H → Same (dl H1 S) (dl H (D :: S)) → (∃ xs, H D = some (.lst xs)) → (∀ y H4, Bx b l H H4 → P i y (dl H4 (D :: S)) → Qe y H4) → Y i H x H' → g x (wipe σ vs) H' fun σ2 H2 => wipe σ2 vs = wipe σ vs ∧ tt σ2 H2 fun bb H3 => if bb = true then te σ2 H3 Qe else Z H3)
    (hd : ∀ H ys, Bx b l H1 H → ys.length = n → H D = some (.lst ys) → (∀ (i : Nat) y, ys[i]? = some y → P i y (dl H (D :: S))) → Qd H) :
    ∃ W : Nat → Nat → Hp → Prop, (∃ m, W 0 m (upd H1 D (.lst []))) ∧ ∀ i m H, W i m H →
      (J.stop i H ∧ Qd H) ∨ (J.go i H ∧ ∃ Nx : Hp → Prop, (∀ H', Nx H' → ∃ m', m' < m ∧ W (i + 1) m' H') ∧ ∀ x H', J.yld i H x H' → g x (wipe σ vs) H' fun σ2 H2 => wipe σ2 vs = wipe σ vs ∧ tt σ2 H2 fun b H3 =>
        if b = true then te σ2 H3 fun y H4 => ∃ acc, H4 D = some (.lst acc) ∧ acc.length < sizeLine ∧ Nx (upd H4 D (.lst (acc ++ [y]))) else Nx H3) := by
  have nD : D ≠ b := hb.ne_new hD
  have nL : D ≠ l := hb.ne_newl hD
  refine lc_it w (fun i H => Bx b l H1 H ∧ ∃ ys, H D = some (.lst ys) ∧ ys.length = i ∧ ∀ (i : Nat) y, ys[i]? = some y → P i y (dl H (D :: S))) ⟨Bx.new hb hD, [], upd_same, rfl, fun _ _ h => by simp at h⟩ (fun i H _ h => hG H h.1) ?_ ?_
  · rintro i x H H' hi ⟨bx, ys, hy, hl, hp⟩ y
    refine hs i x H H' _ _ hi bx (fun a o e => ?_) ⟨ys, hy⟩ (fun y H4 b4 p4 => ⟨ys, b4.keep D _ nD hy, szt (by omega), ⟨b4.bag.of (upd_ne nD.symm) (upd_ne nL.symm), fun a o n e => ?_⟩, ys ++ [y], upd_same, by simp [hl], fun j z hz => ?_⟩) y
    · obtain ⟨h1, h2⟩ := dl_some e
      rw [dl_ne (fun z => (List.mem_cons.mp z).elim (fun z => ne_of_none h2 hD z) h1)]
      exact bx.keep a o (fun z => h1 (by rw [z]; exact hS)) h2
    · rw [upd_ne (ne_of_none e hD)]
      exact b4.keep a o n (bx.keep a o n e)
    · rw [dl_upd List.mem_cons_self]
      by_cases hj : j < ys.length
      · rw [List.getElem?_append_left hj] at hz
        exact hP j z _ _ (b4.same (List.mem_cons_of_mem _ hS)) (hp j z hz)
      · have ej : j = i := by
          have := (List.getElem?_eq_some_iff.mp hz).1
          rw [List.length_append, List.length_singleton] at this
          omega
        subst ej
        rw [List.getElem?_append_right (by omega), hl, Nat.sub_self] at hz
        cases hz
        exact p4
  · rintro H ⟨bx, ys, hy, hl, hp⟩
    exact hd H ys bx hl hy hp
theorem lc_filt {J : It} {G : Hp → Prop} {xs : List V} (w : Walk J xs.length G (YAt xs)) {g : TG} {tt : TT} {te : TE} {vs : List Nat} {σ : L2.St} {H1 : Hp} {D : Addr} {Qd : Hp → Prop} (hD : H1 D = none) (f : V → V) (p : V → Bool) (hG : ∀ H, Same H1 H → G H) (hn : xs.length < 100000)
    (hs : ∀ (i : Nat) x H (R : V → Hp → Prop) (Z : Hp → Prop), xs[i]? = some x → Same H1 H → (p x = true → ∀ H4, Same H H4 → R (f x) H4) → (p x = false → ∀ H4, Same H H4 → Z H4) → g x (wipe σ vs) H fun σ2 H2 => wipe σ2 vs = wipe σ vs ∧ tt σ2 H2 fun b H3 => if b = true then te σ2 H3 R else Z H3)
    (hd : ∀ H, Same H1 H → H D = some (.lst ((xs.filter p).map f)) → Qd H) :
    ∃ W : Nat → Nat → Hp → Prop, (∃ m, W 0 m (upd H1 D (.lst []))) ∧ ∀ i m H, W i m H →
      (J.stop i H ∧ Qd H) ∨ (J.go i H ∧ ∃ Nx : Hp → Prop, (∀ H', Nx H' → ∃ m', m' < m ∧ W (i + 1) m' H') ∧ ∀ x H', J.yld i H x H' → g x (wipe σ vs) H' fun σ2 H2 => wipe σ2 vs = wipe σ vs ∧ tt σ2 H2 fun b H3 =>
        if b = true then te σ2 H3 fun y H4 => ∃ acc, H4 D = some (.lst acc) ∧ acc.length < sizeLine ∧ Nx (upd H4 D (.lst (acc ++ [y]))) else Nx H3) := by
  refine lc_it w (fun i H => Same H1 H ∧ H D = some (.lst (((xs.take i).filter p).map f))) ⟨same_new hD, by rw [upd_same]; rfl⟩ (fun i H _ h => hG H h.1) ?_ ?_
  · rintro i x H H' hi ⟨sm, hy⟩ ⟨rfl, hx⟩
    have et : xs.take (i + 1) = xs.take i ++ [x] := by rw [List.take_add_one, hx]; rfl
    refine hs i x H' _ _ hx sm (fun hp H4 s4 => ⟨_, s4 _ _ hy, szt ?_, fun a o e => ?_, ?_⟩) fun hp H4 s4 => ⟨sm.trans s4, ?_⟩
    · rw [List.length_map]
      refine Nat.lt_of_le_of_lt (List.length_filter_le _ _) ?_
      rw [List.length_take]
      omega
    · rw [upd_ne (ne_of_none e hD)]
      exact s4 _ _ (sm _ _ e)
    · rw [upd_same, et, List.filter_append, List.map_append, List.filter_cons, hp]
      rfl
    · rw [s4 _ _ hy, et, List.filter_append, List.filter_cons, hp]
      simp
  · rintro H ⟨sm, hy⟩
    rw [List.take_length] at hy
    exact hd H sm hy
theorem eqv_nil (ds : List PyData) : PyData.eqv (.list ds) (.list []) = ds.isEmpty := by
  cases ds <;> simp [PyData.eqv, PyData.eqvAll]
/-! ### fields as data -/
abbrev Fld := Str × List Str
def fldD (f : Fld) : PyData := .tuple [.str f.1, .list (f.2.map PyData.str)]
def fldsD (fs : List Fld) : PyData := .list (fs.map fldD)
theorem dpa_strs {K : PySem.W.Frag} {H : Hp} : ∀ (ss : List Str), DpAll K H (ss.map V.str) (ss.map PyData.str)
  | [] => .nil
  | s :: r => .cons (.str s) (dpa_strs r)
theorem dpa_of {K : PySem.W.Frag} {H : Hp} : ∀ {vs : List V} {ds : List PyData}, vs.length = ds.length → (∀ (i : Nat) v d, vs[i]? = some v → ds[i]? = some d → Dp K H v d) → DpAll K H vs ds
  | [], [], _, _ => .nil
  | v :: vs, d :: ds, hl, h => .cons (h 0 v d rfl rfl) (dpa_of (by simpa using hl) fun i x y h1 h2 => h (i + 1) x y h1 h2)
  | [], _ :: _, hl, _ => by simp at hl
  | _ :: _, [], hl, _ => by simp at hl
/-! ### the rules that speak of the written part, by its own letter -/
def rLenSeq (K : PySem.W.Frag) : List V → Hp → VK → Prop := fun xs H Q => ∃ p ys, xs = [.ref p] ∧ (SqL K H p ys ∨ SqT K H p ys) ∧ Q (.int ys.length) H
def rListOf (K : PySem.W.Frag) : List V → Hp → VK → Prop := fun xs H Q => ∃ p ys, xs = [.ref p] ∧ (SqL K H p ys ∨ SqT K H p ys) ∧ ∀ l, H l = none → Q (.ref l) (upd H l (.lst ys))
def rTupleOf (K : PySem.W.Frag) : List V → Hp → VK → Prop := fun xs H Q => ∃ p ys, xs = [.ref p] ∧ ((SqL K H p ys ∧ ∀ l, H l = none → Q (.ref l) (upd H l (.tup ys))) ∨ (SqT K H p ys ∧ Q (.ref p) H))
section
variable {X : Cx} {K : PySem.W.Frag} {tg l : Expr} {tl : TE}
theorem ix_listK (e : X.K = K := by rfl) : IxR X (rIxL K) := e ▸ ix_list
theorem ix_tupK (e : X.K = K := by rfl) : IxR X (rIxT K) := e ▸ ix_tup
theorem ix_seqK (e : X.K = K := by rfl) : IxR X (rIx K) := e ▸ ix_seq
theorem sl_listK (e : X.K = K := by rfl) : SlR X (rSlL K) := e ▸ sl_list
theorem sl_tupK (e : X.K = K := by rfl) : SlR X (rSlA K) := e ▸ sl_tupA
theorem op_in_seqK (e : X.K = K := by rfl) : OpR X (compareOp .In) (rIn K false) := e ▸ op_in_seq
theorem op_notIn_seqK (e : X.K = K := by rfl) : OpR X (compareOp .NotIn) (rIn K true) := e ▸ op_notIn_seq
theorem op_eqDK (hu : X.A.units + 64 < cLine) (e : X.K = K := by rfl) : OpR X (compareOp .Eq) (rEqD K) := e ▸ op_eqD hu
theorem op_neDK (hu : X.A.units + 64 < cLine) (e : X.K = K := by rfl) : OpR X (compareOp .NotEq) (rNeD K) := e ▸ op_neD hu
theorem op_inDK (hu : X.A.units + 65 < cLine) (e : X.K = K := by rfl) : OpR X (compareOp .In) (rInD K) := e ▸ op_inD hu
theorem op_notInDK (hu : X.A.units + 65 < cLine) (e : X.K = K := by rfl) : OpR X (compareOp .NotIn) (rNotInD K) := e ▸ op_notInD hu
theorem op_catTK (e : X.K = K := by rfl) : OpR X (binaryOp .Add) (rCatT K) := e ▸ op_catT
theorem call_len_seqK (e : X.K = K := by rfl) : CallR X (.builtin "len") (rLenSeq K) := e ▸ call_len_seq
theorem call_list_ofK (e : X.K = K := by rfl) : CallR X (.type "list") (rListOf K) := e ▸ call_list_of
theorem call_tuple_ofK (e : X.K = K := by rfl) : CallR X (.type "tuple") (rTupleOf K) := e ▸ call_tuple_of
theorem call_isiK' (e : X.K = K := by rfl) : CallR X (.builtin "isinstance") (rIsi K) := e ▸ call_isi
theorem call_isiTK (e : X.K = K := by rfl) : CallR X (.builtin "isinstance") (rIsiT K) := e ▸ call_isiT
theorem cr_allK (hc : X.calm = true) (e : X.K = K := by rfl) : CallR X (.builtin "all") (rAll K) := e ▸ cr_all hc
theorem cr_anyK (hc : X.calm = true) (e : X.K = K := by rfl) : CallR X (.builtin "any") (rAny K) := e ▸ cr_any hc
theorem cr_sumK (hc : X.calm = true) (e : X.K = K := by rfl) : CallR X (.builtin "sum") (rSum K) := e ▸ cr_sum hc
theorem cr_maxDK (hc : X.calm = true) (hu : X.A.units + 64 < cLine) (e : X.K = K := by rfl) : CallRK X (.builtin "max") [Str.ofString "default"] (rMaxD K) := e ▸ cr_maxD hc hu
theorem pi_listK (hl : PE X l tl) (e : X.K = K := by rfl) : PI X tg l (iList K tl) := e ▸ pi_list hl
theorem pi_tupK (hl : PE X l tl) (e : X.K = K := by rfl) : PI X tg l (iTup K tl) := e ▸ pi_tup hl
end
theorem un65 {k : Nat} {A : Around} (r : Room k A) : A.units + 65 < cLine := by
  have := r.un
  omega
theorem choose_list {α β : Type} : ∀ {xs : List α} {R : Nat → α → β → Prop}, (∀ (i : Nat) x, xs[i]? = some x → ∃ y, R i x y) → ∃ ys : List β, ys.length = xs.length ∧ ∀ (i : Nat) x y, xs[i]? = some x → ys[i]? = some y → R i x y
  | [], _, _ => ⟨[], rfl, fun i x y h => by simp at h⟩
  | a :: r, R, h => by
    obtain ⟨b, hb⟩ := h 0 a rfl
    obtain ⟨ys, hl, k⟩ := choose_list (xs := r) (R := fun i => R (i + 1)) fun i x e => h (i + 1) x e
    refine ⟨b :: ys, by rw [List.length_cons, hl, List.length_cons], fun i x y h1 h2 => ?_⟩
    cases i with
    | zero =>
      cases h1
      cases h2
      exact hb
    | succ i => exact k i x y h1 h2
theorem str_at {ss : List Str} {i : Nat} {x : V} (h : (ss.map V.str)[i]? = some x) : ∃ s, ss[i]? = some s ∧ x = .str s := by
  rw [List.getElem?_map] at h
  cases e : ss[i]? with
  | none => rw [e] at h; cases h
  | some s => rw [e] at h; exact ⟨s, rfl, (Option.some.inj h).symm⟩
def notW (s : Str) : Bool := !inV (.str s) [.str "any", .str "none"]
theorem notW_iff {s : Str} : notW s = true ↔ s ≠ "any" ∧ s ≠ "none" := by
  unfold notW inV
  simp [eqV]
  constructor
  · rintro ⟨h1, h2⟩
    exact ⟨fun e => h1 e.symm, fun e => h2 e.symm⟩
  · rintro ⟨h1, h2⟩
    exact ⟨fun e => h1 e.symm, fun e => h2 e.symm⟩
/-! ### data of a bounded depth can be compared -/
mutual
theorem deep_lay : ∀ (n : Nat) (d : PyData), deep n d = true → d.canLay0 = true ∧ d.depth ≤ n
  | 0, d, h => by rw [deep_zero] at h; cases h
  | n + 1, .list ds, h => by
    have k := deepAll_lay n ds (deep_list h).2
    unfold PyData.canLay0 PyData.depth
    exact ⟨k.1, by have := k.2; omega⟩
  | n + 1, .tuple ds, h => by
    have k := deepAll_lay n ds (deep_tuple h).2
    unfold PyData.canLay0 PyData.depth
    exact ⟨k.1, by have := k.2; omega⟩
  | n + 1, .dict _, h => by unfold deep at h; cases h
  | n + 1, .str s, h => by
    unfold deep at h
    unfold PyData.canLay0 PyData.depth
    exact ⟨h, by omega⟩
  | n + 1, .none, _ => by unfold PyData.canLay0 PyData.depth; exact ⟨rfl, by omega⟩
  | n + 1, .bool _, _ => by unfold PyData.canLay0 PyData.depth; exact ⟨rfl, by omega⟩
  | n + 1, .int _, _ => by unfold PyData.canLay0 PyData.depth; exact ⟨rfl, by omega⟩
theorem deepAll_lay : ∀ (n : Nat) (ds : List PyData), deepAll n ds = true → PyData.canLayAll0 ds = true ∧ PyData.depthAll ds ≤ n
  | n, [], _ => by unfold PyData.canLayAll0 PyData.depthAll; exact ⟨rfl, by omega⟩
  | n, d :: ds, h => by
    unfold deepAll at h
    have h' := Bool.and_eq_true_iff.mp h
    have k1 := deep_lay n d h'.1
    have k2 := deepAll_lay n ds h'.2
    unfold PyData.canLayAll0 PyData.depthAll
    exact ⟨by rw [k1.1, k2.1]; rfl, Nat.max_le.mpr ⟨k1.2, k2.2⟩⟩
end
theorem deep_shaped {n : Nat} {d : PyData} (h : deep n d = true) (hn : n ≤ 64) : SeqAt.shaped d = true := by
  have k := deep_lay n d h
  unfold SeqAt.shaped
  rw [k.1, decide_eq_true (by omega)]
  rfl
theorem deepAll_of {n : Nat} : ∀ {ds : List PyData}, (∀ d ∈ ds, deep n d = true) → deepAll n ds = true
  | [], _ => by unfold deepAll; rfl
  | d :: ds, h => by
    unfold deepAll
    rw [h d List.mem_cons_self, deepAll_of fun x hx => h x (List.mem_cons_of_mem _ hx)]
    rfl
theorem deep_list_of {n : Nat} {ds : List PyData} (hl : ds.length < 50000) (h : ∀ d ∈ ds, deep n d = true) : deep (n + 1) (.list ds) = true := by
  unfold deep
  rw [decide_eq_true hl, deepAll_of h]
  rfl
theorem deep_tuple_of {n : Nat} {ds : List PyData} (hl : ds.length < 50000) (h : ∀ d ∈ ds, deep n d = true) : deep (n + 1) (.tuple ds) = true := by
  unfold deep
  rw [decide_eq_true hl, deepAll_of h]
  rfl
theorem deep_str {n : Nat} {s : Str} (h : PySem.PyData.strOk s = true) : deep (n + 1) (.str s) = true := by
  unfold deep
  exact h
theorem strOk_of {s : Str} (h : ∀ c ∈ cl s, c < 1000) : PySem.PyData.strOk s = true := by
  unfold PySem.PyData.strOk
  rw [Array.all_eq_true_iff_forall_mem]
  intro c hc
  have := h c (by simpa using hc)
  exact decide_eq_true (by omega)
theorem small_letter : ∀ c ∈ cl "abcdefghijklmnopqrstuvwxyz0123456789", c < 1000 := by decide
theorem small_letter' : ∀ c ∈ cl "abcdefghijklmnopqrstuvwxyz", c < 1000 := by decide
theorem isNm.ok {s : Str} (h : isNm s) : PySem.PyData.strOk s = true := strOk_of fun c hc => small_letter' c (h.2.2 c hc)
theorem isVl.ok {s : Str} (h : isVl s) : PySem.PyData.strOk s = true := strOk_of fun c hc => small_letter c (h.2.2 c hc)
theorem shaped_strs {ss : List Str} (h : ∀ s ∈ ss, PySem.PyData.strOk s = true) (hl : ss.length < 50000) : SeqAt.shaped (.list (ss.map PyData.str)) = true :=
  deep_shaped (n := 2) (deep_list_of (by rw [List.length_map]; exact hl) fun d hd => by
    obtain ⟨s, hs, rfl⟩ := List.mem_map.mp hd
    exact deep_str (h s hs)) (by decide)
theorem of_seq {K : PySem.W.Frag} {b l a : Addr} {H : Hp} {S : List Addr} {xs : List V} (hb : b ∈ S) (h : SqL K (dl H S) a xs) : ∀ H', Bx b l H H' → SqL K H' a xs ∨ SqT K H' a xs := fun H' bx => .inl (dl_le.seq ((bx.same hb).seq h))
theorem of_new {K : PySem.W.Frag} {b l p : Addr} {H : Hp} {xs : List V} (hb : Bag H b l) (hp : H p = none) : ∀ H', Bx b l (upd H p (.lst xs)) H' → SqL K H' p xs ∨ SqT K H' p xs := fun H' bx => .inl (SqL.of (bx.keep p _ (hb.ne_new hp) upd_same))
end Hr

set_option Elab.async false
set_option linter.all false
set_option maxRecDepth 100000
set_option maxHeartbeats 4000000
namespace Hr
open PySem PySem.Spec PyProof.Rows L2
/-! ### conditions -/
inductive Cd where
  | any
  | test (f v : Str)
  | node (k : Str) (cs : List Cd)
mutual
def toD : Cd → PyData
  | .any => .tuple [.str "any"]
  | .test f v => .tuple [.str "test", .str f, .str v]
  | .node k cs => .tuple (.str k :: toDs cs)
def toDs : List Cd → List PyData
  | [] => []
  | c :: r => toD c :: toDs r
end
theorem toDs_map : ∀ cs, toDs cs = cs.map toD
  | [] => by unfold toDs; rfl
  | c :: r => by unfold toDs; rw [toDs_map r]; rfl
def parts : Cd → List Cd
  | .node _ cs => cs
  | _ => []
mutual
def size : Cd → Nat
  | .any => 1
  | .test _ _ => 1
  | .node _ cs => 1 + sizes cs
def sizes : List Cd → Nat
  | [] => 0
  | c :: r => size c + sizes r
end
mutual
def dep : Cd → Int
  | .any => 1
  | .test _ _ => 1
  | .node _ cs => 1 + maxI (deps cs) 0
def deps : List Cd → List Int
  | [] => []
  | c :: r => dep c :: deps r
end
theorem deps_map : ∀ cs, deps cs = cs.map dep
  | [] => by unfold deps; rfl
  | c :: r => by unfold deps; rw [deps_map r]; rfl
mutual
def allp : Cd → List Cd
  | .any => [.any]
  | .test f v => [.test f v]
  | .node k cs => .node k cs :: allps cs
def allps : List Cd → List Cd
  | [] => []
  | c :: r => allp c ++ allps r
end
mutual
theorem allp_len : ∀ c, (allp c).length = size c
  | .any => by unfold allp size; rfl
  | .test _ _ => by unfold allp size; rfl
  | .node k cs => by unfold allp size; rw [List.length_cons, allps_len cs]; omega
theorem allps_len : ∀ cs, (allps cs).length = sizes cs
  | [] => by unfold allps sizes; rfl
  | c :: r => by unfold allps sizes; rw [List.length_append, allp_len c, allps_len r]
end
theorem sizes_sum : ∀ cs, ((cs.map fun c => (size c : Int)).sum) = (sizes cs : Int)
  | [] => by unfold sizes; rfl
  | c :: r => by unfold sizes; rw [List.map_cons, List.sum_cons, sizes_sum r]; omega
theorem allps_flat : ∀ cs, allps cs = cs.flatMap allp
  | [] => by unfold allps; rfl
  | c :: r => by unfold allps; rw [allps_flat r, List.flatMap_cons]
theorem allp_eq (c : Cd) : allp c = c :: (parts c).flatMap allp := by
  cases c with
  | any => unfold allp parts; rfl
  | test => unfold allp parts; rfl
  | node k cs => unfold allp; rw [allps_flat]; rfl
theorem size_eq (c : Cd) : (size c : Int) = 1 + ((parts c).map fun c => (size c : Int)).sum := by
  cases c with
  | any => unfold size parts; rfl
  | test => unfold size parts; rfl
  | node k cs =>
    rw [show parts (.node k cs) = cs from rfl, sizes_sum, show size (.node k cs) = 1 + sizes cs by rw [size]]
    omega
theorem dep_eq (c : Cd) : dep c = 1 + maxI ((parts c).map dep) 0 := by
  cases c with
  | any => unfold dep parts; rfl
  | test => unfold dep parts; rfl
  | node k cs => unfold dep; rw [deps_map]; rfl
/-- the depth is at most n, nothing is too wide, the kinds are told apart -/
def Wn : Nat → Cd → Prop
  | 0, _ => False
  | _ + 1, .any => True
  | _ + 1, .test f v => PyData.strOk f = true ∧ PyData.strOk v = true
  | n + 1, .node k cs => PyData.strOk k = true ∧ k ≠ "any" ∧ k ≠ "test" ∧ cs.length < 1000 ∧ ∀ c ∈ cs, Wn n c
theorem Wn.parts {n : Nat} {c : Cd} (h : Wn (n + 1) c) : (parts c).length < 1000 ∧ ∀ p ∈ parts c, Wn n p := by
  cases c with
  | any => exact ⟨by decide, fun _ h => nomatch h⟩
  | test => exact ⟨by show 0 < 1000; decide, fun _ h => nomatch h⟩
  | node k cs => exact ⟨h.2.2.2.1, h.2.2.2.2⟩
theorem Wn.deep : ∀ {n : Nat} {c : Cd}, Wn n c → deep (n + 1) (toD c) = true
  | n + 1, .any, _ => by
    unfold toD
    exact deep_tuple_of (by show 1 < 50000; decide) fun d hd => by
      rw [List.mem_singleton.mp hd]
      exact deep_str (by decide +kernel)
  | n + 1, .test f v, h => by
    unfold toD
    refine deep_tuple_of (by show 3 < 50000; decide) fun d hd => ?_
    rcases List.mem_cons.mp hd with rfl | hd
    · exact deep_str (by decide +kernel)
    · rcases List.mem_cons.mp hd with rfl | hd
      · exact deep_str h.1
      · rw [List.mem_singleton.mp hd]
        exact deep_str h.2
  | n + 1, .node k cs, h => by
    unfold toD
    refine deep_tuple_of (by rw [List.length_cons, toDs_map, List.length_map]; have := h.2.2.2.1; omega) fun d hd => ?_
    rcases List.mem_cons.mp hd with rfl | hd
    · exact deep_str h.1
    · rw [toDs_map] at hd
      obtain ⟨c, hc, rfl⟩ := List.mem_map.mp hd
      exact Wn.deep (h.2.2.2.2 c hc)
/-- a drawn condition over some fields, its depth at most n -/
def Gd (fs : List Fld) : Nat → Cd → Prop
  | 0, _ => False
  | _ + 1, .any => True
  | _ + 1, .test f v => ∃ fl ∈ fs, fl.1 = f ∧ v ∈ fl.2
  | n + 1, .node k cs => (k = "not" ∧ cs.length = 1 ∨ (k = "and" ∨ k = "or") ∧ 2 ≤ cs.length ∧ cs.length ≤ 3) ∧ ∀ c ∈ cs, Gd fs n c
/-! ### tests without duplicates -/
section
variable {α : Type} [DecidableEq α]
def addN (acc : List α) (x : α) : List α := if x ∈ acc then acc else acc ++ [x]
def dd (l : List α) : List α := l.foldl addN []
theorem mem_addN {acc : List α} {x y : α} : y ∈ addN acc x ↔ y ∈ acc ∨ y = x := by
  unfold addN
  by_cases h : x ∈ acc
  · rw [if_pos h]
    constructor
    · exact .inl
    · rintro (k | rfl)
      · exact k
      · exact h
  · rw [if_neg h, List.mem_append, List.mem_singleton]
theorem mem_foldN {y : α} : ∀ (l acc : List α), y ∈ l.foldl addN acc ↔ y ∈ acc ∨ y ∈ l
  | [], acc => by simp
  | x :: r, acc => by
    rw [List.foldl_cons, mem_foldN r, mem_addN, List.mem_cons, or_assoc]
theorem fold_snoc (l acc : List α) (x : α) : (l ++ [x]).foldl addN acc = addN (l.foldl addN acc) x := by rw [List.foldl_append]; rfl
theorem fold_dd (l : List α) : ∀ acc : List α, (dd l).foldl addN acc = l.foldl addN acc := by
  have key : ∀ (n : Nat) (l : List α), l.length = n → ∀ acc : List α, (dd l).foldl addN acc = l.foldl addN acc := by
    intro n
    induction n with
    | zero =>
      intro l hl acc
      rw [List.eq_nil_of_length_eq_zero hl]
      rfl
    | succ n ih =>
      intro l hl acc
      obtain ⟨r, x, rfl⟩ : ∃ r x, l = r ++ [x] := ⟨l.dropLast, l.getLast (by intro e; rw [e] at hl; cases hl), (List.dropLast_concat_getLast _).symm⟩
      have hr : r.length = n := by simpa using hl
      rw [fold_snoc, show dd (r ++ [x]) = addN (dd r) x from fold_snoc r [] x]
      by_cases h : x ∈ dd r
      · have hx : x ∈ r.foldl addN acc := (mem_foldN r acc).mpr (.inr (by
          have := (mem_foldN r []).mp h
          simpa using this))
        rw [show addN (dd r) x = dd r from if_pos h, show addN (r.foldl addN acc) x = _ from if_pos hx]
        exact ih r hr acc
      · rw [show addN (dd r) x = dd r ++ [x] from if_neg h, fold_snoc, ih r hr acc]
  exact key l.length l rfl
end
abbrev Pr := Str × Str
def prD (p : Pr) : PyData := .tuple [.str p.1, .str p.2]
def own (c : Cd) : List Pr := match c with
  | .test f v => [(f, v)]
  | _ => []
def tl (c : Cd) : List Pr := (allp c).flatMap own
def tests (c : Cd) : List Pr := dd (tl c)
theorem tl_eq (c : Cd) : tl c = own c ++ (parts c).flatMap tl := by
  unfold tl
  rw [allp_eq, List.flatMap_cons, List.flatMap_assoc]
theorem fold_flat (g : Cd → List Pr) : ∀ (cs : List Cd) (acc : List Pr), (cs.flatMap fun c => dd (g c)).foldl addN acc = (cs.flatMap g).foldl addN acc
  | [], acc => rfl
  | c :: r, acc => by rw [List.flatMap_cons, List.flatMap_cons, List.foldl_append, List.foldl_append, fold_dd, fold_flat g r]
/-- the law's own way, level by level -/
theorem tests_node {c : Cd} (h : own c = []) : tests c = ((parts c).flatMap tests).foldl addN [] := by
  unfold tests
  rw [fold_flat tl, tl_eq, h]
  rfl
theorem eqv_pr (p q : Pr) : PyData.eqv (prD p) (prD q) = decide (p = q) := by
  unfold prD
  obtain ⟨a, b⟩ := p
  obtain ⟨c, d⟩ := q
  simp only [PyData.eqv, PyData.eqvAll, Bool.and_true]
  rw [Bool.eq_iff_iff]
  simp
theorem any_pr (acc : List Pr) (x : Pr) : ((acc.map prD).any fun z => PyData.eqv z (prD x)) = decide (x ∈ acc) := by
  rw [List.any_map, Bool.eq_iff_iff, List.any_eq_true]
  simp only [Function.comp, eqv_pr, decide_eq_true_eq]
  constructor
  · rintro ⟨y, hy, rfl⟩
    exact hy
  · exact fun h => ⟨x, h, rfl⟩
/-! ### more of trees -/
theorem cut_tail (x : V) (xs : List V) : cutV (x :: xs) (some 1) none = xs := by
  unfold cutV
  rw [show HT.sIx (x :: xs).length 0 (some 1) = min 1 (x :: xs).length from HT.sIx_nat _ 0 1, HT.sIx_none, show min 1 (x :: xs).length = 1 by rw [List.length_cons]; omega]
  show List.take ((x :: xs).length - 1) xs = xs
  rw [List.length_cons, Nat.add_sub_cancel]
  exact List.take_length
theorem cut_tail_ne (x : V) (xs : List V) : ¬ (HT.sIx (x :: xs).length 0 (some 1) = 0 ∧ HT.sIx (x :: xs).length (x :: xs).length none = (x :: xs).length) := by
  rintro ⟨h, _⟩
  rw [show HT.sIx (x :: xs).length 0 (some 1) = min 1 (x :: xs).length from HT.sIx_nat _ 0 1, List.length_cons] at h
  omega
def leafW (k : Str) : Bool := inV (.str k) [.str "any", .str "test"]
theorem leafW_no {k : Str} (h1 : k ≠ "any") (h2 : k ≠ "test") : leafW k = false := by
  unfold leafW inV
  simp [eqV]
  exact ⟨fun e => h1 e.symm, fun e => h2 e.symm⟩
theorem tree_open {K : PySem.W.Frag} {H : Hp} {v : V} {c : Cd} {n : Nat} (h : Dp K H v (toD c)) (w : Wn (n + 1) c) :
    ∃ (a : Addr) (k : Str) (xs : List V), v = .ref a ∧ SqT K H a (.str k :: xs) ∧ (leafW k = true → parts c = []) ∧ (leafW k = false → DpAll K H xs ((parts c).map toD)) ∧ (k = "test" → ∃ f g, c = .test f g ∧ xs = [.str f, .str g]) ∧ (k ≠ "test" → own c = []) := by
  cases c with
  | any =>
    unfold toD at h
    cases h with
    | tup hs ha =>
      cases ha with
      | cons h1 h2 =>
        cases h1
        cases h2
        exact ⟨_, _, _, rfl, hs, fun _ => rfl, fun e => absurd e (by decide), fun e => absurd e (by decide), fun _ => rfl⟩
  | test f g =>
    unfold toD at h
    cases h with
    | tup hs ha =>
      cases ha with
      | cons h1 h2 =>
        cases h1
        cases h2 with
        | cons h3 h4 =>
          cases h3
          cases h4 with
          | cons h5 h6 =>
            cases h5
            cases h6
            exact ⟨_, _, _, rfl, hs, fun _ => rfl, fun e => absurd e (by decide), fun _ => ⟨f, g, rfl, rfl⟩, fun e => absurd rfl e⟩
  | node k cs =>
    unfold toD at h
    rw [toDs_map] at h
    cases h with
    | tup hs ha =>
      cases ha with
      | cons h1 h2 =>
        cases h1
        have lw := leafW_no w.2.1 w.2.2.1
        exact ⟨_, _, _, rfl, hs, fun e => by rw [lw] at e; (cases e), fun _ => h2, fun e => absurd e w.2.2.1, fun _ => rfl⟩
theorem Wn.some {n : Nat} {c : Cd} (h : Wn n c) : ∃ m, n = m + 1 := by
  cases n with
  | zero => exact h.elim
  | succ m => exact ⟨m, rfl⟩
theorem size_part {c p : Cd} (h : p ∈ parts c) : size p < size c := by
  have e := size_eq c
  have : (size p : Int) ≤ ((parts c).map fun c => (size c : Int)).sum := by
    generalize parts c = l at h
    clear e
    induction l with
    | nil => cases h
    | cons x r ih =>
      rw [List.map_cons, List.sum_cons]
      have hr : (0 : Int) ≤ (r.map fun c => (size c : Int)).sum := by
        clear ih h
        induction r with
        | nil => exact Int.le_refl 0
        | cons y s ih => rw [List.map_cons, List.sum_cons]; omega
      rcases List.mem_cons.mp h with rfl | h
      · omega
      · have := ih h
        omega
  omega
/-- what is drawn is well formed -/
theorem Gd.wn {fs : List Fld} (hf : ∀ f ∈ fs, PyData.strOk f.1 = true ∧ ∀ m ∈ f.2, PyData.strOk m = true) : ∀ {n : Nat} {c : Cd}, Gd fs n c → Wn n c
  | n + 1, .any, _ => trivial
  | n + 1, .test f v, h => by
    obtain ⟨fl, hfl, rfl, hv⟩ := h
    exact ⟨(hf fl hfl).1, (hf fl hfl).2 v hv⟩
  | n + 1, .node k cs, h => by
    refine ⟨?_, ?_, ?_, ?_, fun c hc => Gd.wn hf (h.2 c hc)⟩
    · rcases h.1 with ⟨rfl, _⟩ | ⟨rfl | rfl, _⟩ <;> decide +kernel
    · rcases h.1 with ⟨rfl, _⟩ | ⟨rfl | rfl, _⟩ <;> decide
    · rcases h.1 with ⟨rfl, _⟩ | ⟨rfl | rfl, _⟩ <;> decide
    · rcases h.1 with ⟨_, h⟩ | ⟨_, _, h⟩ <;> omega
theorem Gd.up {fs : List Fld} : ∀ {n : Nat} {c : Cd}, Gd fs n c → Gd fs (n + 1) c
  | n + 1, .any, _ => trivial
  | n + 1, .test f v, h => h
  | n + 1, .node k cs, h => ⟨h.1, fun c hc => Gd.up (h.2 c hc)⟩
theorem Gd.ups {fs : List Fld} {n m : Nat} {c : Cd} (h : Gd fs n c) (hm : n ≤ m) : Gd fs m c := by
  induction hm with
  | refl => exact h
  | step _ ih => exact ih.up
theorem gd_size {fs : List Fld} : ∀ {n : Nat} {c : Cd}, Gd fs n c → 2 * size c + 1 ≤ 3 ^ n
  | n + 1, .any, _ => by
    have : 0 < 3 ^ n := Nat.pow_pos (by decide)
    show 2 * size .any + 1 ≤ _
    rw [Nat.pow_succ, show size .any = 1 by rw [size]]
    omega
  | n + 1, .test f v, _ => by
    have : 0 < 3 ^ n := Nat.pow_pos (by decide)
    rw [Nat.pow_succ, show size (.test f v) = 1 by rw [size]]
    omega
  | n + 1, .node k cs, h => by
    have hl : cs.length ≤ 3 := by rcases h.1 with ⟨_, h⟩ | ⟨_, _, h⟩ <;> omega
    have hs : ∀ (l : List Cd), (∀ c ∈ l, 2 * size c + 1 ≤ 3 ^ n) → 2 * sizes l + l.length ≤ l.length * 3 ^ n := by
      intro l
      induction l with
      | nil => intro _; rw [sizes]; simp
      | cons x r ih =>
        intro hx
        have h1 := hx x List.mem_cons_self
        have h2 := ih fun c hc => hx c (List.mem_cons_of_mem _ hc)
        rw [sizes, List.length_cons, Nat.add_mul, Nat.one_mul]
        omega
    have k1 := hs cs fun c hc => gd_size (h.2 c hc)
    have k2 : cs.length * 3 ^ n ≤ 3 * 3 ^ n := Nat.mul_le_mul_right _ hl
    have h1 : 1 ≤ cs.length := by rcases h.1 with ⟨_, h⟩ | ⟨_, h, _⟩ <;> omega
    rw [Nat.pow_succ, show size (.node k cs) = 1 + sizes cs by rw [size]]
    by_cases hc : cs.length = 3
    · omega
    · have k3 : cs.length * 3 ^ n ≤ 2 * 3 ^ n := Nat.mul_le_mul_right _ (by omega)
      have : 0 < 3 ^ n := Nat.pow_pos (by decide)
      have g : n ≠ 0 := by
        rintro rfl
        obtain ⟨c, hc⟩ := List.exists_mem_of_length_pos (show 0 < cs.length by omega)
        exact h.2 c hc
      have : 3 ≤ 3 ^ n := by
        cases n with
        | zero => exact absurd rfl g
        | succ m =>
          have : 0 < 3 ^ m := Nat.pow_pos (by decide)
          rw [Nat.pow_succ]
          omega
      omega
theorem tests_ok : ∀ {n : Nat} {c : Cd}, Wn n c → ∀ p ∈ tl c, PyData.strOk p.1 = true ∧ PyData.strOk p.2 = true
  | n + 1, c, h, p, hp => by
    rw [tl_eq, List.mem_append] at hp
    rcases hp with hp | hp
    · cases c with
      | any => cases hp
      | test f v =>
        rw [List.mem_singleton.mp hp]
        exact h
      | node k cs => cases hp
    · obtain ⟨q, hq, hp⟩ := List.mem_flatMap.mp hp
      exact tests_ok (h.parts.2 q hq) p hp
theorem mem_dd {l : List Pr} {p : Pr} : p ∈ dd l ↔ p ∈ l := by
  unfold dd
  rw [mem_foldN]
  simp
theorem prs_deep {l : List Pr} {n : Nat} (hl : l.length < 50000) (h : ∀ p ∈ l, PyData.strOk p.1 = true ∧ PyData.strOk p.2 = true) : deep (n + 3) (.list (l.map prD)) = true := by
  refine deep_list_of (by rw [List.length_map]; exact hl) fun d hd => ?_
  obtain ⟨p, hp, rfl⟩ := List.mem_map.mp hd
  have k := h p hp
  unfold prD
  refine deep_tuple_of (by show 2 < 50000; decide) fun d hd => ?_
  rcases List.mem_cons.mp hd with rfl | hd
  · exact deep_str k.1
  · rw [List.mem_singleton.mp hd]
    exact deep_str k.2
theorem pr_deep {p : Pr} {n : Nat} (k : PyData.strOk p.1 = true ∧ PyData.strOk p.2 = true) : deep (n + 2) (prD p) = true := by
  unfold prD
  refine deep_tuple_of (by show 2 < 50000; decide) fun d hd => ?_
  rcases List.mem_cons.mp hd with rfl | hd
  · exact deep_str k.1
  · rw [List.mem_singleton.mp hd]
    exact deep_str k.2
theorem dd_le (l : List Pr) : (dd l).length ≤ l.length := by
  have key : ∀ (l acc : List Pr), (l.foldl addN acc).length ≤ acc.length + l.length := by
    intro l
    induction l with
    | nil => intro acc; simp
    | cons x r ih =>
      intro acc
      rw [List.foldl_cons, List.length_cons]
      refine Nat.le_trans (ih _) ?_
      unfold addN
      split
      · omega
      · rw [List.length_append, List.length_singleton]; omega
  have := key l []
  simpa [dd] using this
theorem tl_le (c : Cd) : (tl c).length ≤ size c := by
  unfold tl
  rw [← allp_len]
  generalize allp c = l
  induction l with
  | nil => exact Nat.le_refl _
  | cons x r ih =>
    rw [List.flatMap_cons, List.length_append, List.length_cons]
    have : (own x).length ≤ 1 := by cases x <;> simp [own]
    omega
/-! ### a comprehension over a list whose items stand for things -/
theorem lc_each {β : Type} {J : It} {G : Hp → Prop} {xs : List V} (bs : List β) (hl : xs.length = bs.length) (w : Walk J xs.length G (YAt xs)) {g : TG} {tt : TT} {te : TE} {vs : List Nat} {σ : L2.St} {H1 : Hp} {D : Addr} {Qd : Hp → Prop} (hD : H1 D = none) (f : β → V) (hG : ∀ H, Same H1 H → G H) (hn : xs.length < 100000)
    (hs : ∀ (i : Nat) x bb H (Qe : V → Hp → Prop) (Z : Hp → Prop), xs[i]? = some x → bs[i]? = some bb → Same H1 H → (∀ H4, Same H H4 → Qe (f bb) H4) → g x (wipe σ vs) H fun σ2 H2 => wipe σ2 vs = wipe σ vs ∧ tt σ2 H2 fun b H3 => if b = true then te σ2 H3 Qe else Z H3)
    (hd : ∀ H, Same H1 H → H D = some (.lst (bs.map f)) → Qd H) :
    ∃ W : Nat → Nat → Hp → Prop, (∃ m, W 0 m (upd H1 D (.lst []))) ∧ ∀ i m H, W i m H →
      (J.stop i H ∧ Qd H) ∨ (J.go i H ∧ ∃ Nx : Hp → Prop, (∀ H', Nx H' → ∃ m', m' < m ∧ W (i + 1) m' H') ∧ ∀ x H', J.yld i H x H' → g x (wipe σ vs) H' fun σ2 H2 => wipe σ2 vs = wipe σ vs ∧ tt σ2 H2 fun b H3 =>
        if b = true then te σ2 H3 fun y H4 => ∃ acc, H4 D = some (.lst acc) ∧ acc.length < sizeLine ∧ Nx (upd H4 D (.lst (acc ++ [y]))) else Nx H3) := by
  refine lc_it w (fun i H => Same H1 H ∧ H D = some (.lst ((bs.take i).map f))) ⟨same_new hD, by rw [upd_same]; rfl⟩ (fun i H _ h => hG H h.1) ?_ ?_
  · rintro i x H H' hi ⟨sm, hy⟩ ⟨rfl, hx⟩
    have hib : i < bs.length := by omega
    have hb := List.getElem?_eq_getElem hib
    refine hs i x _ H' _ _ hx hb sm fun H4 s4 => ⟨_, s4 _ _ hy, szt ?_, fun a o e => ?_, ?_⟩
    · rw [List.length_map, List.length_take]
      omega
    · rw [upd_ne (ne_of_none e hD)]
      exact s4 _ _ (sm _ _ e)
    · rw [upd_same, List.take_add_one, hb, List.map_append]
      rfl
  · rintro H ⟨sm, hy⟩
    rw [hl, List.take_length] at hy
    exact hd H sm hy
theorem dpa_len' {K : PySem.W.Frag} {H : Hp} {β : Type} {vs : List V} {bs : List β} {f : β → PyData} (h : DpAll K H vs (bs.map f)) : vs.length = bs.length := by rw [dpa_len h, List.length_map]
theorem dpa_get' {K : PySem.W.Frag} {H : Hp} {β : Type} {vs : List V} {bs : List β} {f : β → PyData} {i : Nat} {v : V} {x : β} (h : DpAll K H vs (bs.map f)) (hv : vs[i]? = some v) (hb : bs[i]? = some x) : Dp K H v (f x) := by
  obtain ⟨d, h1, h2⟩ := dpa_get h hv
  rw [List.getElem?_map, hb] at h1
  cases h1
  exact h2
theorem dpa_app {K : PySem.W.Frag} {H : Hp} : ∀ {vs ws : List V} {ds es : List PyData}, DpAll K H vs ds → DpAll K H ws es → DpAll K H (vs ++ ws) (ds ++ es)
  | _, _, _, _, .nil, h => h
  | _, _, _, _, .cons h t, k => .cons h (dpa_app t k)
theorem at0 {α : Type} (x : α) (xs : List α) : atI (x :: xs) 0 = some x := atI_nat (j := 0) rfl
theorem take_allp (l : List Cd) (k : Nat) : ((l.take k).flatMap allp).length ≤ (l.flatMap allp).length := by
  have e : l.flatMap allp = (l.take k).flatMap allp ++ (l.drop k).flatMap allp := by rw [← List.flatMap_append, List.take_append_drop]
  rw [e, List.length_append]
  omega
theorem wn_all : ∀ {n : Nat} {c : Cd}, Wn n c → ∀ p ∈ allp c, ∃ m, Wn (m + 1) p
  | n + 1, c, h, p, hp => by
    rw [allp_eq, List.mem_cons] at hp
    rcases hp with rfl | hp
    · exact ⟨n, h⟩
    · obtain ⟨q, hq, hp⟩ := List.mem_flatMap.mp hp
      exact wn_all (h.parts.2 q hq) p hp
theorem own_sub {c : Cd} {i : Nat} {p : Pr} (h : p ∈ dd (((allp c).take i).flatMap own)) : p ∈ tl c := by
  rw [mem_dd] at h
  obtain ⟨q, hq, hp⟩ := List.mem_flatMap.mp h
  exact List.mem_flatMap.mpr ⟨q, List.mem_of_mem_take hq, hp⟩
theorem own_le {c : Cd} {i : Nat} : (dd (((allp c).take i).flatMap own)).length ≤ size c := by
  refine Nat.le_trans (dd_le _) ?_
  rw [← allp_len]
  generalize allp c = l
  have : ∀ l : List Cd, (l.flatMap own).length ≤ l.length := by
    intro l
    induction l with
    | nil => exact Nat.le_refl _
    | cons x r ih =>
      rw [List.flatMap_cons, List.length_append, List.length_cons]
      have : (own x).length ≤ 1 := by cases x <;> simp [own]
      omega
  refine Nat.le_trans (this _) ?_
  rw [List.length_take]
  omega
theorem own_step {c pc : Cd} {i : Nat} (h : (allp c)[i]? = some pc) : ((allp c).take (i + 1)).flatMap own = ((allp c).take i).flatMap own ++ own pc := by
  rw [List.take_add_one, h, List.flatMap_append]
  simp
theorem dd_same {l : List Pr} {x : Pr} (h : x ∈ dd l) : dd (l ++ [x]) = dd l := by
  rw [show dd (l ++ [x]) = addN (dd l) x from fold_snoc l [] x]
  exact if_pos h
theorem dd_more {l : List Pr} {x : Pr} (h : x ∉ dd l) : dd (l ++ [x]) = dd l ++ [x] := by
  rw [show dd (l ++ [x]) = addN (dd l) x from fold_snoc l [] x]
  exact if_neg h
/-- a new object ahead of a hidden list -/
theorem dl1_new {H : Hp} {D p : Addr} {o : HO} (hD : ∃ u, H D = some u) (hp : H p = none) : dl (upd H p o) [D] = upd (dl H [D]) p o := dl_new fun z => by
  rw [List.mem_singleton.mp z] at hp
  obtain ⟨u, e⟩ := hD
  rw [e] at hp
  cases hp
theorem dl1_free {H : Hp} {D p : Addr} (hp : H p = none) : dl H [D] p = none := by
  by_cases z : p ∈ [D]
  · exact dl_at z
  · rw [dl_ne z]; exact hp
theorem tests_le (c : Cd) : (tests c).length ≤ size c := Nat.le_trans (dd_le _) (tl_le c)
theorem tests_sub {c : Cd} {p : Pr} (h : p ∈ tests c) : p ∈ tl c := mem_dd.mp h
theorem tl_part {c q : Cd} {p : Pr} (hq : q ∈ parts c) (h : p ∈ tl q) : p ∈ tl c := by
  rw [tl_eq, List.mem_append]
  exact .inr (List.mem_flatMap.mpr ⟨q, hq, h⟩)
theorem ft_le (c : Cd) (k : Nat) : (((parts c).take k).flatMap tests).length ≤ size c := by
  have h : ∀ l : List Cd, (l.flatMap tests).length ≤ (l.flatMap allp).length := by
    intro l
    induction l with
    | nil => exact Nat.le_refl _
    | cons x r ih =>
      rw [List.flatMap_cons, List.flatMap_cons, List.length_append, List.length_append, allp_len]
      have := tests_le x
      omega
  have h2 := take_allp (parts c) k
  have h3 := allp_len c
  rw [allp_eq, List.length_cons] at h3
  have := h ((parts c).take k)
  omega
theorem fold_le {l acc : List Pr} : (l.foldl addN acc).length ≤ acc.length + l.length := by
  induction l generalizing acc with
  | nil => simp
  | cons x r ih =>
    rw [List.foldl_cons, List.length_cons]
    refine Nat.le_trans ih ?_
    unfold addN
    split
    · omega
    · rw [List.length_append, List.length_singleton]; omega
theorem strs_deep {ss : List Str} {n : Nat} (hl : ss.length < 50000) (h : ∀ s ∈ ss, PyData.strOk s = true) : deep (n + 2) (.list (ss.map PyData.str)) = true := by
  refine deep_list_of (by rw [List.length_map]; exact hl) fun d hd => ?_
  obtain ⟨p, hp, rfl⟩ := List.mem_map.mp hd
  exact deep_str (h p hp)
end Hr

set_option Elab.async false
set_option linter.all false
set_option maxRecDepth 100000
set_option maxHeartbeats 4000000
namespace Hr
open PySem PySem.Spec PyProof.Rows L2
theorem len_le (t : Str) {n : Nat} (h : t.length ≤ n) : t.cps.size ≤ n := h
theorem sign_at {t : Str} {i c : Nat} (h : t.cps[i]? = some c) : t.cps.toList.getD i 0 = c := by
  rw [List.getD_eq_getElem?_getD, Array.getElem?_toList, h]
  rfl
theorem range_getD {α β : Type} (l : List α) (d : α) (f : α → β) : (List.range l.length).map (fun i => f (l.getD i d)) = l.map f := by
  apply List.ext_getElem
  · simp
  · intro i h1 h2
    simp at h1
    simp [List.getD_eq_getElem?_getD, h1]
def allIn (t cs : Str) : Bool := t.cps.toList.all fun c => decide (c ∈ cs.cps.toList)
def consists (t cs : Str) : Bool := decide (1 ≤ (t.length : Int)) && (decide ((t.length : Int) ≤ 8) && allIn t cs)
theorem all_end {K : PySem.W.Frag} {t cs : Str} {H : Hp} {D : Addr} {Q : VK} {n : Nat} (hn : n = t.cps.toList.length) (c1 : decide (1 ≤ (t.length : Int)) = true) (c2 : decide ((t.length : Int) ≤ 8) = true) (hL : H D = some (.lst ((List.range n).map fun i => V.bl (decide (t.cps.toList.getD i 0 ∈ cs.cps.toList))))) (q : Q (.bl (consists t cs)) H) :
    ∃ (a : Addr) (bs : List Bool), [V.ref D] = [V.ref a] ∧ SqL K H a (bs.map V.bl) ∧ Q (.bl (bs.all id)) H := by
  subst hn
  refine ⟨D, (t.cps.toList.map fun c => decide (c ∈ cs.cps.toList)), rfl, .inl (.inl ?_), ?_⟩
  · rw [hL, List.map_map]
    exact congrArg (fun l => some (HO.lst l)) (range_getD t.cps.toList 0 (fun c => V.bl (decide (c ∈ cs.cps.toList))))
  · have e : consists t cs = (t.cps.toList.map fun c => decide (c ∈ cs.cps.toList)).all id := by
      unfold consists allIn
      rw [c1, c2, List.all_map]
      rfl
    exact e ▸ q
def sp_consists : Sp := fun vs H Q _ => ∃ t cs, vs = [.str t, .str cs] ∧ t.length ≤ 50000 ∧ ∀ H', Same H H' → Q (.bl (consists t cs)) H'
def sp_word (cs : Str) : Sp := fun vs H Q _ => ∃ t, vs = [.str t] ∧ t.length ≤ 50000 ∧ ∀ H', Same H H' → Q (.bl (consists t cs)) H'
abbrev nameC : Str := "abcdefghijklmnopqrstuvwxyz"
abbrev valueC : Str := "abcdefghijklmnopqrstuvwxyz0123456789"
theorem bT {c : Bool} {A B : Prop} (h : c = true) (a : A) : if c = true then A else B := by
  rw [if_pos h]
  exact a
theorem bF {c : Bool} {A B : Prop} (h : c = false) (b : B) : if c = true then A else B := by
  rw [h, if_neg Bool.false_ne_true]
  exact b
theorem dec_v {i j : Int} {p : Prop} [Decidable p] (h : i = j ↔ p) : decide (V.int i = V.int j) = decide p := by
  by_cases hp : p
  · rw [decide_eq_true hp, decide_eq_true (congrArg V.int (h.mpr hp))]
  · rw [decide_eq_false hp, decide_eq_false fun e => hp (h.mp (V.int.inj e))]
theorem dec_p {p q : Prop} [Decidable p] [Decidable q] (h : p ↔ q) : decide p = decide q := by
  by_cases hq : q
  · rw [decide_eq_true hq, decide_eq_true (h.mpr hq)]
  · rw [decide_eq_false hq, decide_eq_false fun e => hq (h.mp e)]
theorem two_of {α : Type} {xs : List α} (h : xs.length = 2) : ∃ a b, xs = [a, b] := by
  match xs, h with
  | [a, b], _ => exact ⟨a, b, rfl⟩
theorem one_of {α : Type} {xs : List α} (h : xs.length = 1) : ∃ a, xs = [a] := by
  match xs, h with
  | [a], _ => exact ⟨a, rfl⟩
theorem beq_dec (a k : Str) : (a == k) = decide (k = a) := by
  rw [Bool.eq_iff_iff, beq_iff_eq, decide_eq_true_eq]
  exact eq_comm
theorem in_two (k a b : Str) : inV (.str k) [.str a, .str b] = (decide (k = a) || decide (k = b)) := by
  show ((a == k) || ((b == k) || false)) = _
  rw [beq_dec, beq_dec, Bool.or_false]
/-! ### things: nested tuples of texts whose first item, if any, is a text -/
inductive Th where
  | str (s : Str)
  | nil
  | tup (k : Str) (xs : List Th)
mutual
def toT : Th → PyData
  | .str s => .str s
  | .nil => .tuple []
  | .tup k xs => .tuple (.str k :: toTs xs)
def toTs : List Th → List PyData
  | [] => []
  | t :: r => toT t :: toTs r
end
theorem toTs_map : ∀ ts, toTs ts = ts.map toT
  | [] => by unfold toTs; rfl
  | t :: r => by unfold toTs; rw [toTs_map r]; rfl
def kids : Th → List Th
  | .tup k xs => if leafW k = true then [] else xs
  | _ => []
mutual
def cnt : Th → Nat
  | .str _ => 1
  | .nil => 1
  | .tup k xs => 1 + (if leafW k = true then 0 else cnts xs)
def cnts : List Th → Nat
  | [] => 0
  | t :: r => cnt t + cnts r
end
theorem cnts_sum : ∀ ts, cnts ts = (ts.map cnt).sum
  | [] => by unfold cnts; rfl
  | t :: r => by unfold cnts; rw [cnts_sum r, List.map_cons, List.sum_cons]
theorem cnt_eq (t : Th) : cnt t = 1 + ((kids t).map cnt).sum := by
  cases t with
  | str s => unfold cnt kids; rfl
  | nil => unfold cnt kids; rfl
  | tup k xs =>
    rw [show cnt (.tup k xs) = 1 + (if leafW k = true then 0 else cnts xs) by rw [cnt]]
    rw [show kids (.tup k xs) = if leafW k = true then [] else xs from rfl]
    by_cases h : leafW k = true
    · rw [if_pos h, if_pos h]; rfl
    · rw [if_neg h, if_neg h, cnts_sum]
def fieldOk (f : Str) : Bool := consists f nameC && !decide (f = "any")
def testOk : List Th → Bool
  | [.str f, .str v] => fieldOk f && consists v valueC
  | _ => false
/-- is it a condition if its parts are? -/
def form : Th → Bool
  | .tup k xs => if k = "any" then decide (xs.length = 0) else if k = "test" then testOk xs else if k = "not" then decide (xs.length = 1) else (decide (k = "and") || decide (k = "or")) && decide (2 ≤ xs.length)
  | _ => false
def isT : Nat → Th → Bool
  | 0, _ => false
  | n + 1, t => form t && (kids t).all (isT n)
/-- bounded things -/
def WT : Nat → Th → Prop
  | 0, _ => False
  | _ + 1, .str s => PyData.strOk s = true ∧ s.length ≤ 1000
  | _ + 1, .nil => True
  | n + 1, .tup k xs => (PyData.strOk k = true ∧ k.length ≤ 1000) ∧ xs.length < 1000 ∧ ∀ x ∈ xs, WT n x
theorem WT.deep : ∀ {n : Nat} {t : Th}, WT n t → deep (n + 1) (toT t) = true
  | n + 1, .str s, h => by unfold toT; exact deep_str h.1
  | n + 1, .nil, _ => by unfold toT; exact deep_tuple_of (by show 0 < 50000; decide) fun d hd => nomatch hd
  | n + 1, .tup k xs, h => by
    unfold toT
    refine deep_tuple_of (by rw [List.length_cons, toTs_map, List.length_map]; have := h.2.1; omega) fun d hd => ?_
    rcases List.mem_cons.mp hd with rfl | hd
    · exact deep_str h.1.1
    · rw [toTs_map] at hd
      obtain ⟨c, hc, rfl⟩ := List.mem_map.mp hd
      exact WT.deep (h.2.2 c hc)
theorem WT.up : ∀ {n : Nat} {t : Th}, WT n t → WT (n + 1) t
  | n + 1, .str s, h => h
  | n + 1, .nil, _ => trivial
  | n + 1, .tup k xs, h => ⟨h.1, h.2.1, fun x hx => WT.up (h.2.2 x hx)⟩
theorem WT.ups {n m : Nat} {t : Th} (h : WT n t) (hm : n ≤ m) : WT m t := by
  induction hm with
  | refl => exact h
  | step _ ih => exact ih.up
theorem WT.kids {n : Nat} {t : Th} (h : WT (n + 1) t) : (kids t).length < 1000 ∧ ∀ x ∈ kids t, WT n x := by
  cases t with
  | str s => exact ⟨by show 0 < 1000; decide, fun _ h => nomatch h⟩
  | nil => exact ⟨by show 0 < 1000; decide, fun _ h => nomatch h⟩
  | tup k xs =>
    show (if leafW k = true then [] else xs).length < 1000 ∧ ∀ x ∈ (if leafW k = true then [] else xs), WT n x
    split
    · exact ⟨by show 0 < 1000; decide, fun _ h => nomatch h⟩
    · exact h.2
mutual
def th : Cd → Th
  | .any => .tup "any" []
  | .test f v => .tup "test" [.str f, .str v]
  | .node k cs => .tup k (ths cs)
def ths : List Cd → List Th
  | [] => []
  | c :: r => th c :: ths r
end
theorem ths_map : ∀ cs, ths cs = cs.map th
  | [] => by unfold ths; rfl
  | c :: r => by unfold ths; rw [ths_map r]; rfl
theorem th_toD : ∀ {n : Nat} {c : Cd}, Wn n c → toT (th c) = toD c
  | n + 1, .any, _ => by unfold th toT toTs toD; rfl
  | n + 1, .test f v, _ => by unfold th toT toTs toTs toTs toT toD; rfl
  | n + 1, .node k cs, h => by
    unfold th toT toD
    rw [toTs_map, ths_map, toDs_map, List.map_map]
    congr 2
    exact List.map_congr_left fun c hc => th_toD (h.2.2.2.2 c hc)
/-- what passes is a condition in the narrow sense -/
theorem isT_cd : ∀ (n : Nat) (m : Nat) (t : Th), isT n t = true → WT m t → ∃ c, toD c = toT t ∧ Wn n c ∧ size c = cnt t
  | 0, _, _, h, _ => by cases h
  | _ + 1, 0, _, _, hw => hw.elim
  | n + 1, m + 1, t, h, hw => by
    have h' := Bool.and_eq_true_iff.mp h
    cases t with
    | str s => cases h'.1
    | nil => cases h'.1
    | tup k xs =>
      have hf : (if k = "any" then decide (xs.length = 0) else if k = "test" then testOk xs else if k = "not" then decide (xs.length = 1) else (decide (k = "and") || decide (k = "or")) && decide (2 ≤ xs.length)) = true := h'.1
      have hk := List.all_eq_true.mp h'.2
      by_cases e1 : k = "any"
      · subst e1
        rw [if_pos rfl] at hf
        have e0 : xs = [] := List.eq_nil_of_length_eq_zero (of_decide_eq_true hf)
        subst e0
        exact ⟨.any, by unfold toD toT toTs; rfl, trivial, by rw [size, cnt]; rfl⟩
      · rw [if_neg e1] at hf
        by_cases e2 : k = "test"
        · subst e2
          rw [if_pos rfl] at hf
          match xs, hf, hw with
          | [.str f, .str v], hf, hw =>
            have w1 := hw.2.2 (.str f) (by simp)
            have w2 := hw.2.2 (.str v) (by simp)
            cases m with
            | zero => exact w1.elim
            | succ m => exact ⟨.test f v, by unfold toD toT toTs toTs toTs toT; rfl, ⟨w1.1, w2.1⟩, by rw [size, cnt]; rfl⟩
        · rw [if_neg e2] at hf
          have lw := leafW_no e1 e2
          have ek : kids (.tup k xs) = xs := if_neg (by rw [lw]; decide)
          rw [ek] at hk
          have hcs : ∃ cs : List Cd, cs.map toD = xs.map toT ∧ (∀ c ∈ cs, Wn n c) ∧ sizes cs = cnts xs ∧ cs.length = xs.length := by
            have hx := hw.2.2
            clear hf ek h h' hw
            induction xs with
            | nil => exact ⟨[], rfl, fun _ h => (nomatch h), by rw [sizes, cnts], rfl⟩
            | cons x r ih =>
              obtain ⟨c, c1, c2, c3⟩ := isT_cd n m x (hk x List.mem_cons_self) (hx x List.mem_cons_self)
              obtain ⟨cs, d1, d2, d3, d4⟩ := ih (fun y hy => hk y (List.mem_cons_of_mem _ hy)) fun y hy => hx y (List.mem_cons_of_mem _ hy)
              refine ⟨c :: cs, by rw [List.map_cons, List.map_cons, c1, d1], fun y hy => ?_, by rw [sizes, cnts, c3, d3], by rw [List.length_cons, List.length_cons, d4]⟩
              rcases List.mem_cons.mp hy with rfl | hy
              · exact c2
              · exact d2 y hy
          obtain ⟨cs, d1, d2, d3, d4⟩ := hcs
          refine ⟨.node k cs, ?_, ⟨hw.1.1, e1, e2, by have := hw.2.1; omega, d2⟩, ?_⟩
          · unfold toD toT
            rw [toDs_map, toTs_map, d1]
          · rw [size, cnt, if_neg (by rw [lw]; decide), d3]
theorem Wn.wt : ∀ {n : Nat} {c : Cd}, Wn n c → (∀ p ∈ tl c, p.1.length ≤ 1000 ∧ p.2.length ≤ 1000) → (∀ q ∈ allp c, ∀ k cs, q = .node k cs → k.length ≤ 1000) → WT (n + 1) (th c)
  | n + 1, .any, _, _, _ => by unfold th; exact ⟨⟨by decide +kernel, by decide⟩, by decide, fun _ h => nomatch h⟩
  | n + 1, .test f v, h, hl, _ => by
    unfold th
    have k := hl (f, v) (by rw [tl_eq]; exact List.mem_append_left _ List.mem_cons_self)
    refine ⟨⟨by decide +kernel, by decide⟩, by show 2 < 1000; decide, fun x hx => ?_⟩
    rcases List.mem_cons.mp hx with rfl | hx
    · exact ⟨h.1, k.1⟩
    · rw [List.mem_singleton.mp hx]
      exact ⟨h.2, k.2⟩
  | n + 1, .node k cs, h, hl, hk => by
    unfold th
    rw [ths_map]
    refine ⟨⟨h.1, hk _ (by rw [allp_eq]; exact List.mem_cons_self) k cs rfl⟩, by rw [List.length_map]; exact h.2.2.2.1, fun x hx => ?_⟩
    obtain ⟨c, hc, rfl⟩ := List.mem_map.mp hx
    refine Wn.wt (h.2.2.2.2 c hc) (fun p hp => hl p (tl_part (c := .node k cs) hc hp)) fun q hq => hk q ?_
    rw [allp_eq]
    exact List.mem_cons_of_mem _ (List.mem_flatMap.mpr ⟨c, hc, hq⟩)
/-! ### comprehensions that make data (no bag) -/
theorem lc_dat {J : It} {n : Nat} {G : Hp → Prop} {Y : Nat → Hp → V → Hp → Prop} (w : Walk J n G Y) {g : TG} {tt : TT} {te : TE} {vs : List Nat} {σ : L2.St} {H1 : Hp} {D : Addr} {Qd : Hp → Prop} (S : List Addr) (hD : H1 D = none) (P : Nat → V → Hp → Prop) (hP : ∀ i y H H', Same H H' → P i y H → P i y H') (hG : ∀ H, Same H1 H → G H) (hn : n < 100000)
    (hs : ∀ i x H H' (Qe : V → Hp → Prop) (Z : Hp → Prop), i < n → Same H1 H → Same (dl H1 S) (dl H (D :: S)) → (∃ xs, H D = some (.lst xs)) → (∀ y H4, Same H H4 → P i y (dl H4 (D :: S)) → Qe y H4) → Y i H x H' → g x (wipe σ vs) H' fun σ2 H2 => wipe σ2 vs = wipe σ vs ∧ tt σ2 H2 fun bb H3 => if bb = true then te σ2 H3 Qe else Z H3)
    (hd : ∀ H ys, Same H1 H → ys.length = n → H D = some (.lst ys) → (∀ (i : Nat) y, ys[i]? = some y → P i y (dl H (D :: S))) → Qd H) :
    ∃ W : Nat → Nat → Hp → Prop, (∃ m, W 0 m (upd H1 D (.lst []))) ∧ ∀ i m H, W i m H →
      (J.stop i H ∧ Qd H) ∨ (J.go i H ∧ ∃ Nx : Hp → Prop, (∀ H', Nx H' → ∃ m', m' < m ∧ W (i + 1) m' H') ∧ ∀ x H', J.yld i H x H' → g x (wipe σ vs) H' fun σ2 H2 => wipe σ2 vs = wipe σ vs ∧ tt σ2 H2 fun b H3 =>
        if b = true then te σ2 H3 fun y H4 => ∃ acc, H4 D = some (.lst acc) ∧ acc.length < sizeLine ∧ Nx (upd H4 D (.lst (acc ++ [y]))) else Nx H3) := by
  refine lc_it w (fun i H => Same H1 H ∧ ∃ ys, H D = some (.lst ys) ∧ ys.length = i ∧ ∀ (i : Nat) y, ys[i]? = some y → P i y (dl H (D :: S))) ⟨same_new hD, [], upd_same, rfl, fun _ _ h => by simp at h⟩ (fun i H _ h => hG H h.1) ?_ ?_
  · rintro i x H H' hi ⟨sm, ys, hy, hl, hp⟩ y
    refine hs i x H H' _ _ hi sm (fun a o e => ?_) ⟨ys, hy⟩ (fun y H4 s4 p4 => ⟨ys, s4 D _ hy, szt (by omega), fun a o e => ?_, ys ++ [y], upd_same, by simp [hl], fun j z hz => ?_⟩) y
    · obtain ⟨h1, h2⟩ := dl_some e
      rw [dl_ne (fun z => (List.mem_cons.mp z).elim (fun z => ne_of_none h2 hD z) h1)]
      exact sm a o h2
    · rw [upd_ne (ne_of_none e hD)]
      exact s4 a o (sm a o e)
    · rw [dl_upd List.mem_cons_self]
      by_cases hj : j < ys.length
      · rw [List.getElem?_append_left hj] at hz
        exact hP j z _ _ (dl_mono s4) (hp j z hz)
      · have ej : j = i := by
          have := (List.getElem?_eq_some_iff.mp hz).1
          rw [List.length_append, List.length_singleton] at this
          omega
        subst ej
        rw [List.getElem?_append_right (by omega), hl, Nat.sub_self] at hz
        cases hz
        exact p4
  · rintro H ⟨sm, ys, hy, hl, hp⟩
    exact hd H ys sm hl hy hp
/-! ### the stack of is_condition -/
abbrev It2 := Th × Nat
def itD (p : It2) : PyData := .tuple [toT p.1, .int p.2]
def okW (W : List It2) : Bool := W.all fun p => isT (9 - p.2) p.1
def cntW (W : List It2) : Nat := (W.map fun p => cnt p.1).sum
theorem cnt_pos (t : Th) : 1 ≤ cnt t := by rw [cnt_eq]; omega
theorem okW_app (A B : List It2) : okW (A ++ B) = (okW A && okW B) := by unfold okW; rw [List.all_append]
theorem cntW_app (A B : List It2) : cntW (A ++ B) = cntW A + cntW B := by unfold cntW; rw [List.map_append, List.sum_append]
theorem okW_kids (t : Th) (d : Nat) : okW ((kids t).map fun c => (c, d + 1)) = (kids t).all (isT (8 - d)) := by
  unfold okW
  rw [List.all_map]
  congr 1
  funext c
  show isT (9 - (d + 1)) c = _
  rw [show 9 - (d + 1) = 8 - d by omega]
theorem cntW_kids (t : Th) (d : Nat) : 1 + cntW ((kids t).map fun c => (c, d + 1)) = cnt t := by
  unfold cntW
  rw [List.map_map, cnt_eq]
  rfl
theorem isT_open {t : Th} {d : Nat} (h : d ≤ 8) : isT (9 - d) t = (form t && (kids t).all (isT (8 - d))) := by
  rw [show 9 - d = (8 - d) + 1 by omega]
  rfl
theorem form_tup {t : Th} (h : form t = true) : ∃ k xs, t = .tup k xs := by
  cases t with
  | str s => cases h
  | nil => cases h
  | tup k xs => exact ⟨k, xs, rfl⟩
theorem dpa_snoc {K : PySem.W.Frag} {H : Hp} : ∀ {ds : List PyData} {e : PyData} {ws : List V}, DpAll K H ws (ds ++ [e]) → ∃ ws0 w, ws = ws0 ++ [w] ∧ DpAll K H ws0 ds ∧ Dp K H w e
  | [], e, ws, h => by
    cases h with
    | cons h1 h2 =>
      cases h2
      exact ⟨[], _, rfl, .nil, h1⟩
  | d :: ds, e, ws, h => by
    cases h with
    | cons h1 h2 =>
      obtain ⟨ws0, w, rfl, k1, k2⟩ := dpa_snoc h2
      exact ⟨_ :: ws0, w, rfl, .cons h1 k1, k2⟩
theorem last_at' {α : Type} (xs : List α) (x : α) : (xs ++ [x])[(xs ++ [x]).length - 1]? = some x := by
  rw [List.length_append, List.length_singleton, Nat.add_sub_cancel, List.getElem?_append_right (Nat.le_refl _), Nat.sub_self]
  rfl
/-! ### expressions that make data -/
section
variable {K : PySem.W.Frag} {S : List Addr} {σ : L2.St} {H : Hp}
def EvD (K : PySem.W.Frag) (S : List Addr) (σ : L2.St) (H : Hp) (te : TE) (d : PyData) : Prop := ∀ H1, Same H H1 → ∀ Q : VK, (∀ v H2, Same H1 H2 → Dp K (dl H2 S) v d → Q v H2) → te σ H1 Q
def EvDs (K : PySem.W.Frag) (S : List Addr) (σ : L2.St) (H : Hp) (ta : TA) (ds : List PyData) : Prop := ∀ H1, Same H H1 → ∀ Q : List V → Hp → Prop, (∀ vs H2, Same H1 H2 → DpAll K (dl H2 S) vs ds → Q vs H2) → ta σ H1 Q
theorem evd_str {s : Str} : EvD K S σ H (tC (.str s)) (.str s) := fun H1 _ _ q => q _ H1 (Same.refl _) (.str _)
theorem evd_int {i : Int} : EvD K S σ H (tC (.int i)) (.int i) := fun H1 _ _ q => q _ H1 (Same.refl _) (.int _)
theorem evd_bl {b : Bool} : EvD K S σ H (tC (.bl b)) (.bool b) := fun H1 _ _ q => q _ H1 (Same.refl _) (.bl _)
theorem evd_var {i : Nat} {v : V} {d : PyData} (h : σ[i]? = some (some v)) (hd : Dp K (dl H S) v d) : EvD K S σ H (tVar i) d := fun H1 s1 _ q => ⟨v, h, q v H1 (Same.refl _) (dp_mono (dl_mono s1) hd)⟩
theorem evds_nil : EvDs K S σ H tNil [] := fun H1 _ _ q => q [] H1 (Same.refl _) .nil
theorem evds_cons {te : TE} {ta : TA} {d : PyData} {ds : List PyData} (h : EvD K S σ H te d) (hs : EvDs K S σ H ta ds) : EvDs K S σ H (tCons te ta) (d :: ds) := fun H1 s1 Q q =>
  h H1 s1 _ fun v H2 s2 hv => hs H2 (s1.trans s2) _ fun vs H3 s3 hvs => q (v :: vs) H3 (s2.trans s3) (.cons (dp_mono (dl_mono s3) hv) hvs)
theorem evd_tup {ta : TA} {ds : List PyData} (tr : Tr H S) (h : EvDs K S σ H ta ds) (hl : ds.length ≤ 1000) : EvD K S σ H (tTup ta) (.tuple ds) := fun H1 s1 Q q =>
  h H1 s1 _ fun vs H2 s2 hvs => ⟨szl (by rw [dpa_len hvs]; omega), fun p hp => by
    have tr2 : Tr H2 S := tr.same (s1.trans s2)
    exact q _ _ (s2.trans (same_new hp)) (.tup (SqT.of (dl_upd_at tr2 hp)) (dpa_mono (dl_same_new tr2 hp) hvs))⟩
/-- a new list of data -/
theorem evd_lst {ta : TA} {ds : List PyData} {Q : VK} (h : EvDs K S σ H ta ds) (hl : ds.length ≤ 1000) (q : ∀ (p : Addr) (xs : List V) (H2 : Hp), Same H H2 → H2 p = none → DpAll K (dl H2 S) xs ds → Q (.ref p) (upd H2 p (.lst xs))) : tLst ta σ H Q :=
  h H (Same.refl _) _ fun vs H2 s2 hvs => ⟨szl (by rw [dpa_len hvs]; omega), fun p hp => q p vs H2 s2 hp hvs⟩
end
theorem walk_rangeL {lo : Int} {n : Nat} : Walk (Itr lo n) ((List.range n).map fun i => V.int (lo + (i : Nat))).length (fun _ => True) (YAt ((List.range n).map fun i => V.int (lo + (i : Nat)))) := by
  rw [List.length_map, List.length_range]
  refine walk_range.mono (fun _ h => h) fun i H x H' hi _ ⟨h1, h2⟩ => ⟨h1, ?_⟩
  rw [List.getElem?_map, List.getElem?_range hi, h2]
  rfl
theorem cut_take {x : List V} {i : Int} (h0 : 0 ≤ i) (h1 : i < (x.length : Int)) : cutV x none (some i) = x.take i.toNat ∧ ¬ (HT.sIx x.length 0 none = 0 ∧ HT.sIx x.length x.length (some i) = x.length) := by
  obtain ⟨k, rfl⟩ : ∃ k : Nat, i = k := ⟨i.toNat, by omega⟩
  have hk : k < x.length := by omega
  constructor
  · unfold cutV
    rw [HT.sIx_none, HT.sIx_nat, List.drop_zero, Nat.sub_zero, Int.toNat_natCast, Nat.min_eq_left (by omega)]
  · rintro ⟨_, h⟩
    rw [HT.sIx_nat, Nat.min_eq_left (by omega)] at h
    omega
theorem cut_drop {x : List V} {i : Int} (h0 : 1 ≤ i) (hx : 1 ≤ x.length) : cutV x (some i) none = x.drop i.toNat ∧ ¬ (HT.sIx x.length 0 (some i) = 0 ∧ HT.sIx x.length x.length none = x.length) := by
  obtain ⟨k, rfl⟩ : ∃ k : Nat, i = k := ⟨i.toNat, by omega⟩
  constructor
  · unfold cutV
    rw [HT.sIx_none, HT.sIx_nat, Int.toNat_natCast]
    by_cases hk : k ≤ x.length
    · rw [Nat.min_eq_left hk]
      apply List.take_of_length_le
      rw [List.length_drop]
      omega
    · rw [Nat.min_eq_right (by omega), Nat.sub_self, List.take_zero, List.drop_of_length_le (by omega)]
  · rintro ⟨h, _⟩
    rw [HT.sIx_nat] at h
    omega
theorem eqv_nilT : PyData.eqv (toT .nil) (.tuple []) = true := by unfold toT; simp [PyData.eqv, PyData.eqvAll]
theorem eqv_tupT (k : Str) (xs : List Th) : PyData.eqv (toT (.tup k xs)) (.tuple []) = false := by unfold toT; simp [PyData.eqv, PyData.eqvAll]
theorem eqv_rest (ds : List PyData) : PyData.eqv (.tuple ds) (.tuple []) = ds.isEmpty := by
  cases ds <;> simp [PyData.eqv, PyData.eqvAll]
def isTup : Th → Bool
  | .tup _ _ => true
  | _ => false
theorem ints_deep {zs : List Int} {n : Nat} (hl : zs.length < 50000) : deep (n + 2) (.list (zs.map PyData.int)) = true :=
  deep_list_of (by rw [List.length_map]; exact hl) fun d hd => by
    obtain ⟨z, _, rfl⟩ := List.mem_map.mp hd
    unfold deep
    rfl
theorem places_of {n : Nat} (p : V → Bool) : ∃ zs : List Int, (((List.range n).map fun i => V.int (1 + (i : Nat))).filter p).map (fun v => v) = zs.map V.int ∧ zs.length ≤ n ∧ ∀ z ∈ zs, ∃ i : Nat, i < n ∧ z = 1 + (i : Int) ∧ p (.int z) = true := by
  refine ⟨((List.range n).filter fun i => p (.int (1 + (i : Nat)))).map fun i => 1 + ((i : Nat) : Int), ?_, ?_, fun z hz => ?_⟩
  · rw [List.map_id', List.filter_map, List.map_map]
    rfl
  · rw [List.length_map]
    refine Nat.le_trans (List.length_filter_le _ _) ?_
    rw [List.length_range]
    exact Nat.le_refl _
  · obtain ⟨i, hi, rfl⟩ := List.mem_map.mp hz
    obtain ⟨h1, h2⟩ := List.mem_filter.mp hi
    exact ⟨i, List.mem_range.mp h1, rfl, h2⟩
theorem wt_s {n : Nat} {s : Str} (h : PyData.strOk s = true ∧ s.length ≤ 1000) : WT (n + 1) (.str s) := h
theorem wt_t {n : Nat} {k : Str} {xs : List Th} (h : PyData.strOk k = true ∧ k.length ≤ 1000) (hl : xs.length < 1000) (hx : ∀ x ∈ xs, WT n x) : WT (n + 1) (.tup k xs) := ⟨h, hl, hx⟩
theorem wta_nil {n : Nat} : ∀ x ∈ ([] : List Th), WT n x := fun _ h => nomatch h
theorem wta_cons {n : Nat} {t : Th} {ts : List Th} (h : WT n t) (hs : ∀ x ∈ ts, WT n x) : ∀ x ∈ t :: ts, WT n x := fun x hx => by
  rcases List.mem_cons.mp hx with rfl | hx
  · exact h
  · exact hs x hx
def isTh : Th → Bool
  | .str _ => false
  | _ => true
def sOk (s : Str) : Prop := PyData.strOk s = true ∧ s.length ≤ 1000
theorem Gd.wt {fs : List Fld} (hf : ∀ f ∈ fs, sOk f.1 ∧ ∀ m ∈ f.2, sOk m) : ∀ {n : Nat} {c : Cd}, Gd fs n c → WT (n + 1) (th c) ∧ isTh (th c) = true
  | n + 1, .any, _ => by unfold th; exact ⟨wt_t ⟨by decide +kernel, by decide⟩ (by decide) wta_nil, rfl⟩
  | n + 1, .test f v, h => by
    obtain ⟨fl, hfl, rfl, hv⟩ := h
    unfold th
    exact ⟨wt_t ⟨by decide +kernel, by decide⟩ (by show 2 < 1000; decide) (wta_cons (wt_s (hf fl hfl).1) (wta_cons (wt_s ((hf fl hfl).2 v hv)) wta_nil)), rfl⟩
  | n + 1, .node k cs, h => by
    unfold th
    rw [ths_map]
    refine ⟨wt_t ?_ ?_ fun x hx => ?_, rfl⟩
    · rcases h.1 with ⟨rfl, _⟩ | ⟨rfl | rfl, _⟩ <;> exact ⟨by decide +kernel, by decide⟩
    · rw [List.length_map]
      rcases h.1 with ⟨_, h⟩ | ⟨_, _, h⟩ <;> omega
    · obtain ⟨c, hc, rfl⟩ := List.mem_map.mp hx
      exact (Gd.wt hf (h.2 c hc)).1
theorem FnOk.some {ι : Type} {P : Program} {w : World} {K : PySem.W.Frag} {mg : Str → Option Value} {base : Heap} {CX : CXT} {k : Nat} {f : Addr} {fd : FuncData} {ps : List Str} {sp : ι → Sp} (F : ∀ i, FnOk P w K mg base CX k f fd ps (sp i)) : FnOk P w K mg base CX k f fd ps (fun vs H Q E => ∃ i, sp i vs H Q E) :=
  ⟨fun vs H Q E ⟨i, h⟩ => (F i).len vs H Q E h, fun A outer s H args us vs Q E hr e0 bd vl ⟨i, h⟩ => (F i).run A outer s H args us vs Q E hr e0 bd vl h⟩
theorem consists_nm {s : Str} (h : isNm s) : consists s nameC = true := by
  unfold consists allIn
  have hl : s.length = (cl s).length := rfl
  rw [decide_eq_true (by have := h.1; omega), decide_eq_true (by have := h.2.1; omega)]
  show (true && (true && _)) = true
  rw [Bool.true_and, Bool.true_and, List.all_eq_true]
  exact fun c hc => decide_eq_true (h.2.2 c hc)
theorem consists_vl {s : Str} (h : isVl s) : consists s valueC = true := by
  unfold consists allIn
  have hl : s.length = (cl s).length := rfl
  rw [decide_eq_true (by have := h.1; omega), decide_eq_true (by have := h.2.1; omega)]
  show (true && (true && _)) = true
  rw [Bool.true_and, Bool.true_and, List.all_eq_true]
  exact fun c hc => decide_eq_true (h.2.2 c hc)
/-- a test under i negations -/
def chain (f v : Str) : Nat → Th
  | 0 => .tup "test" [.str f, .str v]
  | i + 1 => .tup "not" [chain f v i]
theorem chain_isT {f v : Str} (h : testOk [.str f, .str v] = true) : ∀ (i n : Nat), isT n (chain f v i) = decide (i < n)
  | i, 0 => by rw [decide_eq_false (by omega)]; rfl
  | 0, n + 1 => by
    rw [decide_eq_true (by omega)]
    show (testOk [.str f, .str v] && ([] : List Th).all (isT n)) = true
    rw [h]
    rfl
  | i + 1, n + 1 => by
    show (true && ([chain f v i].all (isT n))) = _
    rw [Bool.true_and, List.all_cons, chain_isT h i n, List.all_nil, Bool.and_true]
    exact dec_p (by omega)
theorem chain_cnt (f v : Str) : ∀ i, cnt (chain f v i) = i + 1
  | 0 => by rw [cnt_eq]; rfl
  | i + 1 => by
    rw [cnt_eq]
    show 1 + (([chain f v i]).map cnt).sum = _
    rw [List.map_cons, List.map_nil, List.sum_cons, List.sum_nil, chain_cnt f v i]
    omega
theorem chain_wt {f v : Str} (hf : sOk f) (hv : sOk v) : ∀ i, WT (i + 2) (chain f v i)
  | 0 => wt_t ⟨by decide +kernel, by decide⟩ (by show 2 < 1000; decide) (wta_cons (wt_s hf) (wta_cons (wt_s hv) wta_nil))
  | i + 1 => wt_t ⟨by decide +kernel, by decide⟩ (by show 1 < 1000; decide) (wta_cons (chain_wt hf hv i) wta_nil)
/-- many times any -/
def wideT (m : Nat) : Th := .tup "or" (List.replicate m (.tup "any" []))
theorem wide_isT (m : Nat) : isT 8 (wideT m) = decide (2 ≤ m) := by
  show (decide (2 ≤ (List.replicate m (Th.tup "any" [])).length) && (List.replicate m (Th.tup "any" [])).all (isT 7)) = _
  rw [List.length_replicate]
  have : (List.replicate m (Th.tup "any" [])).all (isT 7) = true := List.all_eq_true.mpr fun x hx => by
    rw [List.eq_of_mem_replicate hx]
    rfl
  rw [this, Bool.and_true]
theorem wide_cnt (m : Nat) : cnt (wideT m) = m + 1 := by
  rw [cnt_eq]
  show 1 + ((List.replicate m (Th.tup "any" [])).map cnt).sum = _
  rw [List.map_replicate, show cnt (.tup "any" []) = 1 by rw [cnt_eq]; rfl, List.sum_replicate_nat]
  omega
theorem wide_wt {m : Nat} (h : m < 1000) : WT 2 (wideT m) := wt_t ⟨by decide +kernel, by decide⟩ (by rw [List.length_replicate]; exact h) fun x hx => by
  rw [List.eq_of_mem_replicate hx]
  exact wt_t ⟨by decide +kernel, by decide⟩ (by decide) wta_nil
end Hr

set_option Elab.async false
set_option linter.all false
set_option maxRecDepth 100000
set_option maxHeartbeats 4000000
namespace Hr
open PySem PySem.Spec PyProof.Rows L2
/-- the address that a global name holds -/
def adr : Option Value → Addr
  | some (.ref a) => a
  | _ => 0
/-! tuple(d), tuple(d.values()) of a dict -/
section
variable {pr : Program} {wd : World} {Ar : Around} {Er : Value → Shared → Prop} {st : Shared} {Ty : String} {ra da : Addr} {n : Nat} {P : Nat → Value → Prop} {Ok : Heap → Prop}
theorem gather_src {Q : List Value → Shared → Prop} (S : PySem.W.KdlSrc pr wd Ty ra da n P Ok) (hh : Ar.handled = none) (ok : Ok st.heap) (hn : n ≤ sizeLine)
    (hQ : ∀ (g : Heap) (tk : Nat) (got : Array Value), (∀ b o, st.heap.get? b = some o → g.get? b = some o) → ItemsOf P got n → Q got.toList { st with heap := g, toks := tk }) :
    wpAny (model pr wd) Ar (collect (.ref ra)) Q Er st := by
  unfold collect
  refine wpAny_bind (wpAny_runValue (codeAny_builtin PySem.F.entry_proto_collect ?_))
  rw [Around.under_plainId PySem.F.plain_proto_collect _]
  show wpAny _ Ar.in1 (newList [] >>= fun nl => again (.builtin "list.__iadd__" ⟨[nl, .ref ra], []⟩)) _ _ st
  refine wpAny_bind (wpAny_newObj_type ?_)
  refine wpAny_pure ⟨plainId_quiet PySem.F.plain_list_iadd _, codeAny_builtin PySem.F.entry_list_iadd ?_⟩
  rw [Around.under_plainId PySem.F.plain_list_iadd _]
  show wpAny _ Ar.in1 (Builtin.List.listExtendWith (.ref st.heap.objs.size) (.ref ra) (.ref st.heap.objs.size)) _ _ _
  have new : (st.heap.push { cls := .type "list", data := .seq ([] : List Value).toArray }).get? st.heap.objs.size = some { cls := .type "list", data := .seq #[] 0 } := Heap.get?_push_size _ rfl
  have lt := S.there _ ok
  refine wpAny_mono (PySem.W.kdl_extend (A := Ar) (s := { st with heap := st.heap.push { cls := .type "list", data := .seq ([] : List Value).toArray } }) (R := fun rr s' => rr = .ok (.ret (.ref st.heap.objs.size)) ∧ ∃ (g : Heap) (tk : Nat) (got : Array Value) (k : Nat), s' = { st with heap := g, toks := tk } ∧
      (∀ b o, st.heap.get? b = some o → g.get? b = some o) ∧ g.get? st.heap.objs.size = some { cls := .type "list", dict := none, data := .seq got k, slots := #[] } ∧ ItemsOf P got n)
    S hh (S.keep _ _ ok fun b _ o e => Heap.get?_push_of_some _ e) _ (Nat.ne_of_gt lt.1) (Nat.ne_of_gt lt.2) _ 0 new
    (fun g tk got k kp e hi => ⟨rfl, g, tk, got, k, rfl, fun b o q => kp b o (Nat.ne_of_lt (Heap.lt_size q)) (Heap.get?_push_of_some _ q), e, hi⟩) hn) (fun fin s' h => ?_) (fun e s' h => ?_)
  · cases fin with
    | done f =>
      obtain ⟨e, g, tk, got, k, rfl, kp, at', hi⟩ := h
      cases e
      show wpAny _ Ar (load st.heap.objs.size >>= _) _ _ _
      exact wpAny_bind (wpAny_load at' (wpAny_pure (hQ g tk got kp hi)))
    | again c =>
      refine ⟨h.1, codeAny_mono h.2 fun rr s'' hr => ?_⟩
      obtain ⟨rfl, g, tk, got, k, rfl, kp, at', hi⟩ := hr
      show wpAny _ Ar (load st.heap.objs.size >>= _) _ _ _
      exact wpAny_bind (wpAny_load at' (wpAny_pure (hQ g tk got kp hi)))
  · exact absurd h.1 (by simp)
theorem new_src {Q : Value → Shared → Prop} (S : PySem.W.KdlSrc pr wd Ty ra da n P Ok) (which : Ty = "dict" ∨ Ty = "dict_values") (hh : Ar.handled = none) (ok : Ok st.heap) (hn : n ≤ sizeLine)
    (hQ : ∀ (g : Heap) (tk : Nat) (got : Array Value), (∀ b o, st.heap.get? b = some o → g.get? b = some o) → ItemsOf P got n → Q (.ref g.objs.size) { st with heap := g.push { cls := .type "tuple", data := .seq got }, toks := tk }) :
    codeAny (model pr wd) Ar (.call (.builtin "tuple.__new__") ⟨[.type "tuple", .ref ra], []⟩) (wants Q Er) st := by
  refine codeAny_of_tree ?_
  show wpAny _ Ar.in1 (do checkBuiltinCall "tuple.__new__" ⟨[.type "tuple", .ref ra], []⟩; again (.builtin "tuple.__new__" ⟨[.type "tuple", .ref ra], []⟩)) _ _ st
  refine wpAny_bind (wpAny_of_eq (PySem.F.newCall_tuple_1 _) (wpAny_pure ⟨plainId_quiet PySem.F.plain_tuple_new _, codeAny_builtin PySem.F.entry_tuple_new ?_⟩))
  rw [Around.under_plainId PySem.F.plain_tuple_new _]
  have hsub := sub_tuple_self
  have hinit := init_tuple_lookup
  have hmh := madeHere_tuple
  have ty : st.TypeIs (.ref ra) Ty := S.type st ok
  have h1 : Ar.in1.handled = none := hh
  rcases which with rfl | rfl
  · wp_walk using wpAny_typeOf ty, gather_src (Ar := Ar.in1) S h1 ok hn
    intro g tk got kp hi
    show wpAny _ _ (Builtin.Tuple.tupleExact got.toList.toArray >>= fun v => ret v) _ _ _
    unfold Builtin.Tuple.tupleExact
    refine wpAny_bind (wpAny_newObj_type ?_ (by show got.toList.toArray.size ≤ sizeLine; rw [Array.toArray_toList, hi.1]; exact hn))
    refine wpAny_pure ?_
    rw [Array.toArray_toList]
    exact hQ g tk got kp hi
  · wp_walk using wpAny_typeOf ty, gather_src (Ar := Ar.in1) S h1 ok hn
    intro g tk got kp hi
    show wpAny _ _ (Builtin.Tuple.tupleExact got.toList.toArray >>= fun v => ret v) _ _ _
    unfold Builtin.Tuple.tupleExact
    refine wpAny_bind (wpAny_newObj_type ?_ (by show got.toList.toArray.size ≤ sizeLine; rw [Array.toArray_toList, hi.1]; exact hn))
    refine wpAny_pure ?_
    rw [Array.toArray_toList]
    exact hQ g tk got kp hi
theorem tuple_src {Q : Value → Shared → Prop} (S : PySem.W.KdlSrc pr wd Ty ra da n P Ok) (which : Ty = "dict" ∨ Ty = "dict_values") (hh : Ar.handled = none) (ok : Ok st.heap) (hn : n ≤ sizeLine)
    (hQ : ∀ (g : Heap) (tk : Nat) (got : Array Value), (∀ b o, st.heap.get? b = some o → g.get? b = some o) → ItemsOf P got n → Q (.ref g.objs.size) { st with heap := g.push { cls := .type "tuple", data := .seq got }, toks := tk }) :
    wpAny (model pr wd) Ar (call (.type "tuple") [.ref ra]) Q Er st := by
  refine callType_codes (Q₁ := fun ob s1 => s1.TypeIs ob "tuple" ∧ Q ob s1) PySem.F.called_tuple (PySem.F.typeCall_tuple_1 _) PySem.F.entry_object_init
    (new_src (Ar := Ar.in1) S which hh ok hn fun g tk got kp hi => ⟨⟨_, Heap.get?_push_size _ rfl, rfl⟩, hQ g tk got kp hi⟩) fun ob s1 h1 => ?_
  exact ⟨h1.1, PySem.F.args_object_init_2 ob _, object_init_meets PySem.F.called_tuple.init.lookup PySem.F.called_tuple.made (by decide) pr wd Ar.in1 _ s1 ⟨h1.1, rfl, h1.2⟩⟩
end
section
variable {X : Cx}
theorem vals_by : ∀ {xs : List V} {us : List Value}, xs.length = us.length → (∀ (j : Nat) (x : V) (u : Value), xs[j]? = some x → us[j]? = some u → RelV x u) → Vals xs us
  | [], [], _, _ => .nil
  | [], _ :: _, h, _ => by simp at h
  | _ :: _, [], h, _ => by simp at h
  | x :: xs, u :: us, h, f => .cons (f 0 x u rfl rfl) (vals_by (Nat.succ.inj h) fun j y v h1 h2 => f (j + 1) y v h1 h2)
/-- tuple(d): its keys -/
def rTupD : List V → Hp → VK → Prop := fun xs H Q => ∃ (p : Addr) (kvs : List (Key × V)), xs = [.ref p] ∧ H p = some (.dK kvs) ∧ ∀ (q : Addr) (o : Obj), H q = none → o.dict = none → Q (.ref q) (upd H q (.frz o (.tup (kvs.map fun kv => kV kv.1))))
theorem call_tupD (hc : X.calm = true) : CallR X (.type "tuple") rTupD := by
  intro pins s σ H xs us Q I r h
  obtain ⟨p, kvs, rfl, hk, q⟩ := h
  obtain ⟨u, rfl, rx⟩ := vals1 r
  obtain rfl : u = Value.ref p := rx
  obtain ⟨z, lo, vs, rk, hd⟩ := dk_of I.hok hk
  obtain ⟨ep, hat⟩ := hd.dictAt
  have hl : kvs.length = vs.length := KV.length rk
  refine tuple_src (PySem.W.kdl_dict (knd := mixKind X.prog X.w) (kvs := vs) (ep := ep) lo) (.inl rfl) (I.ok.hd hc) hat (by rw [← hl]; exact z) fun g tk got kp hi => ?_
  have I1 : Inv X pins σ H { s with heap := g, toks := tk } := I.kept (t' := tk) kp
  have rv : Vals (kvs.map fun kv => kV kv.1) got.toList := by
    refine vals_by ((List.length_map _).trans (hl.trans (hi.1.symm.trans Array.length_toList.symm))) fun j x u h1 h2 => ?_
    obtain ⟨k, y, hky, hks⟩ := hi.2 j u (by rw [← Array.getElem?_toList]; exact h2)
    obtain ⟨x', e1, _⟩ := KV.at' rk hky
    rw [List.getElem?_map, e1] at h1
    cases h1
    exact keyIs_rel hks
  have I2 : Inv X pins σ (upd H g.objs.size (.frz { cls := .type "tuple", data := .seq got } (.tup (kvs.map fun kv => kV kv.1)))) { s with heap := g.push { cls := .type "tuple", data := .seq got }, toks := tk } :=
    I1.laid (t' := tk) (fun b o e => Heap.get?_push_of_some _ e) (Nat.le_refl _) (show ObjOk X.prog X.w _ _ _ (.frz _ (.tup _)) from ⟨Heap.get?_push_size _ rfl, by rw [List.length_map]; exact z, got.toList, rv, by rw [Array.toArray_toList]; exact IsTup.new _ _⟩)
  exact ⟨.ref g.objs.size, _, I2, rfl, q _ _ (I1.hok.fresh (Nat.le_refl _)) rfl⟩
/-- tuple(d.values()): its values -/
def tTupVals (td : TE) : TE := fun σ H Q => td σ H fun x H1 => ∃ a kvs, x = V.ref a ∧ H1 a = some (.dK kvs) ∧ ∀ q, H1 q = none → Q (.ref q) (upd H1 q (.tup (kvs.map (·.2))))
variable {o : Expr} {p pos apos mpos : Pos} {td : TE}
/-- t.index(x), t a tuple of texts whose object is known -/
def tTupIx (to : TE) (t : TA) : TE := fun σ H Q => to σ H fun x H1 => ∃ (p : Addr) (ys : List Str) (ob : Obj), x = .ref p ∧ H1 p = some (.frz ob (.tup (ys.map V.str))) ∧ ob.dict = none ∧ t σ H1 fun xs H2 => ∃ (z : Str) (j : Nat), xs = [.str z] ∧ H2 p = some (.frz ob (.tup (ys.map V.str))) ∧ ys[j]? = some z ∧ (∀ m, m < j → ys[m]? ≠ some z) ∧ Q (.int (j : Nat)) H2
theorem pe_tupIx {e : Expr} {t : TA} {apos cpos : Pos} (ho : PE X o td) (ha : PA X [e] t) (hbase : attributeBase o "index" X.env (eval o X.env) = eval o X.env := by rfl)
    (hfew : ((backTo cpos (starEach [e] X.env)).all (fun x => !x.1) && (backToKw cpos (keywordEach [] X.env)).all (fun x => x.1.isSome)
      && decide ([e].length + ([] : List Keyword).length + (if ([] : List Keyword).isEmpty then 0 else 1) < 30)) = true := by rfl)
    (hline : (apos.endLine == cpos.line) = true := by rfl) (hs : starEach [e] X.env = (false, eval e X.env) :: starEach [] X.env := by rfl) :
    PE X (.Call (.Attribute o "index" apos) [e] [] cpos) (tTupIx td t) := by
  refine ⟨fun pins s σ H Q I h => ?_⟩
  refine wpAny_Call_method_late hbase hfew hline rfl (thn (ho.run pins s σ H _ I h) fun v s1 ⟨x, H1, I1, r1, pp, ys, ob, ex, hp, hdn, q1⟩ => ?_)
  subst ex
  obtain rfl : v = Value.ref pp := r1
  obtain ⟨hob, _, its, _, pl⟩ := (show ObjOk X.prog X.w H1 s1.heap pp (.frz ob (.tup (ys.map V.str))) from I1.hok pp _ hp)
  have hty : s1.TypeIs (.ref pp) "tuple" := let ⟨o', ho', hc', _⟩ := pl; ⟨o', ho', hc'⟩
  refine ⟨"tuple", "tuple.index", PySem.F.plainAttrs_tuple, PySem.F.slot_tuple_index, PySem.F.type_tuple_index, hty, fun b eb => ?_, ?_⟩
  · cases eb
    exact ⟨ob, hob, hdn⟩
  have hA := ha.run cpos pins s1 σ H1 _ I1 q1
  rw [hs] at hA ⊢
  refine Calls.callWith_builtin rfl (Calls.evalArgs_plain ?_)
  refine thn hA fun us s2 ⟨vs, H2, I2, r2, z, j, ey, hp2, hj, hno, q2⟩ => ?_
  subst ey
  exact mt_tup_index pins s2 σ H2 (.ref pp) [.str z] (.ref pp) us Q I2 rfl r2 ⟨pp, ys, z, j, rfl, rfl, .inl (.inr ⟨ob, hp2⟩), hj, hno, q2⟩
theorem pe_tupVals (hc : X.calm = true) (hg : Gl X "tuple") (hm : X.mg "tuple" = none) (hd : PE X o td) (hbase : attributeBase o "values" X.env (eval o X.env) = eval o X.env := by rfl) (hline : (apos.endLine == mpos.line) = true := by rfl)
    (na : starEach [Expr.Call (.Attribute o "values" apos) [] [] mpos] X.env = (false, eval (Expr.Call (.Attribute o "values" apos) [] [] mpos) X.env) :: starEach [] X.env := by rfl) :
    PE X (.Call (.Name "tuple" p) [.Call (.Attribute o "values" apos) [] [] mpos] [] pos) (tTupVals td) := by
  refine ⟨fun pins s σ H Q I h => ?_⟩
  refine Call_ (ld_blt I hg hm boot_tuple (PyProof.Rows.callWith_type1 (args_cons ?_ na) na))
  refine wpAny_Call_method0_late hbase hline (thn (hd.run pins s σ H _ I h) fun v s1 ⟨x, H1, I1, r1, a, kvs, ex, ha, q⟩ => ?_)
  subst ex
  obtain rfl : v = Value.ref a := r1
  obtain ⟨z, lo, vs, rk, dof⟩ := dk_of I1.hok ha
  obtain ⟨ep, dat⟩ := dof.dictAt
  have dat' := dat
  obtain ⟨ob, es, ho, ex, hdat, hko, hpr, hnd⟩ := dat'
  have hl : kvs.length = vs.length := KV.length rk
  refine ⟨"dict", "dict.values", PySem.F.plainAttrs_dict, PySem.F.slot_dict_values, PySem.F.type_dict_values, ⟨ob, ho, ex.1⟩, fun b e => ?_, Calls.callWith_builtin rfl (PySem.evalArgs_none ?_)⟩
  · cases e
    exact ⟨ob, ho, ex.2.1⟩
  refine call_meetsIn PySem.F.slot_dict_values ⟨ob, ho, ex.1⟩ PySem.F.entry_dict_values (PySem.F.args_dict_values_1 _) (meets_dict_values (mixKind X.prog X.w) a lo) ⟨⟨vs, dof⟩, ?_⟩
  have k1 : ∀ b u, s1.heap.get? b = some u → (s1.heap.push { cls := .type "dict_values", data := .fields #[.ref a] }).get? b = some u := fun b u e => Heap.get?_push_of_some _ e
  refine args_nil ?_
  refine tuple_src (PySem.W.kdl_values (r := s1.heap.objs.size) (knd := mixKind X.prog X.w) (kvs := vs) (ep := ep)) (.inr rfl) (I1.ok.hd hc) ⟨⟨_, Heap.get?_push_size _ rfl, rfl, rfl⟩, dat.keep k1⟩ (by rw [← hl]; exact z) fun g tk got kp hi => ?_
  have I2 : Inv X pins σ H1 { s1 with heap := g, toks := tk } := I1.kept (t' := tk) fun b u e => kp b u (k1 b u e)
  have rv : Vals (kvs.map (·.2)) got.toList := by
    refine vals_by ((List.length_map _).trans (hl.trans (hi.1.symm.trans Array.length_toList.symm))) fun j x u h1 h2 => ?_
    obtain ⟨k, hky⟩ := hi.2 j u (by rw [← Array.getElem?_toList]; exact h2)
    obtain ⟨x', e1, e2⟩ := KV.at' rk hky
    rw [List.getElem?_map, e1] at h1
    cases h1
    exact e2
  have I3 : Inv X pins σ (upd H1 g.objs.size (.tup (kvs.map (·.2)))) { s1 with heap := g.push { cls := .type "tuple", data := .seq got }, toks := tk } :=
    I2.laid (t' := tk) (fun b o e => Heap.get?_push_of_some _ e) (Nat.le_refl _) (show ObjOk X.prog X.w _ _ _ (.tup _) from ⟨by rw [List.length_map]; exact z, got.toList, rv, by rw [Array.toArray_toList]; exact IsTup.new _ _⟩)
  exact ⟨.ref g.objs.size, _, I3, rfl, q _ (I2.hok.fresh (Nat.le_refl _))⟩
end
end Hr

set_option Elab.async false
set_option linter.all false
set_option maxRecDepth 100000
set_option maxHeartbeats 4000000
namespace Hr
open PySem PySem.Spec PyProof.Rows L2
/-! schemas -/
theorem strs_inv {K : PySem.W.Frag} {H : Hp} : ∀ {vs : List V} {ss : List Str}, DpAll K H vs (ss.map PyData.str) → vs = ss.map V.str
  | _, [], h => by cases h; rfl
  | _, s :: r, h => by
    cases h with
    | cons a t =>
      cases a
      rw [List.map_cons, ← strs_inv t]
theorem inV_str (s : Str) (ss : List Str) : inV (.str s) (ss.map V.str) = decide (s ∈ ss) := by
  induction ss with
  | nil => rfl
  | cons x r ih =>
    have e : inV (.str s) ((x :: r).map V.str) = (eqV (.str x) (.str s) || inV (.str s) (r.map V.str)) := rfl
    rw [e, ih]
    have e2 : eqV (.str x) (.str s) = decide (s = x) := beq_dec x s
    rw [e2, Bool.eq_iff_iff]
    simp
theorem flat_strs (ss : List Str) : (ss.map V.str).all flatV = true := by
  rw [List.all_map, List.all_eq_true]
  intro x _
  rfl
theorem take_step {α : Type} {l : List α} {i : Nat} {x : α} (h : l[i]? = some x) : l.take (i + 1) = l.take i ++ [x] := by
  rw [List.take_add_one, h]
  rfl
theorem nodup_take {α : Type} {l : List α} {i : Nat} {x : α} (n : l.Nodup) (h : l[i]? = some x) : x ∉ l.take i := by
  intro m
  obtain ⟨j, hj⟩ := List.mem_iff_getElem?.mp m
  have hji : j < i := by
    have h1 := (List.getElem?_eq_some_iff.mp hj).1
    rw [List.length_take] at h1
    omega
  rw [List.getElem?_take_of_lt hji] at hj
  have h1 := (List.getElem?_eq_some_iff.mp hj).1
  exact absurd ((List.getElem?_inj h1 n).mp (hj.trans h.symm)) (Nat.ne_of_lt hji)
/-- p holds no list and no tuple -/
def NoSq (H : Hp) (p : Addr) : Prop := (∀ xs, H p ≠ some (.lst xs)) ∧ (∀ xs, H p ≠ some (.tup xs)) ∧ ∀ o u, H p ≠ some (.frz o u)
theorem noSq_ins {H : Hp} {p C dx : Addr} {fs : List (Str × V)} (h : H p = some (.ins C dx fs)) : NoSq H p := by
  refine ⟨fun _ z => ?_, fun _ z => ?_, fun _ _ z => ?_⟩ <;> (rw [h] at z; cases z)
theorem noSq_dk {H : Hp} {p : Addr} {kvs : List (Key × V)} (h : H p = some (.dK kvs)) : NoSq H p := by
  refine ⟨fun _ z => ?_, fun _ z => ?_, fun _ _ z => ?_⟩ <;> (rw [h] at z; cases z)
theorem rd_off {H H' : Hp} {p a : Addr} {u : HO} (n : H p ≠ some u) (nf : ∀ o u, H p ≠ some (.frz o u)) (e : ∀ b o, b ≠ p → H b = some o → H' b = some o) (h : Rd H a u) : Rd H' a u := by
  rcases h with h | ⟨o, h⟩
  · exact .inl (e _ _ (fun z => n (by rw [← z]; exact h)) h)
  · exact .inr ⟨o, e _ _ (fun z => nf o u (by rw [← z]; exact h)) h⟩
mutual
theorem dp_off {K : PySem.W.Frag} {H H' : Hp} {p : Addr} (n : NoSq H p) (e : ∀ b o, b ≠ p → H b = some o → H' b = some o) : ∀ {v : V} {d : PyData}, Dp K H v d → Dp K H' v d
  | _, _, .non => .non
  | _, _, .bl b => .bl b
  | _, _, .int i => .int i
  | _, _, .str x => .str x
  | _, _, .lst h t => .lst (h.elim (fun h => .inl (rd_off (n.1 _) n.2.2 e h)) .inr) (dpa_off n e t)
  | _, _, .tup h t => .tup (h.elim (fun h => .inl (rd_off (n.2.1 _) n.2.2 e h)) .inr) (dpa_off n e t)
theorem dpa_off {K : PySem.W.Frag} {H H' : Hp} {p : Addr} (n : NoSq H p) (e : ∀ b o, b ≠ p → H b = some o → H' b = some o) : ∀ {vs : List V} {ds : List PyData}, DpAll K H vs ds → DpAll K H' vs ds
  | _, _, .nil => .nil
  | _, _, .cons h t => .cons (dp_off n e h) (dpa_off n e t)
end
/-- how many requests a schema of these fields has -/
def tot : List Fld → Nat
  | [] => 1
  | f :: r => f.2.length * tot r
theorem tot_snoc (l : List Fld) (f : Fld) : tot (l ++ [f]) = tot l * f.2.length := by
  induction l with
  | nil => simp [tot]
  | cons x r ih =>
    show x.2.length * tot (r ++ [f]) = x.2.length * tot r * f.2.length
    rw [ih, Nat.mul_assoc]
theorem valV_none {kvs : List (Key × V)} {k : Key} (h : k ∉ kvs.map (·.1)) : valV kvs k = none := by
  unfold valV
  rw [Option.map_eq_none_iff, List.find?_eq_none]
  intro x hx z
  exact h (List.mem_map.mpr ⟨x, hx, of_decide_eq_true z⟩)
theorem fieldOk_nm {s : Str} (h : isNm s) (h2 : s ≠ "any") : fieldOk s = true := by
  unfold fieldOk
  rw [consists_nm h]
  simp [h2]
def labD (fs : List Fld) : PyData := .tuple (fs.map fun f => .str f.1)
def valD (f : Fld) : PyData := .tuple (f.2.map PyData.str)
def choD (fs : List Fld) : PyData := .tuple (fs.map valD)
def sch (a c : V) (n : Int) : List (Str × V) := putF "total" (.int n) (putF "choices" c (putF "labels" a []))
theorem sch_labels (a c : V) (n : Int) : (sch a c n).lookup ("labels" : Str) = some a := by
  unfold sch
  rw [lookup_putF, if_neg (by decide +kernel), lookup_putF, if_neg (by decide +kernel), lookup_putF, if_pos rfl]
theorem sch_choices (a c : V) (n : Int) : (sch a c n).lookup ("choices" : Str) = some c := by
  unfold sch
  rw [lookup_putF, if_neg (by decide +kernel), lookup_putF, if_pos rfl]
theorem sch_total (a c : V) (n : Int) : (sch a c n).lookup ("total" : Str) = some (.int n) := by
  unfold sch
  rw [lookup_putF, if_pos rfl]
theorem sch_no (a c : V) (n : Int) {m : Str} (h1 : ¬ m = "total") (h2 : ¬ m = "choices") (h3 : ¬ m = "labels") : (sch a c n).lookup m = none := by
  unfold sch
  rw [lookup_putF, if_neg h1, lookup_putF, if_neg h2, lookup_putF, if_neg h3]
  rfl
theorem putF_len (k : Str) (v : V) : ∀ l : List (Str × V), (putF k v l).length ≤ l.length + 1
  | [] => Nat.le_refl _
  | (a, b) :: r => by
    show (if a = k then (a, v) :: r else (a, b) :: putF k v r).length ≤ r.length + 2
    have := putF_len k v r
    split
    · show r.length + 1 ≤ r.length + 2
      omega
    · show (putF k v r).length + 1 ≤ r.length + 2
      omega
theorem keys_str {kvs : List (Key × V)} {fs : List Fld} (h : kvs.map (·.1) = fs.map fun f => (Sum.inr f.1 : Key)) : (kvs.map fun kv => kV kv.1) = (fs.map (·.1)).map V.str := by
  have e : (kvs.map fun kv => kV kv.1) = (kvs.map (·.1)).map kV := by rw [List.map_map]; rfl
  rw [e, h, List.map_map, List.map_map]
  rfl
/-- the names of the fields as a tuple whose object is known -/
def LabAt (H : Hp) (v : V) (fs : List Fld) : Prop := ∃ (a : Addr) (o : Obj), v = .ref a ∧ o.dict = none ∧ H a = some (.frz o (.tup ((fs.map (·.1)).map V.str)))
/-- a tuple whose object is known -/
def FTup (H : Hp) (a : Addr) (ys : List V) : Prop := ∃ o : Obj, o.dict = none ∧ H a = some (.frz o (.tup ys))
theorem FTup.sq {K : PySem.W.Frag} {H : Hp} {a : Addr} {ys : List V} (h : FTup H a ys) : SqT K H a ys := by
  obtain ⟨o, _, h⟩ := h
  exact .inl (.inr ⟨o, h⟩)
theorem FTup.same {H H' : Hp} {a : Addr} {ys : List V} (h : FTup H a ys) (s : Same H H') : FTup H' a ys := by
  obtain ⟨o, e, h⟩ := h
  exact ⟨o, e, s _ _ h⟩
theorem FTup.new {H : Hp} {a : Addr} {o : Obj} {ys : List V} (h : o.dict = none) : FTup (upd H a (.frz o (.tup ys))) a ys := ⟨o, h, upd_same⟩
/-- the tuples of the values: each one's object is known -/
def FrzAll (H : Hp) (xs : List V) (fs : List Fld) : Prop := xs.length = fs.length ∧ ∀ (i : Nat) x f, xs[i]? = some x → fs[i]? = some f → ∃ b, x = .ref b ∧ FTup H b (f.2.map V.str)
theorem FrzAll.same {H H' : Hp} {xs : List V} {fs : List Fld} (h : FrzAll H xs fs) (s : Same H H') : FrzAll H' xs fs := ⟨h.1, fun i x f hx hf => by
  obtain ⟨b, e, k⟩ := h.2 i x f hx hf
  exact ⟨b, e, k.same s⟩⟩
theorem FrzAll.off {H H' : Hp} {p : Addr} {xs : List V} {fs : List Fld} (h : FrzAll H xs fs) (n : NoSq H p) (e : ∀ b o, b ≠ p → H b = some o → H' b = some o) : FrzAll H' xs fs := ⟨h.1, fun i x f hx hf => by
  obtain ⟨b, e1, o, e2, e3⟩ := h.2 i x f hx hf
  exact ⟨b, e1, o, e2, e _ _ (fun z => n.2.2 o _ (by rw [← z]; exact e3)) e3⟩⟩
theorem FrzAll.nil {H : Hp} : FrzAll H [] [] := ⟨rfl, fun i x f hx _ => by simp at hx⟩
theorem FrzAll.snoc {H : Hp} {xs : List V} {fs : List Fld} {b : Addr} {f : Fld} (h : FrzAll H xs fs) (k : FTup H b (f.2.map V.str)) : FrzAll H (xs ++ [.ref b]) (fs ++ [f]) := by
  refine ⟨by rw [List.length_append, List.length_append, h.1]; rfl, fun i x g hx hg => ?_⟩
  have hl := h.1
  by_cases hi : i < xs.length
  · rw [List.getElem?_append_left hi] at hx
    rw [List.getElem?_append_left (by omega)] at hg
    exact h.2 i x g hx hg
  · have hi' : i = xs.length := by
      have := (List.getElem?_eq_some_iff.mp hx).1
      rw [List.length_append, List.length_singleton] at this
      omega
    subst hi'
    rw [List.getElem?_append_right (Nat.le_refl _), Nat.sub_self] at hx
    rw [hl, List.getElem?_append_right (Nat.le_refl _), Nat.sub_self] at hg
    cases hx
    cases hg
    exact ⟨b, rfl, k⟩
def ChoAt (H : Hp) (c : V) (fs : List Fld) : Prop := ∃ (ca : Addr) (xs : List V), c = .ref ca ∧ H ca = some (.tup xs) ∧ FrzAll H xs fs
theorem ChoAt.same {H H' : Hp} {c : V} {fs : List Fld} (h : ChoAt H c fs) (s : Same H H') : ChoAt H' c fs := by
  obtain ⟨ca, xs, e1, e2, e3⟩ := h
  exact ⟨ca, xs, e1, s _ _ e2, e3.same s⟩
theorem sch_inj {a c a' c' : V} {n n' : Int} (h : sch a c n = sch a' c' n') : c = c' := by
  have h1 := sch_choices a c n
  rw [h, sch_choices] at h1
  exact (Option.some.inj h1).symm
/-- a Schema of the fields fs stands at p -/
structure SchAt (K : PySem.W.Frag) (C : Addr) (H : Hp) (p : Addr) (fs : List Fld) : Prop where
  ob : ∃ (dx : Addr) (a c : V), H p = some (.ins C dx (sch a c (tot fs))) ∧ LabAt H a fs ∧ Dp K H c (choD fs)
  ch : ∀ (dx : Addr) (a c : V), H p = some (.ins C dx (sch a c (tot fs))) → ChoAt H c fs
theorem SchAt.same {K : PySem.W.Frag} {C : Addr} {H H' : Hp} {p : Addr} {fs : List Fld} (h : SchAt K C H p fs) (s : Same H H') : SchAt K C H' p fs := by
  obtain ⟨dx, a, c, h1, h2, h3⟩ := h.ob
  obtain ⟨b, o, e1, e2, e3⟩ := h2
  refine ⟨⟨dx, a, c, s _ _ h1, ⟨b, o, e1, e2, s _ _ e3⟩, dp_mono s h3⟩, fun dx' a' c' h' => ?_⟩
  rw [s _ _ h1] at h'
  injection h' with h'
  injection h' with _ _ h'
  rw [← sch_inj h']
  exact (h.ch dx a c h1).same s
/-- the digits of a number, the last field first -/
def digs : List Fld → Nat → List Str
  | [], _ => []
  | f :: r, n => f.2.getD (n % f.2.length) "" :: digs r (n / f.2.length)
def req (fs : List Fld) (n : Nat) : List Str := (digs fs.reverse n).reverse
theorem digs_len : ∀ (l : List Fld) (n : Nat), (digs l n).length = l.length
  | [], _ => rfl
  | f :: r, n => by
    show (digs r _).length + 1 = r.length + 1
    rw [digs_len r]
/-- what is left of the number behind the first fields of l -/
def left : List Fld → Nat → Nat
  | [], n => n
  | f :: r, n => left r (n / f.2.length)
theorem left_snoc : ∀ (l : List Fld) (f : Fld) (n : Nat), left (l ++ [f]) n = left l n / f.2.length
  | [], _, _ => rfl
  | g :: r, f, n => left_snoc r f (n / g.2.length)
theorem digs_snoc : ∀ (l : List Fld) (f : Fld) (n : Nat), digs (l ++ [f]) n = digs l n ++ [f.2.getD (left l n % f.2.length) ""]
  | [], _, _ => rfl
  | g :: r, f, n => by
    show _ :: digs (r ++ [f]) _ = _ :: (digs r _ ++ _)
    rw [digs_snoc r f]
    rfl
end Hr

set_option Elab.async false
set_option linter.all false
set_option maxRecDepth 100000
set_option maxHeartbeats 4000000
namespace Hr
open PySem PySem.Spec PyProof.Rows L2
/-! what a condition says of a request -/
section
variable (fs : List Fld) (rq : List Str)
mutual
def ev : Cd → Bool
  | .any => true
  | .test f g => decide (V.str (rq.getD ((fs.map (·.1)).idxOf f) "") = V.str g)
  | .node k cs => if k = "not" then !((evs cs).headD false) else if k = "and" then (evs cs).all id else (evs cs).any id
def evs : List Cd → List Bool
  | [] => []
  | c :: r => ev c :: evs r
end
theorem evs_map : ∀ cs, evs fs rq cs = cs.map (ev fs rq)
  | [] => by unfold evs; rfl
  | c :: r => by unfold evs; rw [evs_map r]; rfl
theorem ev_any : ev fs rq .any = true := by unfold ev; rfl
theorem ev_test (f g : Str) : ev fs rq (.test f g) = decide (V.str (rq.getD ((fs.map (·.1)).idxOf f) "") = V.str g) := by unfold ev; rfl
theorem ev_node (k : Str) (cs : List Cd) : ev fs rq (.node k cs) = if k = "not" then !((cs.map (ev fs rq)).headD false) else if k = "and" then (cs.map (ev fs rq)).all id else (cs.map (ev fs rq)).any id := by
  rw [← evs_map]
  conv => lhs; unfold ev
end
theorem idx_first {x : Str} : ∀ {l : List Str} {m : Nat}, m < l.idxOf x → l[m]? ≠ some x
  | [], m, _ => by simp
  | y :: r, m, h => by
    rw [List.idxOf_cons] at h
    by_cases e : (y == x) = true
    · rw [e] at h
      exact absurd h (Nat.not_lt_zero _)
    · rw [Bool.eq_false_iff.mpr e] at h
      cases m with
      | zero =>
        intro z
        exact e (beq_iff_eq.mpr (Option.some.inj z))
      | succ m => exact idx_first (l := r) (m := m) (Nat.lt_of_succ_lt_succ h)
/-- a comprehension with a test over any walk: the i-th element f i is kept where p i -/
theorem lc_pick {J : It} {n : Nat} {G : Hp → Prop} {Y : Nat → Hp → V → Hp → Prop} (w : Walk J n G Y) {g : TG} {tt : TT} {te : TE} {vs : List Nat} {σ : L2.St} {H1 : Hp} {D : Addr} {Qd : Hp → Prop} (hD : H1 D = none) (f : Nat → V) (p : Nat → Bool) (hG : ∀ H, Same H1 H → G H) (hn : n < 100000)
    (hs : ∀ (i : Nat) x H H' (R : V → Hp → Prop) (Z : Hp → Prop), i < n → Same H1 H → Y i H x H' → (p i = true → ∀ H4, Same H H4 → R (f i) H4) → (p i = false → ∀ H4, Same H H4 → Z H4) → g x (wipe σ vs) H' fun σ2 H2 => wipe σ2 vs = wipe σ vs ∧ tt σ2 H2 fun b H3 => if b = true then te σ2 H3 R else Z H3)
    (hd : ∀ H, Same H1 H → H D = some (.lst (((List.range n).filter p).map f)) → Qd H) :
    ∃ W : Nat → Nat → Hp → Prop, (∃ m, W 0 m (upd H1 D (.lst []))) ∧ ∀ i m H, W i m H →
      (J.stop i H ∧ Qd H) ∨ (J.go i H ∧ ∃ Nx : Hp → Prop, (∀ H', Nx H' → ∃ m', m' < m ∧ W (i + 1) m' H') ∧ ∀ x H', J.yld i H x H' → g x (wipe σ vs) H' fun σ2 H2 => wipe σ2 vs = wipe σ vs ∧ tt σ2 H2 fun b H3 =>
        if b = true then te σ2 H3 fun y H4 => ∃ acc, H4 D = some (.lst acc) ∧ acc.length < sizeLine ∧ Nx (upd H4 D (.lst (acc ++ [y]))) else Nx H3) := by
  refine lc_it w (fun i H => Same H1 H ∧ H D = some (.lst (((List.range i).filter p).map f))) ⟨same_new hD, by rw [upd_same]; rfl⟩ (fun i H _ h => hG H h.1) ?_ ?_
  · rintro i x H H' hi ⟨sm, hy⟩ hY
    refine hs i x H H' _ _ hi sm hY (fun hp H4 s4 => ⟨_, s4 _ _ hy, szt ?_, fun a o e => ?_, ?_⟩) fun hp H4 s4 => ⟨sm.trans s4, ?_⟩
    · rw [List.length_map]
      refine Nat.lt_of_le_of_lt (List.length_filter_le _ _) ?_
      rw [List.length_range]
      omega
    · rw [upd_ne (ne_of_none e hD)]
      exact s4 _ _ (sm _ _ e)
    · rw [upd_same, List.range_succ, List.filter_append, List.map_append, List.filter_cons, hp]
      rfl
    · rw [s4 _ _ hy, List.range_succ, List.filter_append, List.filter_cons, hp]
      simp
  · rintro H ⟨sm, hy⟩
    exact hd H sm hy
/-- each test of the condition is one of the schema -/
theorem gd_tests {fs : List Fld} : ∀ {n : Nat} {c : Cd}, Gd fs n c → ∀ p ∈ tl c, ∃ f ∈ fs, f.1 = p.1 ∧ p.2 ∈ f.2
  | n + 1, c, h, p, hp => by
    rw [tl_eq, List.mem_append] at hp
    rcases hp with hp | hp
    · cases c with
      | any => cases hp
      | test f g =>
        obtain rfl := List.mem_singleton.mp hp
        obtain ⟨fl, h1, h2, h3⟩ := h
        exact ⟨fl, h1, h2, h3⟩
      | node k cs => cases hp
    · obtain ⟨c', h1, h2⟩ := List.mem_flatMap.mp hp
      cases c with
      | any => cases h1
      | test f g => cases h1
      | node k cs => exact gd_tests (h.2 c' h1) p h2
end Hr

set_option Elab.async false
set_option linter.all false
set_option maxRecDepth 100000
set_option maxHeartbeats 4000000
/-! list(zip(xs, ys)) of two lists: the pairs are new tuples -/
namespace Hr
open PySem PySem.Calls PySem.Spec PyProof.Rows L2
theorem zip_nolen : typeLookup (.type "zip") "__len__" = pure none := by rw [typeLookup_type, builtinLookup_eq_fast]; kernel_rfl
theorem zip_nohint : typeLookup (.type "zip") "__length_hint__" = pure none := by rw [typeLookup_type, builtinLookup_eq_fast]; kernel_rfl
/-- the pairs made so far -/
structure ZlG (xs ys : Array Value) (lo : Nat) (h : Heap) (as : List Addr) : Prop where
  rise : as.Pairwise (· < ·)
  above : ∀ a ∈ as, lo ≤ a
  pairs : ∀ (j : Nat) (a : Addr), as[j]? = some a → ∃ x y, xs[j]? = some x ∧ ys[j]? = some y ∧ IsPair h a x y
theorem ZlG.there {xs ys : Array Value} {lo : Nat} {h : Heap} {as : List Addr} (g : ZlG xs ys lo h as) {a : Addr} (ha : a ∈ as) : a < h.objs.size := by
  obtain ⟨j, hj⟩ := List.mem_iff_getElem?.mp ha
  obtain ⟨_, _, _, _, e⟩ := g.pairs j a hj
  exact Heap.lt_size e
structure ZOff (S z TI TO i1 i2 l1 l2 : Addr) : Prop where
  z : z ≠ S
  TI : TI ≠ S
  TO : TO ≠ S
  i1 : i1 ≠ S
  i2 : i2 ≠ S
  l1 : l1 ≠ S
  l2 : l2 ≠ S
def ZSt (S z TI TO i1 i2 l1 l2 : Addr) (xs ys : Array Value) (i : Nat) (h : Heap) : Prop :=
  IsPair h TI (.ref i1) (.ref i2) ∧ h.IsListIter i1 l1 i ∧ h.IsListIter i2 l2 i ∧ h.IsList l1 xs ∧ h.IsList l2 ys ∧
    ((IsZip h z TI TO .none ∧ ∃ a b, IsPair h TO a b) ∨ ∃ T f oT, IsZipHeld h z TI TO T f ∧ h.get? T = some oT ∧ T ≠ z ∧ T ≠ i1 ∧ T ≠ i2 ∧ T ≠ S)
theorem ZSt.keep {S z TI TO i1 i2 l1 l2 : Addr} {xs ys : Array Value} {i : Nat} {h h' : Heap} (o : ZOff S z TI TO i1 i2 l1 l2) (st : ZSt S z TI TO i1 i2 l1 l2 xs ys i h) (hk : ∀ b o, b ≠ S → h.get? b = some o → h'.get? b = some o) : ZSt S z TI TO i1 i2 l1 l2 xs ys i h' := by
  obtain ⟨hTI, h1, h2, hl1, hl2, hz⟩ := st
  refine ⟨hk _ _ o.TI hTI, h1.at fun u e => hk _ u o.i1 e, h2.at fun u e => hk _ u o.i2 e, hl1.at fun u e => hk _ u o.l1 e, hl2.at fun u e => hk _ u o.l2 e, ?_⟩
  rcases hz with ⟨hz, a, b, hTO⟩ | ⟨T, f, oT, hz, hT, r1, r2, r3, r4⟩
  · exact .inl ⟨hk _ _ o.z hz, a, b, hk _ _ o.TO hTO⟩
  · exact .inr ⟨T, f, oT, hk _ _ o.z hz, hk _ _ r4 hT, r1, r2, r3, r4⟩
section
variable {prog : Program} {w : World} {A : Around} {E : Value → Shared → Prop} {s : Shared} {S z TI TO i1 i2 l1 l2 : Addr} {xs ys : Array Value}
theorem zl_item {i : Nat} {Q : Option Value → Shared → Prop} (D : ZipApart z TI TO i1 i2 l1 l2) (hS : S < s.heap.objs.size) (st : ZSt S z TI TO i1 i2 l1 l2 xs ys i s.heap) (hx : i < xs.size) (hy : i < ys.size)
    (hQ : ∀ h' x y, ZSt S z TI TO i1 i2 l1 l2 xs ys (i + 1) h' → xs[i]? = some x → ys[i]? = some y → IsPair h' s.heap.objs.size x y → h'.objs.size = s.heap.objs.size + 1 →
      (∀ c o, c ≠ z → c ≠ TO → c ≠ i1 → c ≠ i2 → s.heap.get? c = some o → h'.get? c = some o) → Q (some (.ref s.heap.objs.size)) { s with heap := h' }) :
    wpAny (model prog w) A (pyNext (.ref z)) Q E s := by
  obtain ⟨hTI, h1, h2, hl1, hl2, hz⟩ := st
  have ex := Array.getElem?_eq_getElem hx
  have ey := Array.getElem?_eq_getElem hy
  have lt : ∀ {c o}, s.heap.get? c = some o → s.heap.objs.size ≠ c := fun e => Nat.ne_of_gt (Heap.lt_size e)
  have n1 : s.heap.objs.size ≠ i1 := let ⟨_, e, _⟩ := h1; lt e
  have n2 : s.heap.objs.size ≠ i2 := let ⟨_, e, _⟩ := h2; lt e
  rcases hz with ⟨hz, a, b, hTO⟩ | ⟨T, f, oT, hz, hT, r1, r2, r3, r4⟩
  · refine wpAny_pyNext_zip_item D hz hTI hTO h1 h2 hl1 hl2 ex ey fun h' a1 a2 a3 a4 a5 a6 hk => ?_
    exact hQ h' _ _ ⟨hk _ _ D.TIz D.TITO D.TIi1 D.TIi2 hTI, a3, a4, hl1.at fun o e => hk _ o D.l1z D.l1TO D.l1i1 D.l1i2 e, hl2.at fun o e => hk _ o D.l2z D.l2TO D.l2i1 D.l2i2 e,
      .inr ⟨s.heap.objs.size, false, _, a1, a5, lt hz, n1, n2, Nat.ne_of_gt hS⟩⟩ ex ey a5 a6 hk
  · refine wpAny_pyNext_zip_item_held D hz hT hTI h1 h2 hl1 hl2 ex ey fun h' a1 a3 a4 a5 a6 hk => ?_
    exact hQ h' _ _ ⟨hk _ _ D.TIz D.TIi1 D.TIi2 hTI, a3, a4, hl1.at fun o e => hk _ o D.l1z D.l1i1 D.l1i2 e, hl2.at fun o e => hk _ o D.l2z D.l2i1 D.l2i2 e,
      .inr ⟨T, true, oT, a1, hk _ _ r1 r2 r3 hT, r1, r2, r3, r4⟩⟩ ex ey a5 a6 fun c o c1 _ c3 c4 e => hk c o c1 c3 c4 e
theorem zl_done {i : Nat} {Q : Option Value → Shared → Prop} (hh : A.handled = none) (D : ZipApart z TI TO i1 i2 l1 l2) (st : ZSt S z TI TO i1 i2 l1 l2 xs ys i s.heap) (hend : xs.size ≤ i ∨ ys.size ≤ i)
    (hQ : ∀ h', (∀ c o, c ≠ z → c ≠ TO → c ≠ i1 → c ≠ i2 → s.heap.get? c = some o → h'.get? c = some o) → Q none { s with heap := h' }) :
    wpAny (model prog w) A (pyNext (.ref z)) Q E s := by
  obtain ⟨hTI, h1, h2, hl1, hl2, hz⟩ := st
  have hend' : xs[i]? = none ∨ ys[i]? = none := hend.imp Array.getElem?_eq_none Array.getElem?_eq_none
  rcases hz with ⟨hz, a, b, hTO⟩ | ⟨T, f, oT, hz, hT, r1, r2, r3, r4⟩
  · exact wpAny_pyNext_zip_end hh D hz hTI hTO h1 h2 hl1 hl2 hend' fun h' hk => hQ h' hk
  · exact wpAny_pyNext_zip_end_held hh D hz hT hTI h1 h2 hl1 hl2 hend' fun h' hk => hQ h' fun c o c1 _ c3 c4 e => hk c o c1 c3 c4 e
theorem zl_loop {R : Result → Shared → Prop} {lo : Nat} (hh : A.handled = none) (D : ZipApart z TI TO i1 i2 l1 l2) (O : ZOff S z TI TO i1 i2 l1 l2) (hSl : S < lo) (hzl : z < lo) (hTl : TO < lo) (h1l : i1 < lo) (h2l : i2 < lo) (hxy : xs.size = ys.size) (hn : xs.size ≤ sizeLine) (res : Value) {h₁ : Heap}
    (hR : ∀ h' tk acc c as, (∀ b o, b ≠ S → b ≠ z → b ≠ TO → b ≠ i1 → b ≠ i2 → h₁.get? b = some o → h'.get? b = some o) → h'.get? S = some { cls := .type "list", dict := none, data := .seq acc c, slots := #[] } → as.length = xs.size → ZlG xs ys lo h' as →
      acc.toList = as.map Value.ref → R (.ok (.ret res)) { s with heap := h', toks := tk }) :
    ∀ (k i : Nat) (h : Heap) (tk c : Nat) (acc : Array Value) (as : List Addr), xs.size - i = k → i ≤ xs.size → ZSt S z TI TO i1 i2 l1 l2 xs ys i h → (∀ b o, b ≠ S → b ≠ z → b ≠ TO → b ≠ i1 → b ≠ i2 → h₁.get? b = some o → h.get? b = some o) →
      h.get? S = some { cls := .type "list", dict := none, data := .seq acc c, slots := #[] } → acc.toList = as.map Value.ref → as.length = i → ZlG xs ys lo h as → lo ≤ h.objs.size →
      codeAny (model prog w) A (.builtin "list.extend.loop" ⟨[.ref S, .ref z, res], []⟩) R { s with heap := h, toks := tk } := by
  intro k
  induction k with
  | zero =>
    intro i h tk c acc as hk hi hst hkeep hS hacc hal hG hlo
    refine codeAny_builtin PySem.F.entry_extend_loop ?_
    rw [Around.under_plainId PySem.F.plain_extend_loop _]
    show wpAny _ A.in1 (pyNext (.ref z) >>= _) _ _ _
    refine wpAny_bind (zl_done (s := { s with heap := h, toks := tk }) (A := A.in1) hh D hst (.inl (by omega)) fun h' he => ?_)
    have off : ∀ a ∈ as, a ≠ z ∧ a ≠ TO ∧ a ≠ i1 ∧ a ≠ i2 := fun a ha => by
      have := hG.above a ha
      refine ⟨?_, ?_, ?_, ?_⟩ <;> (refine Nat.ne_of_gt (Nat.lt_of_lt_of_le ?_ this); assumption)
    refine wpAny_pure (hR h' tk acc c as (fun b o b1 b2 b3 b4 b5 e => he b o b2 b3 b4 b5 (hkeep b o b1 b2 b3 b4 b5 e)) (he S _ (Ne.symm O.z) (Ne.symm O.TO) (Ne.symm O.i1) (Ne.symm O.i2) hS) (by omega) ⟨hG.rise, hG.above, fun j a hj => ?_⟩ hacc)
    obtain ⟨x, y, e1, e2, e3⟩ := hG.pairs j a hj
    obtain ⟨o1, o2, o3, o4⟩ := off a (List.mem_of_getElem? hj)
    exact ⟨x, y, e1, e2, he a _ o1 o2 o3 o4 e3⟩
  | succ k ih =>
    intro i h tk c acc as hk hi hst hkeep hS hacc hal hG hlo
    have hlt : i < xs.size := by omega
    have hsz : acc.size = i := by rw [← Array.length_toList, hacc, List.length_map, hal]
    refine codeAny_builtin PySem.F.entry_extend_loop ?_
    rw [Around.under_plainId PySem.F.plain_extend_loop _]
    show wpAny _ A.in1 (pyNext (.ref z) >>= _) _ _ _
    refine wpAny_bind (zl_item (s := { s with heap := h, toks := tk }) D (Heap.lt_size hS) hst hlt (by omega) fun h' x y hst' ex ey ht hz hkp => ?_)
    dsimp only at ht hz hkp ⊢
    have hS' := hkp S _ (Ne.symm O.z) (Ne.symm O.TO) (Ne.symm O.i1) (Ne.symm O.i2) hS
    have up : ∀ b o, b ≠ S → h'.get? b = some o → (h'.update S (Obj.mapSeq (·.push (Value.ref h.objs.size)))).get? b = some o := fun b o hb e => (Heap.get?_update_other _ _ (Ne.symm hb)).trans e
    have hSn : S < h.objs.size := Heap.lt_size hS
    show wpAny _ A.in1 (updateSeq S (·.push (Value.ref h.objs.size)) >>= _) _ _ _
    refine wpAny_bind ?_
    refine wpAny_updateSeq hS' rfl (wpAny_pure ⟨plainId_quiet PySem.F.plain_extend_loop _, ih (i + 1) _ tk _ (acc.push (Value.ref h.objs.size)) (as ++ [h.objs.size]) (by omega) hlt (hst'.keep O up)
      (fun b o b1 b2 b3 b4 b5 e => up b o b1 (hkp b o b2 b3 b4 b5 (hkeep b o b1 b2 b3 b4 b5 e))) (Heap.get?_update_self _ hS' rfl) (by rw [Array.toList_push, hacc, List.map_append]; rfl) (by rw [List.length_append, hal]; rfl) ⟨?_, ?_, ?_⟩ ?_⟩) (by rw [hsz]; omega) (by show (acc.push (Value.ref h.objs.size)).size ≤ sizeLine + 1; rw [Array.size_push, hsz]; omega)
    · refine List.pairwise_append.mpr ⟨hG.rise, List.pairwise_singleton _ _, fun a ha b hb => ?_⟩
      rw [List.mem_singleton.mp hb]
      exact hG.there ha
    · intro a ha
      rcases List.mem_append.mp ha with ha | ha
      · exact hG.above a ha
      · rw [List.mem_singleton.mp ha]; exact hlo
    · intro j b hj
      rcases Nat.lt_trichotomy j as.length with h1 | h1 | h1
      · rw [List.getElem?_append_left h1] at hj
        obtain ⟨x', y', e1, e2, e3⟩ := hG.pairs j b hj
        have hb := hG.above b (List.mem_of_getElem? hj)
        exact ⟨x', y', e1, e2, up b _ (Nat.ne_of_gt (Nat.lt_of_lt_of_le hSl hb)) (hkp b _ (Nat.ne_of_gt (Nat.lt_of_lt_of_le hzl hb)) (Nat.ne_of_gt (Nat.lt_of_lt_of_le hTl hb)) (Nat.ne_of_gt (Nat.lt_of_lt_of_le h1l hb)) (Nat.ne_of_gt (Nat.lt_of_lt_of_le h2l hb)) e3)⟩
      · subst h1
        have hb : h.objs.size = b := by simpa using hj
        subst hb
        exact ⟨x, y, by rw [hal]; exact ex, by rw [hal]; exact ey, up _ _ (Nat.ne_of_gt hSn) ht⟩
      · have hnone : (as ++ [h.objs.size])[j]? = none := List.getElem?_eq_none (by rw [List.length_append, List.length_singleton]; omega)
        rw [hnone] at hj; cases hj
    · have e : (h'.update S (Obj.mapSeq (·.push (Value.ref h.objs.size)))).get? h.objs.size = _ := up _ _ (Nat.ne_of_gt hSn) ht
      exact Nat.le_of_lt (Nat.lt_of_le_of_lt hlo (Heap.lt_size e))
/-- the zip as it is made -/
def ZNew (z TI TO i1 i2 l1 l2 : Addr) (xs ys : Array Value) (h : Heap) : Prop :=
  IsPair h TI (.ref i1) (.ref i2) ∧ h.IsListIter i1 l1 0 ∧ h.IsListIter i2 l2 0 ∧ h.IsList l1 xs ∧ h.IsList l2 ys ∧ IsZip h z TI TO .none ∧ ∃ a b, IsPair h TO a b
theorem ZNew.st {h : Heap} (n : ZNew z TI TO i1 i2 l1 l2 xs ys h) : ZSt S z TI TO i1 i2 l1 l2 xs ys 0 h := ⟨n.1, n.2.1, n.2.2.1, n.2.2.2.1, n.2.2.2.2.1, .inl n.2.2.2.2.2⟩
theorem ZNew.keep {h h' : Heap} (n : ZNew z TI TO i1 i2 l1 l2 xs ys h) (O : ZOff S z TI TO i1 i2 l1 l2) (hk : ∀ b o, b ≠ S → h.get? b = some o → h'.get? b = some o) : ZNew z TI TO i1 i2 l1 l2 xs ys h' := by
  obtain ⟨hTI, h1, h2, hl1, hl2, hz, a, b, hTO⟩ := n
  exact ⟨hk _ _ O.TI hTI, h1.at fun u e => hk _ u O.i1 e, h2.at fun u e => hk _ u O.i2 e, hl1.at fun u e => hk _ u O.l1 e, hl2.at fun u e => hk _ u O.l2 e, hk _ _ O.z hz, a, b, hk _ _ O.TO hTO⟩
theorem ZNew.lt {h : Heap} (n : ZNew z TI TO i1 i2 l1 l2 xs ys h) : z < h.objs.size ∧ TI < h.objs.size ∧ TO < h.objs.size ∧ i1 < h.objs.size ∧ i2 < h.objs.size ∧ l1 < h.objs.size ∧ l2 < h.objs.size := by
  obtain ⟨hTI, ⟨_, h1, _⟩, ⟨_, h2, _⟩, ⟨_, hl1, _⟩, ⟨_, hl2, _⟩, hz, a, b, hTO⟩ := n
  exact ⟨Heap.lt_size hz, Heap.lt_size hTI, Heap.lt_size hTO, Heap.lt_size h1, Heap.lt_size h2, Heap.lt_size hl1, Heap.lt_size hl2⟩
theorem zl_extend {R : Result → Shared → Prop} (hh : A.handled = none) (D : ZipApart z TI TO i1 i2 l1 l2) (O : ZOff S z TI TO i1 i2 l1 l2) (n : ZNew z TI TO i1 i2 l1 l2 xs ys s.heap) (hxy : xs.size = ys.size) (hn : xs.size ≤ sizeLine) (res : Value) (c₀ : Nat) (hS : s.heap.get? S = some { cls := .type "list", data := .seq #[] c₀ })
    (hR : ∀ h' tk acc c as, (∀ b o, b ≠ S → b ≠ z → b ≠ TO → b ≠ i1 → b ≠ i2 → s.heap.get? b = some o → h'.get? b = some o) → h'.get? S = some { cls := .type "list", dict := none, data := .seq acc c, slots := #[] } → as.length = xs.size → ZlG xs ys s.heap.objs.size h' as →
      acc.toList = as.map Value.ref → R (.ok (.ret res)) { s with heap := h', toks := tk }) :
    wpAny (model prog w) A.in1 (Builtin.List.listExtendWith (.ref S) (.ref z) res)
      (fun fin s' => match fin with | .done f => R (.ok f) s' | .again c' => c'.quiet = true ∧ codeAny (model prog w) A c' R s') (fun e s' => R (.error e) s') s := by
  have hSl : S < s.heap.objs.size := Heap.lt_size hS
  have key : ∀ (h : Heap) (c₁ tk : Nat), (∀ b o, b ≠ S → s.heap.get? b = some o → h.get? b = some o) →
      h.get? S = some { cls := .type "list", data := .seq #[] c₁ } → h.objs.size = s.heap.objs.size → codeAny (model prog w) A (.builtin "list.extend.loop" ⟨[.ref S, .ref z, res], []⟩) R { s with heap := h, toks := tk } := by
    intro h c₁ tk hk hS₁ hsz
    have n' := n.keep O hk
    obtain ⟨a1, a2, a3, a4, a5, a6, a7⟩ := n.lt
    refine zl_loop (lo := s.heap.objs.size) (s := s) (h₁ := s.heap) hh D O hSl a1 a3 a4 a5 hxy hn res (fun h' tk' acc c as hk' hS' hl hG hacc => hR h' tk' acc c as hk' hS' hl hG hacc)
      xs.size 0 h tk c₁ #[] [] (Nat.sub_zero _) (Nat.zero_le _) n'.st (fun b o hb _ _ _ _ e => hk b o hb e) hS₁ rfl rfl
      ⟨List.Pairwise.nil, (fun _ ha => nomatch ha), (fun j a hj => by simp at hj)⟩ (by omega)
  have hz := n.2.2.2.2.2.1
  have hT : s.TypeIs (.ref z) "zip" := ⟨_, hz, rfl⟩
  unfold Builtin.List.listExtendWith
  refine wpAny_bind (wpAny_typeOf (T := "zip") hT ?_)
  have h1 : Builtin.List.listSameRef (.ref S) (.ref z) = false := by simp [Builtin.List.listSameRef, Ne.symm O.z]
  rw [if_neg (by rw [h1]; decide)]
  refine wpAny_bind (wpAny_pyIter_zip hz ?_)
  refine wpAny_bind (wpAny_holding ?_)
  unfold Builtin.List.listLengthHint
  refine wpAny_bind (wpAny_specialOf hT zip_nolen ?_)
  show wpAny _ A.in1 (specialOf (Value.ref z) (Str.ofString "__length_hint__") >>= _) _ _ _
  refine wpAny_bind (wpAny_specialOf hT zip_nohint ?_)
  refine wpAny_pure ?_
  rw [if_pos (by decide)]
  refine wpAny_bind (wpAny_rule ?_)
  refine wpAny_bind ?_
  show wpAny _ _ (updateSeq S (·.push .none) >>= fun _ => updateSeq S (·.pop)) _ _ _
  refine wpAny_bind (wpAny_updateSeq hS rfl ?_)
  have hS₂ := Heap.get?_update_self (Obj.mapSeq (·.push Value.none)) hS rfl
  refine wpAny_updateSeq (hz := by seq_fits) hS₂ rfl ?_
  have hS₃ := Heap.get?_update_self (Obj.mapSeq (·.pop)) hS₂ rfl
  refine wpAny_pure ⟨plainId_quiet PySem.F.plain_extend_loop _, key _ _ _ (fun b o hb e => ?_) hS₃ ?_⟩
  · exact (Heap.get?_update_other _ _ (Ne.symm hb)).trans ((Heap.get?_update_other _ _ (Ne.symm hb)).trans e)
  · rw [(Heap.SameBut.update ..).1, (Heap.SameBut.update ..).1]
theorem zl_call {Q : Value → Shared → Prop} (hh : A.handled = none) (D : ZipApart z TI TO i1 i2 l1 l2) (n : ZNew z TI TO i1 i2 l1 l2 xs ys s.heap) (hxy : xs.size = ys.size) (hn : xs.size ≤ sizeLine)
    (hQ : ∀ h' tk acc c as, (∀ b o, b ≠ z → b ≠ TO → b ≠ i1 → b ≠ i2 → s.heap.get? b = some o → h'.get? b = some o) → h'.get? s.heap.objs.size = some { cls := .type "list", dict := none, data := .seq acc c, slots := #[] } → as.length = xs.size → ZlG xs ys (s.heap.objs.size + 1) h' as →
      acc.toList = as.map Value.ref → Q (.ref s.heap.objs.size) { s with heap := h', toks := tk }) :
    wpAny (model prog w) A (call (.type "list") [.ref z]) Q E s := by
  refine callType_codes (Q₁ := fun obj s₁ => obj = .ref s.heap.objs.size ∧ s₁ = { s with heap := s.heap.push { cls := .type "list", data := .seq #[] } }) PySem.F.called_list (PySem.F.typeCall_list_1 _) PySem.F.entry_list_init
    (code_list_new _ ⟨rfl, rfl⟩) fun obj s₁ h₁ => ?_
  obtain ⟨rfl, rfl⟩ := h₁
  obtain ⟨a1, a2, a3, a4, a5, a6, a7⟩ := n.lt
  have O : ZOff s.heap.objs.size z TI TO i1 i2 l1 l2 := ⟨Nat.ne_of_lt a1, Nat.ne_of_lt a2, Nat.ne_of_lt a3, Nat.ne_of_lt a4, Nat.ne_of_lt a5, Nat.ne_of_lt a6, Nat.ne_of_lt a7⟩
  have hS : (s.heap.push { cls := .type "list", data := .seq #[] }).get? s.heap.objs.size = some { cls := .type "list", data := .seq #[] } := Heap.get?_push_size _ rfl
  refine ⟨⟨_, hS, rfl⟩, PySem.F.args_list_init_2 _ _, ?_⟩
  show wpAny _ _ (do let old ← Builtin.List.listItems (.ref s.heap.objs.size); Builtin.List.listUpdate (.ref s.heap.objs.size) (fun _ => #[]); letGo old.toList.reverse; Builtin.List.listExtendWith (.ref s.heap.objs.size) (.ref z) .none) _ _ _
  refine wpAny_bind ?_
  unfold Builtin.List.listItems
  refine wpAny_bind (wpAny_seqItems hS rfl (wpAny_pure ?_))
  show wpAny _ _ (updateSeq s.heap.objs.size (fun _ => #[]) >>= fun _ => letGo (#[] : Array Value).toList.reverse >>= fun _ => Builtin.List.listExtendWith (.ref s.heap.objs.size) (.ref z) .none) _ _ _
  refine wpAny_bind (wpAny_updateSeq hS rfl ?_)
  have hS₂ := Heap.get?_update_self (Obj.mapSeq (fun _ => (#[] : Array Value))) hS rfl
  have oth : ∀ b o, b ≠ s.heap.objs.size → s.heap.get? b = some o → ((s.heap.push { cls := .type "list", data := .seq #[] }).update s.heap.objs.size (Obj.mapSeq (fun _ => (#[] : Array Value)))).get? b = some o :=
    fun b o hb e => (Heap.get?_update_other _ _ (Ne.symm hb)).trans (Heap.get?_push_of_some _ e)
  have sz : ((s.heap.push { cls := .type "list", data := .seq #[] }).update s.heap.objs.size (Obj.mapSeq (fun _ => (#[] : Array Value)))).objs.size = s.heap.objs.size + 1 := by rw [(Heap.SameBut.update ..).1, Heap.size_push]
  refine wpAny_bind (wpAny_letGo ?_)
  refine zl_extend (A := A.in1) hh D O (n.keep O oth) hxy hn .none _ hS₂ (fun h' tk acc c as hk hS' hl hG hacc => ?_)
  refine ⟨rfl, hQ h' tk acc c as (fun b o b2 b3 b4 b5 e => ?_) hS' hl ?_ hacc⟩
  · exact hk b o (Nat.ne_of_lt (Heap.lt_size e)) b2 b3 b4 b5 (oth b o (Nat.ne_of_lt (Heap.lt_size e)) e)
  · exact ⟨hG.rise, fun a ha => by have := hG.above a ha; rw [← sz]; exact this, hG.pairs⟩
end

/-- tuples of pairs tracked at their addresses -/
def putP : Hp → List Addr → List (V × V) → Hp
  | H, a :: as, p :: ps => putP (upd H a (.tup [p.1, p.2])) as ps
  | H, _, _ => H
theorem putP_off {b : Addr} : ∀ (as : List Addr) (ps : List (V × V)) (H : Hp), b ∉ as → putP H as ps b = H b
  | [], _, _, _ => rfl
  | _ :: _, [], _, _ => rfl
  | a :: as, p :: ps, H, h => by
    show putP (upd H a (.tup [p.1, p.2])) as ps b = H b
    rw [putP_off as ps _ (fun z => h (List.mem_cons_of_mem _ z)), upd_ne (fun z => h (by rw [z]; exact List.mem_cons_self))]
theorem putP_at : ∀ (as : List Addr) (ps : List (V × V)) (H : Hp), as.length = ps.length → as.Nodup → ∀ (j : Nat) (a : Addr) (p : V × V), as[j]? = some a → ps[j]? = some p → putP H as ps a = some (.tup [p.1, p.2])
  | [], [], _, _, _, j, a, p, h1, _ => by simp at h1
  | [], _ :: _, _, h, _, _, _, _, _, _ => by cases h
  | _ :: _, [], _, h, _, _, _, _, _, _ => by cases h
  | b :: as, q :: ps, H, h, hn, 0, a, p, h1, h2 => by
    have hn' := List.nodup_cons.mp hn
    have e1 : b = a := Option.some.inj h1
    have e2 : q = p := Option.some.inj h2
    subst e1 e2
    show putP (upd H b (.tup [q.1, q.2])) as ps b = _
    rw [putP_off as ps _ hn'.1, upd_same]
  | b :: as, q :: ps, H, h, hn, j + 1, a, p, h1, h2 => putP_at as ps (upd H b (.tup [q.1, q.2])) (Nat.succ.inj h) (List.nodup_cons.mp hn).2 j a p (by simpa using h1) (by simpa using h2)
theorem zip_get {xs ys : List V} {j : Nat} {x y : V} (h1 : xs[j]? = some x) (h2 : ys[j]? = some y) : (xs.zip ys)[j]? = some (x, y) := by
  rw [List.getElem?_zip_eq_some]
  exact ⟨h1, h2⟩
theorem vals_get {xs : List V} {us : List Value} (h : Vals xs us) : ∀ {j : Nat} {x : V} {u : Value}, xs[j]? = some x → us[j]? = some u → RelV x u := by
  induction h with
  | nil => intro j x u h1 _; simp at h1
  | cons r t ih =>
    intro j x u h1 h2
    cases j with
    | zero =>
      cases h1
      cases h2
      exact r
    | succ j => exact ih (by simpa using h1) (by simpa using h2)
/-- list(zip(a, b)) of two lists -/
def tListZip (K : PySem.W.Frag) (ta : TA) : TE := fun σ H Q => ta σ H fun vs H1 => ∃ (a b : Addr) (xs ys : List V), vs = [.ref a, .ref b] ∧ SqL K H1 a xs ∧ SqL K H1 b ys ∧ xs.length = ys.length ∧ xs.length ≤ 1000000 ∧
  ∀ (H' : Hp) (p : Addr) (ts : List Addr), Same H1 H' → H1 p = none → (∀ t ∈ ts, H1 t = none) → p ∉ ts → H' p = some (.lst (ts.map V.ref)) → ts.length = xs.length → (∀ (j : Nat) (t : Addr) (x y : V), ts[j]? = some t → xs[j]? = some x → ys[j]? = some y → H' t = some (.tup [x, y])) → Q (.ref p) H'
section
variable {X : Cx} {e e2 : Expr} {ta : TA} {p p2 cpos pos : Pos}
theorem zip_laid {pins : List (Addr × Obj)} {σ : L2.St} {H : Hp} {s : Shared} {h' : Heap} {tk lo : Nat} {S : Addr} {xs ys : List V} {us vs : List Value} {acc : Array Value} {c : Nat} {as : List Addr} (I : Inv X pins σ H s) (hz : xs.length ≤ sizeLine) (hxy : xs.length = ys.length) (rx : Vals xs us) (ry : Vals ys vs)
    (hk : ∀ b o, s.heap.get? b = some o → h'.get? b = some o) (hS : h'.get? S = some { cls := .type "list", dict := none, data := .seq acc c, slots := #[] }) (hSl : s.heap.objs.size ≤ S) (hSo : S < lo) (hl : as.length = xs.length) (hG : ZlG us.toArray vs.toArray lo h' as) (hacc : acc.toList = as.map Value.ref) :
    ∃ H' : Hp, Same H H' ∧ H S = none ∧ (∀ t ∈ as, H t = none) ∧ S ∉ as ∧ H' S = some (.lst (as.map V.ref)) ∧ (∀ (j : Nat) (t : Addr) (x y : V), as[j]? = some t → xs[j]? = some x → ys[j]? = some y → H' t = some (.tup [x, y])) ∧ Inv X pins σ H' { s with heap := h', toks := tk } := by
  have hSn : S ∉ as := fun z => Nat.lt_irrefl _ (Nat.lt_of_lt_of_le hSo (hG.above _ z))
  have nd : as.Nodup := List.Pairwise.imp (fun {a b} (h : a < b) => Nat.ne_of_lt h) hG.rise
  have new : ∀ t ∈ as, H t = none := fun t ht => I.hok.fresh (Nat.le_trans (Nat.le_trans hSl (Nat.le_of_lt hSo)) (hG.above t ht))
  have newS : H S = none := I.hok.fresh hSl
  have atP := putP_at as (xs.zip ys) (upd H S (.lst (as.map V.ref))) (by rw [List.length_zip, hl]; omega) nd
  have off : ∀ b, b ∉ as → b ≠ S → putP (upd H S (.lst (as.map V.ref))) as (xs.zip ys) b = H b := fun b h1 h2 => by rw [putP_off as _ _ h1, upd_ne h2]
  have low : ∀ b o, s.heap.get? b = some o → b ∉ as ∧ b ≠ S := fun b o e => by
    have := Heap.lt_size e
    exact ⟨fun z => Nat.lt_irrefl _ (Nat.lt_of_lt_of_le (Nat.lt_of_lt_of_le (Nat.lt_of_lt_of_le this hSl) (Nat.le_of_lt hSo)) (hG.above b z)), Nat.ne_of_lt (Nat.lt_of_lt_of_le this hSl)⟩
  have kp : ∀ b u, H b = some u → (putP (upd H S (.lst (as.map V.ref))) as (xs.zip ys)) b = some u := fun b u e => by
    rw [off b (fun z => by rw [new b z] at e; cases e) (fun z => by rw [z, newS] at e; cases e)]
    exact e
  have eS : putP (upd H S (.lst (as.map V.ref))) as (xs.zip ys) S = some (.lst (as.map V.ref)) := by rw [putP_off as _ _ hSn, upd_same]
  refine ⟨putP (upd H S (.lst (as.map V.ref))) as (xs.zip ys), kp, newS, new, hSn, eS, fun j t x y h1 h2 h3 => atP j t (x, y) h1 (zip_get h2 h3), ?_⟩
  refine I.call' (ch := []) rfl ⟨fun b o q _ _ _ => hk b o q, fun b o q _ _ _ => ⟨o.slots, hk b o q⟩, fun b o q n _ => ?_, fun b o q _ => ⟨o, hk b o q⟩, fun b xs q => kp b _ q, fun b o u q => kp b _ q, fun b ps q => ⟨#[], by rw [kp b _ q]; simp⟩⟩ (fun b u q => ?_) I.bare fun b z => by simp at z
  · obtain ⟨z1, z2⟩ := low b o q
    rw [off b z1 z2]
    exact n
  · by_cases hb : b ∈ as
    · obtain ⟨j, hj⟩ := List.mem_iff_getElem?.mp hb
      have hjl : j < xs.length := by
        have := (List.getElem?_eq_some_iff.mp hj).1
        omega
      have hx := List.getElem?_eq_getElem hjl
      have hy := List.getElem?_eq_getElem (show j < ys.length by omega)
      generalize xs[j] = x at hx
      generalize ys[j] = y at hy
      rw [atP j b (x, y) hj (zip_get hx hy)] at q
      cases q
      obtain ⟨u1, u2, f1, f2, f3⟩ := hG.pairs j b hj
      exact ⟨by show 2 ≤ sizeLine; decide, [u1, u2], .cons (vals_get rx hx (by simpa using f1)) (.cons (vals_get ry hy (by simpa using f2)) .nil), ⟨_, f3, rfl, _, rfl⟩⟩
    · by_cases hb2 : b = S
      · rw [hb2] at q ⊢
        rw [eS] at q
        cases q
        refine ⟨by rw [List.length_map]; omega, acc.toList, c, by rw [hacc]; exact LiI.vals_refs as, ?_⟩
        rw [Array.toArray_toList]
        exact hS
      · rw [off b hb hb2] at q
        exact (I.hok b u q).stay (fun d v _ y => hk d v y) (fun d y => kp d _ y) fun d xs y => kp d _ y
theorem pe_listZip (hc : X.calm = true) (hg : Gl X "list") (hm : X.mg "list" = none) (hg2 : Gl X "zip") (hm2 : X.mg "zip" = none) (ha : PA X [e, e2] ta)
    (na : starEach [Expr.Call (.Name "zip" p2) [e, e2] [] cpos] X.env = (false, eval (Expr.Call (.Name "zip" p2) [e, e2] [] cpos) X.env) :: starEach [] X.env := by rfl)
    (hs : starEach [e, e2] X.env = (false, eval e X.env) :: starEach [e2] X.env := by rfl) (hpl : (backTo cpos (starEach [e2] X.env)).any (·.1) = false := by rfl) :
    PE X (.Call (.Name "list" p) [.Call (.Name "zip" p2) [e, e2] [] cpos] [] pos) (tListZip X.K ta) := by
  refine ⟨fun pins s σ H Q I h => ?_⟩
  refine Call_ (ld_blt I hg hm PyProof.Rows.boot_list (PyProof.Rows.callWith_type1 (args_cons ?_ na) na))
  refine Call_ (ld_blt I hg2 hm2 PyProof.Rows.boot_zip (PyProof.Rows.callWith_type1 (thn (ha.run cpos pins s σ H _ I h) fun us s1 ⟨vs, H1, I1, r1, q1⟩ => ?_) hs hpl))
  obtain ⟨a, b, xs, ys, ex, hqx, hqy, hxy, hlen, q⟩ := q1
  subst ex
  cases r1 with
  | cons r rr =>
    cases rr with
    | cons r' rr =>
      cases rr
      cases r
      cases r'
      obtain ⟨its, rv, p1, _⟩ := I1.list hqx
      obtain ⟨its2, rv2, p2, _⟩ := I1.list hqy
      refine call_zip_2 p1.isList p2.isList fun h' hz hTI hTO h1 h2 hsz hk => ?_
      refine args_nil ?_
      have l1 := rv.length
      have l2 := rv2.length
      have k1 : ∀ c o, s1.heap.get? c = some o → c < s1.heap.objs.size := fun c o e => Heap.lt_size e
      refine zl_call (xs := its.toArray) (ys := its2.toArray) (I1.ok.hd hc) (PySem.W.ktu_apart s1.heap.objs.size a b p1.lt p2.lt) ⟨hTI, h1, h2, p1.isList.at fun o e => hk _ o e, p2.isList.at fun o e => hk _ o e, hz, _, _, hTO⟩ (by simp; omega) (by simp; exact Nat.le_trans (by omega) (show 1000000 ≤ sizeLine by decide)) fun g tk acc c as hk2 hS hl hG hacc => ?_
      have hkk : ∀ b o, s1.heap.get? b = some o → g.get? b = some o := fun b o e => by
        have lt := Heap.lt_size e
        exact hk2 b o (Nat.ne_of_lt (Nat.lt_of_lt_of_le lt (Nat.le_add_right _ _))) (Nat.ne_of_lt (Nat.lt_of_lt_of_le lt (Nat.le_add_right _ _))) (Nat.ne_of_lt lt) (Nat.ne_of_lt (Nat.lt_of_lt_of_le lt (Nat.le_add_right _ _))) (hk b o e)
      obtain ⟨H', a1, a2, a3, a4, a5, a6, J⟩ := zip_laid (tk := tk) I1 (Nat.le_trans hlen (by decide)) hxy rv rv2 hkk hS (hsz ▸ Nat.le_add_right _ _) (Nat.lt_succ_self _) (by rw [hl]; simp; omega) hG hacc
      exact ⟨.ref _, H', J, rfl, q H' _ as a1 a2 a3 a4 a5 (by rw [hl]; simp; omega) a6⟩
end
end Hr

set_option Elab.async false
set_option linter.all false
set_option maxRecDepth 100000
set_option maxHeartbeats 4000000
namespace Hr
open PySem PySem.Spec PyProof.Rows L2
/-- the slots, written out -/
theorem st_is {t : L2.St → Hp → Prop} {σ : L2.St} {H : Hp} (σ' : L2.St) (e : σ = σ') (h : t σ' H) : t σ H := e ▸ h
/-! lists of numbers -/
abbrev iV (l : List Int) : List V := l.map V.int
abbrev nV (l : List Nat) : List V := l.map fun i => V.int (i : Nat)
abbrev iD (l : List Int) : PyData := .list (l.map PyData.int)
abbrev nD (l : List Nat) : PyData := .list (l.map fun i => PyData.int (i : Nat))
theorem inV_int (i : Int) (l : List Int) : inV (.int i) (iV l) = decide (i ∈ l) := by
  induction l with
  | nil => rfl
  | cons x r ih =>
    have e : inV (.int i) (iV (x :: r)) = (eqV (.int x) (.int i) || inV (.int i) (iV r)) := rfl
    rw [e, ih]
    show ((x == i) || decide (i ∈ r)) = _
    rw [Bool.eq_iff_iff, Bool.or_eq_true_iff, beq_iff_eq, decide_eq_true_eq, decide_eq_true_eq, List.mem_cons]
    exact or_congr_left eq_comm
theorem nV_i (l : List Nat) : nV l = iV (l.map fun (i : Nat) => (i : Int)) := by rw [iV, List.map_map]; rfl
theorem inV_nat (i : Nat) (l : List Nat) : inV (.int (i : Nat)) (nV l) = decide (i ∈ l) := by
  rw [nV_i, inV_int, Bool.eq_iff_iff, decide_eq_true_eq, decide_eq_true_eq, List.mem_map]
  exact ⟨fun ⟨a, h1, h2⟩ => by rw [← Int.ofNat.inj h2]; exact h1, fun h => ⟨i, h, rfl⟩⟩
theorem flat_ints (l : List Int) : (iV l).all flatV = true := by
  rw [List.all_map, List.all_eq_true]
  intro x _
  rfl
theorem flat_nats (l : List Nat) : (nV l).all flatV = true := by
  rw [List.all_map, List.all_eq_true]
  intro x _
  rfl
theorem rg_nat (n : Nat) : rgV 0 (n : Int) = nV (List.range n) := by
  unfold rgV nV
  rw [show ((n : Int) - 0).toNat = n by omega]
  refine List.map_congr_left fun i _ => ?_
  rw [Int.zero_add]
theorem dpa_nats {K : PySem.W.Frag} {H : Hp} : ∀ (l : List Nat), DpAll K H (nV l) (l.map fun i => PyData.int (i : Nat))
  | [] => .nil
  | n :: r => .cons (.int _) (dpa_nats r)
theorem ints_inv {K : PySem.W.Frag} {H : Hp} : ∀ {vs : List V} {l : List Int}, DpAll K H vs (l.map PyData.int) → vs = iV l
  | _, [], h => by cases h; rfl
  | _, s :: r, h => by
    cases h with
    | cons a t =>
      cases a
      rw [ints_inv t]; rfl
theorem nats_inv {K : PySem.W.Frag} {H : Hp} : ∀ {vs : List V} {l : List Nat}, DpAll K H vs (l.map fun i => PyData.int (i : Nat)) → vs = nV l
  | _, [], h => by cases h; rfl
  | _, s :: r, h => by
    cases h with
    | cons a t =>
      cases a
      rw [nats_inv t]; rfl
theorem deep_int {n : Nat} {i : Int} : deep (n + 1) (.int i) = true := by unfold deep; rfl
theorem deep_bool {n : Nat} {i : Bool} : deep (n + 1) (.bool i) = true := by unfold deep; rfl
theorem deep_none {n : Nat} : deep (n + 1) .none = true := by unfold deep; rfl
theorem nD_deep {n : Nat} {l : List Nat} (h : l.length < 50000) : deep (n + 2) (nD l) = true :=
  deep_list_of (by rw [List.length_map]; exact h) fun d hd => by
    obtain ⟨z, _, rfl⟩ := List.mem_map.mp hd
    exact deep_int
theorem eqv_same {n : Nat} {d : PyData} (h : deep n d = true) : PyData.eqv d d = true := SeqAt.eqv_refl d (deep_lay n d h).1
/-- comparing a list of numbers with an equal one -/
theorem ne_nats {K : PySem.W.Frag} {H : Hp} {a b : Addr} {l m : List Nat} {Q : VK} (ha : H a = some (.lst (nV l))) (hb : H b = some (.lst (nV m))) (e : l = m) (hl : l.length < 50000) (q : Q (.bl false) H) : rNeD K (.ref a) (.ref b) H Q := by
  subst e
  refine ⟨nD l, nD l, .lst (SqL.of ha) (dpa_nats l), .lst (SqL.of hb) (dpa_nats l), deep_shaped (nD_deep (n := 0) hl) (by decide), deep_shaped (nD_deep (n := 0) hl) (by decide), ?_⟩
  rw [eqv_same (nD_deep (n := 0) hl)]
  exact q
/-- a comprehension with a test over a list of numbers -/
theorem lc_nats {J : It} {G : Hp → Prop} {l : List Nat} (w : Walk J (nV l).length G (YAt (nV l))) {g : TG} {tt : TT} {te : TE} {vs : List Nat} {σ : L2.St} {H1 : Hp} {D : Addr} {Qd : Hp → Prop} (hD : H1 D = none) (p : Nat → Bool) (hG : ∀ H, Same H1 H → G H) (hn : l.length < 100000)
    (hs : ∀ (i : Nat) H (R : V → Hp → Prop) (Z : Hp → Prop), i ∈ l → Same H1 H → (p i = true → ∀ H4, Same H H4 → R (.int (i : Nat)) H4) → (p i = false → ∀ H4, Same H H4 → Z H4) → g (.int (i : Nat)) (wipe σ vs) H fun σ2 H2 => wipe σ2 vs = wipe σ vs ∧ tt σ2 H2 fun b H3 => if b = true then te σ2 H3 R else Z H3)
    (hd : ∀ H, Same H1 H → H D = some (.lst (nV (l.filter p))) → Qd H) :
    ∃ W : Nat → Nat → Hp → Prop, (∃ m, W 0 m (upd H1 D (.lst []))) ∧ ∀ i m H, W i m H →
      (J.stop i H ∧ Qd H) ∨ (J.go i H ∧ ∃ Nx : Hp → Prop, (∀ H', Nx H' → ∃ m', m' < m ∧ W (i + 1) m' H') ∧ ∀ x H', J.yld i H x H' → g x (wipe σ vs) H' fun σ2 H2 => wipe σ2 vs = wipe σ vs ∧ tt σ2 H2 fun b H3 =>
        if b = true then te σ2 H3 fun y H4 => ∃ acc, H4 D = some (.lst acc) ∧ acc.length < sizeLine ∧ Nx (upd H4 D (.lst (acc ++ [y]))) else Nx H3) := by
  let pv : V → Bool := fun v => match v with | .int i => p i.toNat | _ => false
  refine lc_filt w hD (fun v => v) pv hG (by rw [List.length_map]; exact hn) (fun i x H R Z hx sm hr hz => ?_) (fun H sm hL => ?_)
  · rw [List.getElem?_map] at hx
    cases hl : l[i]? with
    | none => rw [hl] at hx; cases hx
    | some j =>
      rw [hl] at hx
      cases hx
      exact hs j H R Z (List.mem_of_getElem? hl) sm hr hz
  · refine hd H sm (hL.trans ?_)
    rw [List.map_id', nV, List.filter_map]
    rfl
end Hr

set_option Elab.async false
set_option linter.all false
set_option maxRecDepth 100000
set_option maxHeartbeats 4000000
namespace Hr
open PySem PySem.Spec PyProof.Rows L2
/-! ### a call by keywords alone, in any order -/
abbrev pick {α : Type} (ix : List Nat) (l : List α) : List α := ix.filterMap (l[·]?)
structure KwP (fd : FuncData) (ps ks : List Str) (ix : List Nat) : Prop where
  to : ∀ (s : Shared) (us : List Value), us.length = ks.length → BindsTo s fd ⟨[], ks.zip us⟩ (ps.zip (pick ix us))
  len : ks.length = ps.length
theorem vals_pick {vs : List V} {us : List Value} (h : Vals vs us) : ∀ ix : List Nat, Vals (pick ix vs) (pick ix us)
  | [] => .nil
  | i :: r => by
    unfold pick
    rw [List.filterMap_cons, List.filterMap_cons]
    have hl := h.length
    by_cases hi : i < vs.length
    · have h1 := List.getElem?_eq_getElem hi
      have h2 := List.getElem?_eq_getElem (show i < us.length by omega)
      rw [h1, h2]
      exact .cons (vals_get h h1 h2) (vals_pick h r)
    · rw [List.getElem?_eq_none (by omega), List.getElem?_eq_none (by omega)]
      exact vals_pick h r
def tKwP (sp : Sp) (E : XK) (ix : List Nat) (n : Nat) (tk : TA) : TE := fun σ H Q => tk σ H fun vs H1 => vs.length = n ∧ sp (pick ix vs) H1 Q E
section
variable {X : Cx} {CX : CXT} {k : Nat} {f : Addr} {fd : FuncData} {ps ks : List Str} {sp : Sp} {E : XK} {x : Str} {p pos : Pos} {kws : List Keyword} {tk : TA} {ix : List Nat}
theorem pe_kwP (F : FnOk X.prog X.w X.K X.mg X.base CX k f fd ps sp) (hr : Room k X.A) (hg : Gl X x) (hm : X.mg x = some (.ref f)) (hk : PySem.W.keepIn X.K (.ref f) = true) (hb : KwP fd ps ks ix) (hx : Passes CX X E) (hkw : PK X kws tk)
    (hall : (backToKw pos (keywordEach kws X.env)).all (·.1.isSome) = true := by rfl) (hks : (backToKw pos (keywordEach kws X.env)).filterMap (·.1) = ks := by rfl) (hdb : (x == ("__debug__" : Str)) = false := by decide)
    (hpl : ((backTo pos (starEach [] X.env)).any (·.1) || (backToKw pos (keywordEach kws X.env)).any (·.1.isNone)) = false := by rfl) :
    PE X (.Call (.Name x p) [] kws pos) (tKwP sp E ix ks.length tk) := by
  refine ⟨fun pins s σ H Q I h => ?_⟩
  refine wpAny_Call_Name_kw (ld_glob I hg hm ?_ hdb)
  refine PySem.W.callWith_KW0 (h₀ := X.base) I.ok.mod.kin hk hall ?_ hpl
  refine thn (hkw.run pos pins s σ H _ I h) fun us s1 ⟨vs, H1, I1, r, hvl, q⟩ => ⟨I1.kIn, ?_⟩
  rw [hks]
  have hl : us.length = ks.length := by rw [← r.length]; exact hvl
  refine wpAny_call (codeAny_mono (F.run X.A X.stack s1 H1 ⟨[], ks.zip us⟩ (pick ix us) (pick ix vs) Q E hr I1.env0 (hb.to s1 us hl) (vals_pick r ix) q) fun r s' hq => ?_)
  cases r with
  | error e => exact hx pins σ H1 s1 e s' I1 hq
  | ok fl =>
    cases fl with
    | ret u => exact I1.after hq
    | next => exact False.elim hq
    | brk => exact False.elim hq
    | cont => exact False.elim hq
end
theorem kp_of {K : PySem.W.Frag} {x qual : Str} {st : Stmt} {f : Addr} {fd : FuncData} {ps ks : List Str} {ix : List Nat} (F : Fun K x qual st f fd) (hl : ks.length = ps.length)
    (h : ∀ (kV doc pm : Value) (an : Option Addr) (cdv ct : Value) (us : List Value), us.length = ks.length → bindArgs (PySem.W.fnOf x qual (defArgs st) (defBody st) (defScope st) .none kV doc pm an cdv ct) ⟨[], ks.zip us⟩ = pure (ps.zip (pick ix us))) : KwP fd ps ks ix := by
  obtain ⟨oc, od, kV, doc, pm, an, cdv, ct, osl, rfl, lk, hcd⟩ := F.ex
  exact ⟨fun s us hl => .of_eq (h kV doc pm an cdv ct us hl), hl⟩
/-! ### min with a default -/
def minI : List Int → Option Int
  | [] => none
  | y :: ys => some (PySem.W.minOf y ys)
@[irreducible] def rMinD (K : PySem.W.Frag) : List V → List V → Hp → VK → Prop := fun vs zs H Q => ∃ (a : Addr) (ns : List Int) (d : V), vs = [.ref a] ∧ zs = [d] ∧ SqL K H a (ns.map V.int) ∧ Q (match minI ns with | none => d | some i => .int i) H
theorem cr_minD {X : Cx} (hc : X.calm = true) (hu : X.A.units + 64 < cLine) : CallRK X (.builtin "min") [Str.ofString "default"] (rMinD X.K) := by
  intro pins s σ H vs zs us ws Q I r rz h
  unfold rMinD at h
  obtain ⟨a, ns, d, rfl, rfl, hs, q⟩ := h
  obtain rfl := Vals.ref1 r
  obtain ⟨w1, rfl, rd⟩ := vals1 rz
  obtain ⟨its, rv, hl, _⟩ := I.list hs
  obtain ⟨as, ra⟩ := Dp.readsAll I (ns.map PyData.int) _ _ (dpa_ints ns) rv
  refine PySem.W.min_list_datum_default (α := Int) (xs := ns) (I.ok.hd hc) hl.isList ⟨as, ra⟩ (by show X.A.units + 1 + 0 < cLine; omega) (fun e h' tk k => ?_) fun y ys i v h' tk e hv hh k => ?_
  · subst e
    exact ⟨d, H, I.kept k, rd, q⟩
  · subst e
    obtain ⟨bs, rd⟩ := hh
    cases rd
    exact ⟨.int _, H, I.kept k, ⟨_, rfl⟩, q⟩
theorem cr_minDK {X : Cx} {K : PySem.W.Frag} (hc : X.calm = true) (hu : X.A.units + 64 < cLine) (e : X.K = K := by rfl) : CallRK X (.builtin "min") [Str.ofString "default"] (rMinD K) := e ▸ cr_minD hc hu
theorem minOf_mem : ∀ (ys : List Int) (y : Int), PySem.W.minOf y ys ∈ y :: ys := by
  intro ys
  unfold PySem.W.minOf
  induction ys with
  | nil => intro y; simp
  | cons x r ih =>
    intro y
    rw [List.foldl_cons]
    split
    · exact List.mem_cons_of_mem _ (ih x)
    · rcases List.mem_cons.mp (ih y) with h | h
      · rw [h]; exact List.mem_cons_self
      · exact List.mem_cons_of_mem _ (List.mem_cons_of_mem _ h)
theorem minOf_le : ∀ (ys : List Int) (y : Int), ∀ x ∈ y :: ys, PySem.W.minOf y ys ≤ x := by
  intro ys
  unfold PySem.W.minOf
  induction ys with
  | nil => intro y x hx; rw [List.mem_singleton.mp hx]; exact Int.le_refl _
  | cons z r ih =>
    intro y x hx
    rw [List.foldl_cons]
    have hlt : ∀ a b : Int, PySem.W.DatumOrd.lt a b = true ↔ a < b := fun a b => by
      show decide (a < b) = true ↔ _
      exact decide_eq_true_iff
    split
    · rename_i h
      have h' := (hlt _ _).mp h
      rcases List.mem_cons.mp hx with rfl | hx
      · have := ih z z List.mem_cons_self
        omega
      · exact ih z x hx
    · rename_i h
      have h' : ¬ z < y := fun q => h ((hlt _ _).mpr q)
      rcases List.mem_cons.mp hx with rfl | hx
      · exact ih x x List.mem_cons_self
      · rcases List.mem_cons.mp hx with rfl | hx
        · have := ih y y List.mem_cons_self
          omega
        · exact ih y x (List.mem_cons_of_mem _ hx)
theorem minI_some {l : List Int} {i : Int} (h : i ∈ l) (hl : ∀ x ∈ l, i ≤ x) : minI l = some i := by
  cases l with
  | nil => cases h
  | cons y ys =>
    show some (PySem.W.minOf y ys) = some i
    have h1 := minOf_le ys y i h
    have h2 := hl _ (minOf_mem ys y)
    congr 1
    omega
/-- a list of numbers that are those below n with p: its least is the first one found -/
theorem minI_find {l : List Nat} {n : Nat} {p : Nat → Bool} (h : ∀ i, i ∈ l ↔ i < n ∧ p i = true) : minI (l.map fun (i : Nat) => (i : Int)) = ((List.range n).find? p).map fun (i : Nat) => (i : Int) := by
  cases hf : (List.range n).find? p with
  | none =>
    rw [List.find?_range_eq_none] at hf
    cases l with
    | nil => rfl
    | cons x r =>
      have := (h x).mp List.mem_cons_self
      have h2 := hf x this.1
      rw [this.2] at h2
      cases h2
  | some i =>
    rw [List.find?_range_eq_some] at hf
    refine minI_some (List.mem_map.mpr ⟨i, (h i).mpr ⟨by simpa using hf.2.1, hf.1⟩, rfl⟩) fun x hx => ?_
    obtain ⟨j, hj, rfl⟩ := List.mem_map.mp hx
    have k := (h j).mp hj
    by_cases hji : j < i
    · have h2 := hf.2.2 j hji
      rw [k.2] at h2
      cases h2
    · show (i : Int) ≤ (j : Int)
      omega
end Hr
namespace Hr
open PySem PySem.Spec PyProof.Rows L2
theorem pe_revLK {X : Cx} {K : PySem.W.Frag} {e : Expr} {te : TE} {k : Nat} {p1 p2 p3 pos : Pos} (he : PE X e te) (hK : X.K = K := by rfl) : PE X (.Subscript e (.Slice none none (some (.UnaryOp .USub (.Constant (.int 1) k p1) p2)) p3) pos) (tRevL K te) := hK ▸ pe_revL he
/-- one statement, then the others: what stands between them -/
theorem seq_join {s1 s2 : TS} {D : Ends} {σ : L2.St} {H : Hp} (J : L2.St → Hp → Prop) (h1 : ∀ N : L2.St → Hp → Prop, (∀ σ' H', J σ' H' → N σ' H') → s1 { D with nx := N } σ H) (h2 : ∀ σ' H', J σ' H' → s2 D σ' H') : tSeq s1 s2 D σ H := h1 _ h2
end Hr

set_option Elab.async false
set_option linter.all false
set_option maxRecDepth 100000
set_option maxHeartbeats 4000000
/-! enumerate(tuple); tuple(list) whose object is known -/
namespace Hr
open PySem PySem.Spec PyProof.Rows L2
set_option maxHeartbeats 8000000 in
theorem meets_enum1B {v : Value} {o : Obj} {H : Heap → Prop} (B : Begins v o H) :
    Meets (Builtin.«enumerate.__new__» ⟨[.type "enumerate", v], []⟩) (fun _ R s => H s.heap ∧
      R (.ok (.ret (.ref (s.heap.push o).objs.size))) { s with heap := (s.heap.push o).push { cls := .type "enumerate", data := .fields #[.none, .bool false, .ref s.heap.objs.size, rawInt 0, .none, .none] } }) :=
  .of_wp fun prog w A R s h => by
    obtain ⟨hp, g, d, tk, os⟩ := s; obtain ⟨h1, h⟩ := h
    have hsub := sub_enumerate
    have q1 : ∀ {A' : Around} {E : Value → Shared → Prop} {Q : Value → Shared → Prop}, Q (.ref hp.objs.size) ⟨hp.push o, g, d, tk, os⟩ → wpAny (model prog w) A' (pyIter v) Q E ⟨hp, g, d, tk, os⟩ :=
      fun q => B.iter prog w _ _ ⟨hp, g, d, tk, os⟩ _ h1 q
    wp_walk using q1
    refine wpAny_stack_any fun st => wpAny_pure ?_
    split
    · rename_i c _ _ _ _ _
      cases (c == Value.type "enumerate")
      · wp_walk using q1
        exact ⟨_, rfl, h⟩
      · wp_walk using q1
        exact ⟨_, rfl, h⟩
    · wp_walk using q1
      exact ⟨_, rfl, h⟩
section
variable {prog : Program} {w : World} {A : Around} {E : Value → Shared → Prop} {s : Shared}
theorem call_enum1 {v : Value} {o : Obj} {H : Heap → Prop} {Q : Value → Shared → Prop} (B : Begins v o H) (h1 : H s.heap)
    (h : ∀ h', IsEnum h' (s.heap.objs.size + 1) s.heap.objs.size 0 .none → h'.get? s.heap.objs.size = some o → h'.objs.size = s.heap.objs.size + 2 →
      (∀ b o, s.heap.get? b = some o → h'.get? b = some o) → Q (.ref (s.heap.objs.size + 1)) { s with heap := h' }) :
    wpAny (model prog w) A (call (.type "enumerate") [v]) Q E s := by
  refine callType_new F.called_enumerate (by decide) (F.typeCall_enumerate_1 _) (F.newCall_enumerate_1 _) (fun obj => F.args_object_init_2 obj _) F.entry_enumerate_new
    (meets_enum1B B) ⟨h1, ?_⟩
  have hz : (s.heap.push o).objs.size = s.heap.objs.size + 1 := Heap.size_push ..
  show _ ∧ _
  rw [hz]
  have he : IsEnum ((s.heap.push o).push { cls := .type "enumerate", data := .fields #[.none, .bool false, .ref s.heap.objs.size, rawInt 0, .none, .none] }) (s.heap.objs.size + 1) s.heap.objs.size 0 .none := by
    have := Heap.get?_push_size (s.heap.push o) (o := { cls := .type "enumerate", data := .fields #[.none, .bool false, .ref s.heap.objs.size, rawInt 0, .none, .none] }) rfl
    rw [hz] at this; exact this
  refine ⟨⟨_, he, rfl⟩, h _ he (Heap.get?_push_of_some _ (Heap.get?_push_size _ B.free)) (by rw [Heap.size_push, hz]) fun b o x => Heap.get?_push_of_some _ (Heap.get?_push_of_some _ x)⟩
end
/-- the tuple at a as it stands at each turn, the items in new pairs -/
def IteT (K : PySem.W.Frag) (a : Addr) : It :=
  ⟨fun i H => ∃ (xs : List V) (x : V), SqT K H a xs ∧ xs[i]? = some x, fun i H v H' => ∃ T x, v = .ref T ∧ H T = none ∧ H' = upd H T (.tup [.int (i : Nat), x]) ∧ ∀ xs, SqT K H a xs → xs[i]? = some x, fun i H => ∃ xs : List V, SqT K H a xs ∧ xs.length = i⟩
theorem turn_enumT {P : Program} {w : World} {K : PySem.W.Frag} {elts : List Expr} {kk : Nat} {tpos : Pos} (a e it : Addr) (hae : a ≠ e) (hai : a ≠ it) :
    Turn P w K (.Tuple elts kk tpos) (IteT K a) [e, it] e (fun i h => (∃ old, IsEnum h e it ((i : Nat) : Int) old) ∧ h.IsTupleIter it a i ∧ e ≠ it) where
  mem := by simp
  obj := fun i h st b hb => by
    obtain ⟨⟨old, he⟩, ⟨o, ho, hc, hd⟩, _⟩ := st
    have e' : b = e ∨ b = it := by simpa using hb
    rcases e' with z | z
    · rw [z]; exact ⟨_, he, fun v q => nomatch q⟩
    · rw [z]; exact ⟨o, ho, fun v q => by rw [hd] at q; cases q⟩
  keep := fun i h h' st k => let ⟨⟨old, he⟩, hi, hne⟩ := st; ⟨⟨old, k e (by simp) _ he⟩, hi.at fun o q => k it (by simp) o q, hne⟩
  item := by
    intro X hP hw hK hc i pins s σ H E I hf st hg
    subst hP hw hK
    obtain ⟨⟨old, he⟩, hit, hne⟩ := st
    obtain ⟨xs, x, hq, hx⟩ := hg
    obtain ⟨its, rv, p, hz⟩ := I.tuple hq
    obtain ⟨u, hu, ru⟩ := rv.get hx
    have hel : e < s.heap.objs.size := Heap.lt_size he
    have hil : it < s.heap.objs.size := by obtain ⟨_, q, _⟩ := hit; exact Heap.lt_size q
    have hlt : i < its.toArray.size := by
      have := (List.getElem?_eq_some_iff.mp hu).1
      simpa using this
    refine wpAny_pyNext_enum_itemC (Draws.tuple (A := X.A.in1) (I.ok.hd hc) it a hai its.toArray) he ⟨hit, show s.heap.IsTuple a its.toArray from p⟩ hlt hne (by simp [hne, Ne.symm hae]) fun x' h' tk hx' ho hst hT hsz hk => ?_
    have ex : x' = u := by
      have h1 : its.toArray[i]? = some x' := hx'
      have h2 : its.toArray[i]? = some u := by simpa using hu
      exact Option.some.inj (h1.symm.trans h2)
    subst ex
    refine ⟨_, rfl, wpAny_letOwnedTupleGo_enum (s := { s with heap := h', toks := tk + 1 }) ho fun h'' he' sb => ?_⟩
    have hT2 : h''.get? s.heap.objs.size = some { cls := .type "tuple", data := .seq #[.int i tk, x'] } := (sb.2 _ (Nat.ne_of_gt hel)).trans hT
    have new : ObjOk X.prog X.w (upd H s.heap.objs.size (.tup [.int (i : Nat), x])) h'' s.heap.objs.size (.tup [.int (i : Nat), x]) :=
      ⟨by show 2 ≤ sizeLine; decide, [.int i tk, x'], .cons ⟨_, rfl⟩ (.cons ru .nil), ⟨_, hT2, rfl, _, rfl⟩⟩
    have I1 : Inv X pins σ (upd H s.heap.objs.size (.tup [.int (i : Nat), x])) { s with heap := h'', toks := tk + 1 } :=
      I.turnedNew (ch := [e, it]) (fun b ob hb q => (sb.2 b (fun z => hb (by simp [z]))).trans (hk b ob (fun z => hb (by simp [z])) (fun z => hb (by simp [z])) q)) hf (Nat.le_refl _) new
    refine ⟨.ref s.heap.objs.size, _, I1, rfl, ⟨_, x, rfl, I.hok.fresh (Nat.le_refl _), rfl, fun ys hy => by rw [I.tuple_inj hy hq]; exact hx⟩, ⟨⟨x', ?_⟩, hst.1.at fun o q => (sb.2 it (Ne.symm hne)).trans q, hne⟩, fun b hb => ?_⟩
    · have e1 : ((i + 1 : Nat) : Int) = (i : Int) + 1 := by omega
      rw [e1]; exact he'
    · have hb' : b < s.heap.objs.size := by
        have e' : b = e ∨ b = it := by simpa using hb
        rcases e' with z | z
        · rw [z]; exact hel
        · rw [z]; exact hil
      rw [upd_ne (Nat.ne_of_lt hb')]
      exact (hf b hb).1
  done := by
    intro X hP hw hK hc i pins s σ H E I hf st hg
    subst hP hw hK
    obtain ⟨⟨old, he⟩, hit, hne⟩ := st
    obtain ⟨xs, hq, hx⟩ := hg
    obtain ⟨its, rv, p, hz⟩ := I.tuple hq
    obtain ⟨f0, f1, f2, f3, f4, f5⟩ := hf it (by simp)
    have hl := rv.length
    have ei : i = its.toArray.size := by simp; omega
    refine wpAny_pyNext_enum_endD (Draws.tuple (A := X.A.in1) (I.ok.hd hc) it a hai its.toArray) he (ei ▸ ⟨hit, show s.heap.IsTuple a its.toArray from p⟩) fun h' eb => ⟨rfl, I.turned (t' := s.toks) (fun b o hb q => eb b o hb q) f0 f1 f3 f4 f5⟩
  self := fun A i s Q E st h => let ⟨⟨_, he⟩, _⟩ := st; wpAny_pyIter_enum he h
def iEnumA (K : PySem.W.Frag) (ta : TA) : TI := fun σ H R => ta σ H fun vs H1 => ∃ a xs, vs = [.ref a] ∧ ((SqL K H1 a xs ∧ R (Ite K a) H1) ∨ (SqT K H1 a xs ∧ R (IteT K a) H1))
theorem pi_enumA {X : Cx} {e : Expr} {ta : TA} {p pos tpos : Pos} {elts : List Expr} {kk : Nat} (hg : Gl X "enumerate") (hm : X.mg "enumerate" = none) (ha : PA X [e] ta) (hs : starEach [e] X.env = [(false, eval e X.env)] := by rfl) :
    PI X (.Tuple elts kk tpos) (.Call (.Name "enumerate" p) [e] [] pos) (iEnumA X.K ta) := by
  refine ⟨fun pins s σ H R I h => ?_⟩
  refine Call_ (ld_blt I hg hm boot_enumerate (PyProof.Rows.callWith_type1 (thn (ha.run pos pins s σ H _ I h) fun us s1 ⟨vs, H1, I1, r1, q1⟩ => ?_) hs rfl))
  obtain ⟨a, xs, ex, q⟩ := q1
  subst ex
  cases r1 with
  | cons r rr =>
    cases rr
    cases r
    have fresh : ∀ b, b ∈ [s1.heap.objs.size + 1, s1.heap.objs.size] → FpOk X pins H1 b := fun b hb => by
      have e' : b = s1.heap.objs.size + 1 ∨ b = s1.heap.objs.size := by simpa using hb
      have hle : s1.heap.objs.size ≤ b := by
        rcases e' with z | z
        · rw [z]; exact Nat.le_add_right _ _
        · rw [z]; exact Nat.le_refl _
      exact I1.fpOk hle (I1.hok.fresh hle)
    rcases q with ⟨hq, q⟩ | ⟨hq, q⟩
    · obtain ⟨its, rv, p', hz⟩ := I1.list hq
      refine call_enumerate_list p'.isList fun h' he hit hsz hk => wpAny_pyIter_enum he ?_
      have I2 : Inv X pins σ H1 { s1 with heap := h' } := I1.kept (t' := s1.toks) hk
      exact ⟨s1.heap.objs.size + 1, [s1.heap.objs.size + 1, s1.heap.objs.size], _, _, H1, rfl, I2, turn_enum a (s1.heap.objs.size + 1) s1.heap.objs.size, ⟨⟨.none, he⟩, hit, Nat.succ_ne_self _⟩, fresh, q⟩
    · obtain ⟨its, rv, p', hz⟩ := I1.tuple hq
      have ht : s1.heap.IsTuple a its.toArray := p'
      have hal : a < s1.heap.objs.size := by obtain ⟨o, ho, _⟩ := id ht; exact Heap.lt_size ho
      refine call_enum1 (begins_tuple a its.toArray) ht fun h' he ho hsz hk => wpAny_pyIter_enum he ?_
      have I2 : Inv X pins σ H1 { s1 with heap := h' } := I1.kept (t' := s1.toks) hk
      exact ⟨s1.heap.objs.size + 1, [s1.heap.objs.size + 1, s1.heap.objs.size], _, _, H1, rfl, I2, turn_enumT a (s1.heap.objs.size + 1) s1.heap.objs.size (Nat.ne_of_lt (Nat.lt_succ_of_lt hal)) (Nat.ne_of_lt hal), ⟨⟨.none, he⟩, ⟨_, ho, rfl, rfl⟩, Nat.succ_ne_self _⟩, fresh, q⟩
theorem walk_enumT {K : PySem.W.Frag} {a : Addr} {xs : List V} : Walk (IteT K a) xs.length (fun H => SqT K H a xs) (YPair (fun i => some (.int (i : Nat))) (fun i => xs[i]?)) := by
  refine ⟨fun i _ hi q => ⟨xs, xs[i], q, by simp [hi]⟩, fun _ q => ⟨xs, q, rfl⟩, fun i H v H' _ q y => ?_⟩
  obtain ⟨T, x, h1, h2, h3, h4⟩ := y
  exact ⟨T, .int (i : Nat), x, h1, h2, h3, rfl, h4 xs q⟩
def rTupF (K : PySem.W.Frag) : List V → Hp → VK → Prop := fun xs H Q => ∃ p ys, xs = [.ref p] ∧ SqL K H p ys ∧ ∀ l o, H l = none → o.dict = none → Q (.ref l) (upd H l (.frz o (.tup ys)))
section
variable {X : Cx}
theorem call_tupF : CallR X (.type "tuple") (rTupF X.K) := by
  intro pins s σ H xs us Q I r h
  obtain ⟨p, ys, rfl, hq, q⟩ := h
  obtain ⟨u, rfl, rx⟩ := vals1 r
  cases rx
  obtain ⟨its, r', pl, hz⟩ := I.list hq
  have hlen := r'.length
  refine call_tuple_list pl.isList (fun h' kp => ?_) (by simp only [List.size_toArray] <;> omega)
  have I1 : Inv X pins σ H { s with heap := h' } := I.kept (t' := s.toks) kp
  have I2 : Inv X pins σ (upd H h'.objs.size (.frz { cls := .type "tuple", data := .seq its.toArray } (.tup ys))) { s with heap := h'.push { cls := .type "tuple", data := .seq its.toArray } } :=
    I1.laid (t' := s.toks) (fun b o e => Heap.get?_push_of_some _ e) (Nat.le_refl _) (show ObjOk X.prog X.w _ _ _ (.frz _ (.tup ys)) from ⟨Heap.get?_push_size _ rfl, hz, its, r', IsTup.new _ _⟩)
  exact ⟨.ref h'.objs.size, _, I2, rfl, q _ _ (I1.hok.fresh (Nat.le_refl _)) rfl⟩
theorem call_tupFK {K : PySem.W.Frag} (e : X.K = K := by rfl) : CallR X (.type "tuple") (rTupF K) := e ▸ call_tupF
theorem pi_enumAK {K : PySem.W.Frag} {e : Expr} {ta : TA} {p pos tpos : Pos} {elts : List Expr} {kk : Nat} (hg : Gl X "enumerate") (hm : X.mg "enumerate" = none) (ha : PA X [e] ta) (hs : starEach [e] X.env = [(false, eval e X.env)] := by rfl) (hK : X.K = K := by rfl) :
    PI X (.Tuple elts kk tpos) (.Call (.Name "enumerate" p) [e] [] pos) (iEnumA K ta) := hK ▸ pi_enumA hg hm ha hs
end
end Hr

set_option Elab.async false
set_option linter.all false
set_option maxRecDepth 100000
set_option maxHeartbeats 4000000
/-! defs with a default (); walks over a list or a tuple; zip of tuples of any lengths -/
namespace Hr
open PySem PySem.Spec PyProof.Rows L2
theorem funD_mk {K : PySem.W.Frag} {x qual : Str} {st : Stmt} {f T e : Addr} {oc ocT : Value} {od an odT : Option Addr} {osl slT : Array (Option Value)} {kV doc pm cdv ct : Value} {n : Nat}
    (l : K.lookup f = some ⟨oc, od, .func (PySem.W.fnOf x qual (defArgs st) (defBody st) (defScope st) (.ref T) kV doc pm an cdv ct), osl⟩)
    (c : PySem.W.codeIn K cdv qual = true) (k : PySem.W.keepIn K (.ref f) = true) (lT : K.lookup T = some ⟨ocT, odT, .seq #[.ref e] n, slT⟩) :
    FunD K x qual (defArgs st) (defBody st) (defScope st) [.ref e] [] f (PySem.W.fnOf x qual (defArgs st) (defBody st) (defScope st) (.ref T) kV doc pm an cdv ct) :=
  ⟨⟨oc, od, .ref T, kV, doc, pm, an, cdv, ct, osl, rfl, l, c, .inr ⟨by simp, T, _, [.ref e], n, rfl, lT, rfl, .cons rfl .nil⟩, .inl rfl⟩, k⟩
theorem bindsD_all {K : PySem.W.Frag} {fd : FuncData} {ps : List Str} {v : V} (h : ∃ ds, Vals (([v] : List V).drop 1) ds ∧ Binds K fd ps ds) : Binds K fd ps [] := by
  obtain ⟨ds, h1, h2⟩ := h
  cases h1
  exact h2
theorem sqT_empty {K : PySem.W.Frag} {H : Hp} {e : Addr} {n : Nat} {sl : Array (Option Value)} (h : K.lookup e = some ⟨.type "tuple", none, .seq #[] n, sl⟩) : SqT K H e [] :=
  .inr ⟨_, #[], n, h, rfl, rfl, Nat.zero_le _, .nil⟩
section
variable {X : Cx} {tg : Expr}
def iSeq (K : PySem.W.Frag) (tl : TE) : TI := fun σ H R => tl σ H fun x H1 => ∃ a, x = .ref a ∧ (((∃ xs, SqL K H1 a xs) ∧ R (Itl K a) H1) ∨ ((∃ xs, SqT K H1 a xs) ∧ R (Itt K a) H1))
theorem pi_seqK {K : PySem.W.Frag} {l : Expr} {tl : TE} (hl : PE X l tl) (hK : X.K = K := by rfl) : PI X tg l (iSeq K tl) := by
  subst hK
  refine ⟨fun pins s σ H R I h => ?_⟩
  refine thn (hl.run pins s σ H _ I h) fun v s1 ⟨x, H1, I1, r1, q1⟩ => ?_
  obtain ⟨a, e, q1⟩ := q1
  subst e
  cases r1
  rcases q1 with ⟨⟨xs, hq⟩, q⟩ | ⟨⟨xs, hq⟩, q⟩
  · obtain ⟨its, rv, p, hz⟩ := I1.list hq
    refine wpAny_pyIter_list p.isList ?_
    refine ⟨s1.heap.objs.size, [s1.heap.objs.size], _, _, H1, rfl, I1.kept (t' := s1.toks) fun b o e => Heap.get?_push_of_some _ e, turn_list a _, ⟨_, Heap.get?_push_size _ rfl, rfl, rfl⟩, fun b hb => ?_, q⟩
    have e : b = s1.heap.objs.size := by simpa using hb
    subst e
    exact I1.fpOk (Nat.le_refl _) (I1.hok.fresh (Nat.le_refl _))
  · obtain ⟨its, rv, p, hz⟩ := I1.tuple hq
    refine wpAny_pyIter_tuple (show s1.heap.IsTuple a its.toArray from p) ?_
    refine ⟨s1.heap.objs.size, [s1.heap.objs.size], _, _, H1, rfl, I1.kept (t' := s1.toks) fun b o e => Heap.get?_push_of_some _ e, turn_tuple a _, ⟨_, Heap.get?_push_size _ rfl, rfl, rfl⟩, fun b hb => ?_, q⟩
    have e : b = s1.heap.objs.size := by simpa using hb
    subst e
    exact I1.fpOk (Nat.le_refl _) (I1.hok.fresh (Nat.le_refl _))
end
theorem walk_zipTm {K : PySem.W.Frag} {a b : Addr} {xs ys : List V} {n : Nat} (hn : n = min xs.length ys.length) : Walk (RZ.ItzT K a b) n (fun H => SqT K H a xs ∧ SqT K H b ys) (YPair (fun i => xs[i]?) (fun i => ys[i]?)) := by
  subst hn
  refine ⟨fun i _ hi q => ?_, fun _ q => ⟨xs, ys, q.1, q.2, by omega⟩, fun i H v H' _ q y => ?_⟩
  · have h1 : i < xs.length := by omega
    have h2 : i < ys.length := by omega
    exact ⟨xs, ys, xs[i], ys[i], q.1, q.2, by simp [h1], by simp [h2]⟩
  · obtain ⟨T, x, z, h1, h2, h3, h4, h5⟩ := y
    exact ⟨T, x, z, h1, h2, h3, h4 xs q.1, h5 ys q.2⟩
/-! ### problems as data -/
abbrev Pr2 := Nat × Nat
abbrev Rp := List Nat × List Nat
def nTD (l : List Nat) : PyData := .tuple (l.map fun i => PyData.int (i : Nat))
def pD (p : Pr2) : PyData := .tuple [.int (p.1 : Nat), .int (p.2 : Nat)]
def rD (r : Rp) : PyData := .tuple [nTD r.1, nTD r.2]
/-- a list or a tuple of data -/
def SqA (K : PySem.W.Frag) (H : Hp) (v : V) (ds : List PyData) : Prop := ∃ a xs, v = .ref a ∧ (SqL K H a xs ∨ SqT K H a xs) ∧ DpAll K H xs ds
theorem SqA.same {K : PySem.W.Frag} {H H' : Hp} {v : V} {ds : List PyData} (h : SqA K H v ds) (s : Same H H') : SqA K H' v ds := by
  obtain ⟨a, xs, e, h1, h2⟩ := h
  exact ⟨a, xs, e, h1.imp s.seq (Same.seqT s), dpa_mono s h2⟩
theorem SqA.lst {K : PySem.W.Frag} {H : Hp} {v : V} {ds : List PyData} (h : Dp K H v (.list ds)) : SqA K H v ds := by
  cases h with
  | lst h1 h2 => exact ⟨_, _, rfl, .inl h1, h2⟩
theorem SqA.tup {K : PySem.W.Frag} {H : Hp} {v : V} {ds : List PyData} (h : Dp K H v (.tuple ds)) : SqA K H v ds := by
  cases h with
  | tup h1 h2 => exact ⟨_, _, rfl, .inr h1, h2⟩
def Asc (l : List Nat) : Prop := l.Pairwise (· < ·)
structure POk (n : Nat) (ps : List Pr2) (rs : List Rp) : Prop where
  size : n ≤ 30
  pairs : ∀ p ∈ ps, p.1 ≠ p.2 ∧ p.1 < n ∧ p.2 < n
  reps : ∀ r ∈ rs, r.1 ≠ [] ∧ Asc r.1 ∧ Asc r.2 ∧ (∀ x ∈ r.1, x < n) ∧ ∀ x ∈ r.2, x ∈ r.1
  np : ps.length ≤ 1200
  nr : rs.length ≤ 200
theorem asc_from {n : Nat} : ∀ {l : List Nat} {m : Nat}, Asc l → (∀ x ∈ l, m ≤ x ∧ x < n) → l.length + m ≤ n ∨ l = []
  | [], _, _, _ => .inr rfl
  | x :: r, m, h, hb => by
    have h' := List.pairwise_cons.mp h
    have hx := hb x List.mem_cons_self
    rcases asc_from (l := r) (m := x + 1) h'.2 (fun y hy => ⟨h'.1 y hy, (hb y (List.mem_cons_of_mem _ hy)).2⟩) with k | k
    · left
      rw [List.length_cons]
      omega
    · subst k
      left
      show 1 + m ≤ n
      omega
theorem asc_le {n : Nat} {l : List Nat} (h : Asc l) (hb : ∀ x ∈ l, x < n) : l.length ≤ n := by
  rcases asc_from (m := 0) h (fun x hx => ⟨Nat.zero_le _, hb x hx⟩) with k | k
  · omega
  · subst k
    exact Nat.zero_le _
theorem nt_open {K : PySem.W.Frag} {H : Hp} {v : V} {l : List Nat} (h : Dp K H v (nTD l)) : ∃ a, v = .ref a ∧ SqT K H a (nV l) := by
  unfold nTD at h
  cases h with
  | tup h1 h2 =>
    obtain rfl := nats_inv h2
    exact ⟨_, rfl, h1⟩
theorem p_open {K : PySem.W.Frag} {H : Hp} {v : V} {p : Pr2} (h : Dp K H v (pD p)) : ∃ a, v = .ref a ∧ SqT K H a [.int (p.1 : Nat), .int (p.2 : Nat)] := by
  unfold pD at h
  cases h with
  | tup h1 h2 =>
    cases h2 with
    | cons y1 r1 =>
      cases y1
      cases r1 with
      | cons y2 r2 =>
        cases y2
        cases r2
        exact ⟨_, rfl, h1⟩
theorem r_open {K : PySem.W.Frag} {H : Hp} {v : V} {r : Rp} (h : Dp K H v (rD r)) : ∃ a s g, v = .ref a ∧ SqT K H a [.ref s, .ref g] ∧ SqT K H s (nV r.1) ∧ SqT K H g (nV r.2) := by
  unfold rD at h
  cases h with
  | tup h1 h2 =>
    cases h2 with
    | cons y1 r1 =>
      obtain ⟨s, rfl, hs⟩ := nt_open y1
      cases r1 with
      | cons y2 r2 =>
        obtain ⟨g, rfl, hg⟩ := nt_open y2
        cases r2
        exact ⟨_, s, g, rfl, h1, hs, hg⟩
theorem cut1 {K : PySem.W.Frag} {H : Hp} {a : Addr} {xs : List V} {Q : V → Hp → Prop} (h : SqT K H a xs) (q : ∀ b H', Same H H' → SqT K H' b xs.tail → Q (.ref b) H') :
    ((HT.sIx xs.length 0 (some 1) = 0 ∧ HT.sIx xs.length xs.length none = xs.length) → Q (.ref a) H) ∧ (¬ (HT.sIx xs.length 0 (some 1) = 0 ∧ HT.sIx xs.length xs.length none = xs.length) → ∀ b, H b = none → Q (.ref b) (upd H b (.tup (cutV xs (some 1) none)))) := by
  cases xs with
  | nil => exact ⟨fun _ => q a H (Same.refl _) h, fun z => absurd ⟨rfl, rfl⟩ z⟩
  | cons x r =>
    refine ⟨fun z => absurd z (cut_tail_ne _ _), fun _ b hb => ?_⟩
    rw [cut_tail]
    exact q b _ (same_new hb) (SqT.of upd_same)
theorem tsl_tail {K : PySem.W.Frag} {σ : L2.St} {H : Hp} {i : Nat} {a : Addr} {xs : List V} {Q : VK} (hv : σ[i]? = some (some (.ref a))) (h : SqT K H a xs) (q : ∀ b H', Same H H' → SqT K H' b xs.tail → Q (.ref b) H') :
    tSl (rSlA K) (tVar i) (tPart (tC (.int 1))) tNoPart σ H Q := ⟨_, hv, 1, rfl, a, _, rfl, h, cut1 h q⟩
theorem enumA_var {K : PySem.W.Frag} {σ : L2.St} {H : Hp} {i : Nat} {a : Addr} {xs : List V} {R : It → Hp → Prop} (hv : σ[i]? = some (some (.ref a))) (h : SqL K H a xs ∨ SqT K H a xs)
    (q : ∀ (J : It) (G : Hp → Prop), Walk J xs.length G (YPair (fun i => some (.int (i : Nat))) (fun i => xs[i]?)) → (∀ H', Same H H' → G H') → R J H) : iEnumA K (tCons (tVar i) tNil) σ H R := by
  refine ⟨_, hv, a, xs, rfl, ?_⟩
  rcases h with h | h
  · exact .inl ⟨h, q _ _ walk_enum fun H' s => s.seq h⟩
  · exact .inr ⟨h, q _ _ walk_enumT fun H' s => Same.seqT s h⟩
theorem seq_var {K : PySem.W.Frag} {σ : L2.St} {H : Hp} {i : Nat} {a : Addr} {xs : List V} {R : It → Hp → Prop} (hv : σ[i]? = some (some (.ref a))) (h : SqL K H a xs ∨ SqT K H a xs)
    (q : ∀ (J : It) (G : Hp → Prop), Walk J xs.length G (YAt xs) → (∀ H', Same H H' → G H') → R J H) : iSeq K (tVar i) σ H R := by
  refine ⟨_, hv, a, rfl, ?_⟩
  rcases h with h | h
  · exact .inl ⟨⟨_, h⟩, q _ _ walk_list fun H' s => s.seq h⟩
  · exact .inr ⟨⟨_, h⟩, q _ _ walk_tup fun H' s => Same.seqT s h⟩
theorem for_enumA {K : PySem.W.Frag} {g : TG} {tb : TS} {D : Ends} {σ : L2.St} {H : Hp} {i : Nat} {a : Addr} {xs : List V} (hv : σ[i]? = some (some (.ref a))) (h : SqL K H a xs ∨ SqT K H a xs) (Pv : Nat → L2.St → Hp → Prop) (h0 : Pv 0 σ H) (hG : ∀ i σ' H', Pv i σ' H' → Same H H')
    (hs : ∀ i x σ' H' H'', i < xs.length → Pv i σ' H' → YPair (fun i => some (.int (i : Nat))) (fun i => xs[i]?) i H' x H'' → g x σ' H'' fun σ2 H2 => tb { D with nx := Pv (i + 1), ct := Pv (i + 1), bk := D.nx } σ2 H2) (hd : ∀ σ' H', Pv xs.length σ' H' → D.nx σ' H') :
    tFor (iEnumA K (tCons (tVar i) tNil)) g tb D σ H :=
  enumA_var hv h fun J G w hG' => for_it w Pv h0 (fun j σ' H' _ p => hG' H' (hG j σ' H' p)) hs hd
/-- the list is changed in the loop: G told by the invariant -/
theorem for_enumA' {K : PySem.W.Frag} {g : TG} {tb : TS} {D : Ends} {σ : L2.St} {H : Hp} {i : Nat} {a : Addr} {xs : List V} (hv : σ[i]? = some (some (.ref a))) (h : SqL K H a xs ∨ SqT K H a xs) (Pv : Nat → L2.St → Hp → Prop) (h0 : Pv 0 σ H) (hG : ∀ i σ' H', Pv i σ' H' → (SqL K H a xs → SqL K H' a xs) ∧ (SqT K H a xs → SqT K H' a xs))
    (hs : ∀ i x σ' H' H'', i < xs.length → Pv i σ' H' → YPair (fun i => some (.int (i : Nat))) (fun i => xs[i]?) i H' x H'' → g x σ' H'' fun σ2 H2 => tb { D with nx := Pv (i + 1), ct := Pv (i + 1), bk := D.nx } σ2 H2) (hd : ∀ σ' H', Pv xs.length σ' H' → D.nx σ' H') :
    tFor (iEnumA K (tCons (tVar i) tNil)) g tb D σ H := by
  refine ⟨_, hv, a, xs, rfl, ?_⟩
  rcases h with h | h
  · exact .inl ⟨h, for_it walk_enum Pv h0 (fun j σ' H' _ p => (hG j σ' H' p).1 h) hs hd⟩
  · exact .inr ⟨h, for_it walk_enumT Pv h0 (fun j σ' H' _ p => (hG j σ' H' p).2 h) hs hd⟩
theorem lc_seq_each {β : Type} {K : PySem.W.Frag} {g : TG} {tt : TT} {te : TE} {vs : List Nat} {σ : L2.St} {H : Hp} {Q : VK} {i : Nat} {a : Addr} {xs : List V} (bs : List β) (hv : σ[i]? = some (some (.ref a))) (h : SqL K H a xs ∨ SqT K H a xs) (hl : xs.length = bs.length) (f : β → V) (hn : xs.length < 100000)
    (hs : ∀ (i : Nat) x bb H2 (Qe : V → Hp → Prop) (Z : Hp → Prop), xs[i]? = some x → bs[i]? = some bb → Same H H2 → (∀ H4, Same H2 H4 → Qe (f bb) H4) → g x (wipe σ vs) H2 fun σ2 H3 => wipe σ2 vs = wipe σ vs ∧ tt σ2 H3 fun b H4 => if b = true then te σ2 H4 Qe else Z H4)
    (hd : ∀ D H2, H D = none → Same H H2 → H2 D = some (.lst (bs.map f)) → Q (.ref D) H2) : tLc (iSeq K (tVar i)) g tt te vs σ H Q :=
  seq_var hv h fun J G w hG => fun D hD => lc_each bs hl w hD f hG hn hs fun H2 sm hD2 => hd D H2 hD sm hD2
end Hr

set_option Elab.async false
set_option linter.all false
set_option maxRecDepth 100000
set_option maxHeartbeats 4000000
/-! a list of lists that grow -/
namespace Hr
open PySem PySem.Spec PyProof.Rows L2
/-- [[] for .. in ..]: new lists, all distinct -/
theorem lc_rows {J : It} {n : Nat} {G : Hp → Prop} {Y : Nat → Hp → V → Hp → Prop} (w : Walk J n G Y) {g : TG} {tt : TT} {te : TE} {vs : List Nat} {σ : L2.St} {H1 : Hp} {D : Addr} {Qd : Hp → Prop} (hD : H1 D = none) (hG : ∀ H, Same H1 H → G H) (hn : n < 100000)
    (hs : ∀ i x H H' (Qe : V → Hp → Prop) (Z : Hp → Prop), i < n → Same H1 H → Y i H x H' → (∀ p, H p = none → Qe (.ref p) (upd H p (.lst []))) → g x (wipe σ vs) H' fun σ2 H2 => wipe σ2 vs = wipe σ vs ∧ tt σ2 H2 fun bb H3 => if bb = true then te σ2 H3 Qe else Z H3)
    (hd : ∀ H (as : List Addr), Same H1 H → H D = some (.lst (as.map V.ref)) → as.length = n → as.Nodup → D ∉ as → (∀ a ∈ as, H a = some (.lst []) ∧ H1 a = none) → Qd H) :
    ∃ W : Nat → Nat → Hp → Prop, (∃ m, W 0 m (upd H1 D (.lst []))) ∧ ∀ i m H, W i m H →
      (J.stop i H ∧ Qd H) ∨ (J.go i H ∧ ∃ Nx : Hp → Prop, (∀ H', Nx H' → ∃ m', m' < m ∧ W (i + 1) m' H') ∧ ∀ x H', J.yld i H x H' → g x (wipe σ vs) H' fun σ2 H2 => wipe σ2 vs = wipe σ vs ∧ tt σ2 H2 fun b H3 =>
        if b = true then te σ2 H3 fun y H4 => ∃ acc, H4 D = some (.lst acc) ∧ acc.length < sizeLine ∧ Nx (upd H4 D (.lst (acc ++ [y]))) else Nx H3) := by
  refine lc_it w (fun i H => Same H1 H ∧ ∃ as : List Addr, H D = some (.lst (as.map V.ref)) ∧ as.length = i ∧ as.Nodup ∧ D ∉ as ∧ ∀ a ∈ as, H a = some (.lst []) ∧ H1 a = none) ⟨same_new hD, [], upd_same, rfl, List.nodup_nil, List.not_mem_nil, fun a h => absurd h List.not_mem_nil⟩ (fun i H _ h => hG H h.1) ?_ ?_
  · rintro i x H H' hi ⟨sm, as, hy, hl, hnd, hnD, ha⟩ hY
    refine hs i x H H' _ _ hi sm hY fun p hp => ?_
    have npD : p ≠ D := fun z => by rw [z, hy] at hp; cases hp
    have npa : p ∉ as := fun z => by rw [(ha p z).1] at hp; cases hp
    refine ⟨as.map V.ref, by rw [upd_ne npD.symm]; exact hy, szt (by rw [List.length_map]; omega), fun a o e => ?_, as ++ [p], by rw [upd_same, List.map_append]; rfl, by rw [List.length_append, hl]; rfl, ?_, ?_, fun a h => ?_⟩
    · rw [upd_ne (ne_of_none e hD), upd_ne fun z => by rw [← z, sm _ _ e] at hp; cases hp]
      exact sm _ _ e
    · exact List.nodup_append.mpr ⟨hnd, List.nodup_cons.mpr ⟨List.not_mem_nil, List.nodup_nil⟩, fun a h b h' => by rw [List.mem_singleton.mp h']; exact fun z => npa (z ▸ h)⟩
    · intro h
      rcases List.mem_append.mp h with h | h
      · exact hnD h
      · exact npD (List.mem_singleton.mp h).symm
    · rcases List.mem_append.mp h with h | h
      · rw [upd_ne fun z => hnD (by rw [← z]; exact h), upd_ne fun z => npa (by rw [← z]; exact h)]
        exact ha a h
      · rw [List.mem_singleton.mp h, upd_ne npD, upd_same]
        exact ⟨rfl, sm.free hp⟩
  · rintro H ⟨sm, as, hy, hl, hnd, hnD, ha⟩
    exact hd H as sm hy hl hnd hnD ha
/-! ### obstacles -/
abbrev Ob := Nat × (Str × Nat)
def obD (o : Ob) : PyData := .tuple [.int (o.1 : Nat), .tuple [.str o.2.1, .int (o.2.2 : Nat)]]
structure Rows (K : PySem.W.Frag) (D : Addr) (as : List Addr) (f : Nat → List Ob) (H : Hp) : Prop where
  out : H D = some (.lst (as.map V.ref))
  nd : as.Nodup
  nD : D ∉ as
  row : ∀ (s : Nat) (a : Addr), as[s]? = some a → ∃ xs, H a = some (.lst xs) ∧ DpAll K (dl H (D :: as)) xs ((f s).map obD)
theorem Rows.same {K : PySem.W.Frag} {D : Addr} {as : List Addr} {f : Nat → List Ob} {H H' : Hp} (r : Rows K D as f H) (s : Same H H') : Rows K D as f H' :=
  ⟨s _ _ r.out, r.nd, r.nD, fun i a ha => by
    obtain ⟨xs, h1, h2⟩ := r.row i a ha
    exact ⟨xs, s _ _ h1, dpa_mono (dl_mono s) h2⟩⟩
def addAt (f : Nat → List Ob) (s : Nat) (o : Ob) : Nat → List Ob := fun t => if t = s then f t ++ [o] else f t
theorem Rows.add {K : PySem.W.Frag} {D : Addr} {as : List Addr} {f : Nat → List Ob} {H : Hp} {s : Nat} {a : Addr} {xs : List V} {x : V} {o : Ob} (r : Rows K D as f H) (ha : as[s]? = some a) (hx : H a = some (.lst xs)) (hd : DpAll K (dl H (D :: as)) xs ((f s).map obD)) (h : Dp K (dl H (D :: as)) x (obD o)) : Rows K D as (addAt f s o) (upd H a (.lst (xs ++ [x]))) := by
  have am : a ∈ as := List.mem_of_getElem? ha
  have ed : dl (upd H a (.lst (xs ++ [x]))) (D :: as) = dl H (D :: as) := dl_upd (List.mem_cons_of_mem _ am)
  refine ⟨by rw [upd_ne fun z => r.nD (by rw [z]; exact am)]; exact r.out, r.nd, r.nD, fun t b hb => ?_⟩
  rw [ed]
  by_cases e : t = s
  · subst e
    rw [ha] at hb
    cases hb
    refine ⟨xs ++ [x], upd_same, ?_⟩
    unfold addAt
    rw [if_pos rfl, List.map_append]
    exact dpa_app hd (.cons h .nil)
  · have nb : b ≠ a := fun z => by
      subst z
      exact e ((List.getElem?_inj (List.getElem?_eq_some_iff.mp hb).1 r.nd).mp (hb.trans ha.symm))
    obtain ⟨ys, h1, h2⟩ := r.row t b hb
    refine ⟨ys, by rw [upd_ne nb]; exact h1, ?_⟩
    unfold addAt
    rw [if_neg e]
    exact h2
/-- the obstacles as data -/
def obsD (os : List (List Ob)) : PyData := .list (os.map fun r => .list (r.map obD))
theorem Rows.data {K : PySem.W.Frag} {D : Addr} {as : List Addr} {f : Nat → List Ob} {H : Hp} (r : Rows K D as f H) : Dp K H (.ref D) (obsD ((List.range as.length).map f)) := by
  unfold obsD
  refine .lst (SqL.of r.out) (dpa_of (by rw [List.length_map, List.length_map, List.length_map, List.length_range]) fun i y d hy hd => ?_)
  rw [List.getElem?_map] at hy
  cases ha : as[i]? with
  | none => rw [ha] at hy; cases hy
  | some a =>
    rw [ha] at hy
    cases hy
    have hi := (List.getElem?_eq_some_iff.mp ha).1
    rw [List.getElem?_map, List.getElem?_map, List.getElem?_range hi] at hd
    cases hd
    obtain ⟨xs, h1, h2⟩ := r.row i a ha
    exact .lst (SqL.of h1) (dpa_mono dl_le h2)
/-- what keeps slot s, by the pairs and by the reports -/
def rowP (m : List Nat → Nat) (ps : List Pr2) (s : Nat) : List Ob := ps.zipIdx.filterMap fun p => if p.1.2 = s then some (m [p.1.1], ("pair", p.2)) else none
def rowR (m : List Nat → Nat) (rs : List Rp) (s : Nat) : List Ob := rs.zipIdx.filterMap fun r => if s ∈ r.1.1 ∧ s ∉ r.1.2 then some (m r.1.1, ("report", r.2)) else none
theorem zipIdx_snoc {α : Type} (l : List α) (x : α) : (l ++ [x]).zipIdx = l.zipIdx ++ [(x, l.length)] := by
  rw [List.zipIdx_append]
  simp
theorem rowP_snoc {m : List Nat → Nat} {ps : List Pr2} {p : Pr2} : rowP m (ps ++ [p]) = addAt (rowP m ps) p.2 (m [p.1], ("pair", ps.length)) := by
  funext s
  unfold rowP addAt
  rw [zipIdx_snoc, List.filterMap_append]
  by_cases e : p.2 = s
  · rw [if_pos e.symm]
    simp [e]
  · rw [if_neg fun z => e z.symm]
    simp [e]
theorem rowR_snoc {m : List Nat → Nat} {rs : List Rp} {r : Rp} {s : Nat} : rowR m (rs ++ [r]) s = rowR m rs s ++ (if s ∈ r.1 ∧ s ∉ r.2 then ([(m r.1, (("report" : Str), rs.length))] : List Ob) else []) := by
  unfold rowR
  rw [zipIdx_snoc, List.filterMap_append]
  congr 1
  by_cases e : s ∈ r.1 ∧ s ∉ r.2
  · rw [if_pos e]
    simp [e]
  · rw [if_neg e]
    simp [e]
/-- as for_enumA, the sequence known in an older heap H0 -/
theorem for_enumB {K : PySem.W.Frag} {g : TG} {tb : TS} {D : Ends} {σ : L2.St} {H H0 : Hp} {i : Nat} {a : Addr} {xs : List V} (hv : σ[i]? = some (some (.ref a))) (h : SqL K H0 a xs ∨ SqT K H0 a xs) (Pv : Nat → L2.St → Hp → Prop) (h0 : Pv 0 σ H) (hG : ∀ i σ' H', Pv i σ' H' → Same H0 H')
    (hs : ∀ i x σ' H' H'', i < xs.length → Pv i σ' H' → YPair (fun i => some (.int (i : Nat))) (fun i => xs[i]?) i H' x H'' → g x σ' H'' fun σ2 H2 => tb { D with nx := Pv (i + 1), ct := Pv (i + 1), bk := D.nx } σ2 H2) (hd : ∀ σ' H', Pv xs.length σ' H' → D.nx σ' H') :
    tFor (iEnumA K (tCons (tVar i) tNil)) g tb D σ H := by
  refine ⟨_, hv, a, xs, rfl, ?_⟩
  have hH := hG 0 σ H h0
  rcases h with h | h
  · exact .inl ⟨hH.seq h, for_it walk_enum Pv h0 (fun j σ' H' _ p => (hG j σ' H' p).seq h) hs hd⟩
  · exact .inr ⟨Same.seqT hH h, for_it walk_enumT Pv h0 (fun j σ' H' _ p => Same.seqT (hG j σ' H' p) h) hs hd⟩
end Hr

set_option Elab.async false
set_option linter.all false
set_option maxRecDepth 100000
set_option maxHeartbeats 4000000
/-! masks as ascending lists -/
namespace Hr
open PySem PySem.Spec PyProof.Rows L2
def msk (l : List Nat) : Nat := (l.map fun i => 2 ^ i).sum
def bitsOf (m : Nat) : List Nat := (List.range 30).filter fun i => m.testBit i
theorem mem_bits {m i : Nat} : i ∈ bitsOf m ↔ i < 30 ∧ m.testBit i = true := by
  unfold bitsOf
  rw [List.mem_filter, List.mem_range]
theorem bits_asc (m : Nat) : Asc (bitsOf m) := List.Pairwise.filter _ List.pairwise_lt_range
theorem asc_ext : ∀ {l l' : List Nat}, Asc l → Asc l' → (∀ x, x ∈ l ↔ x ∈ l') → l = l'
  | [], [], _, _, _ => rfl
  | [], y :: r, _, _, h => by have := (h y).mpr List.mem_cons_self; cases this
  | x :: r, [], _, _, h => by have := (h x).mp List.mem_cons_self; cases this
  | x :: r, y :: r', h1, h2, h => by
    have k1 := List.pairwise_cons.mp h1
    have k2 := List.pairwise_cons.mp h2
    have e : x = y := by
      rcases List.mem_cons.mp ((h x).mp List.mem_cons_self) with a | a
      · exact a
      · rcases List.mem_cons.mp ((h y).mpr List.mem_cons_self) with b | b
        · exact b.symm
        · have := k1.1 y b
          have := k2.1 x a
          omega
    subst e
    rw [asc_ext k1.2 k2.2 fun z => ?_]
    constructor
    · intro hz
      rcases List.mem_cons.mp ((h z).mp (List.mem_cons_of_mem _ hz)) with a | a
      · rw [a] at hz
        exact absurd (k1.1 x hz) (Nat.lt_irrefl _)
      · exact a
    · intro hz
      rcases List.mem_cons.mp ((h z).mpr (List.mem_cons_of_mem _ hz)) with a | a
      · rw [a] at hz
        exact absurd (k2.1 x hz) (Nat.lt_irrefl _)
      · exact a
theorem msk_app (l l' : List Nat) : msk (l ++ l') = msk l + msk l' := by
  unfold msk
  rw [List.map_append, List.sum_append]
theorem asc_snoc {l : List Nat} {x : Nat} (h : Asc (l ++ [x])) : Asc l ∧ ∀ y ∈ l, y < x := by
  have k := List.pairwise_append.mp h
  exact ⟨k.1, fun y hy => k.2.2 y hy x List.mem_cons_self⟩
theorem msk_lt : ∀ (k : Nat) {l : List Nat} {n : Nat}, l.length = k → Asc l → (∀ x ∈ l, x < n) → msk l < 2 ^ n
  | 0, l, n, hk, _, _ => by
    rw [List.eq_nil_of_length_eq_zero hk]
    exact Nat.pow_pos (by decide)
  | k + 1, l, n, hk, h, hb => by
    rcases List.eq_nil_or_concat l with e | ⟨r, x, e⟩
    · subst e; cases hk
    · rw [List.concat_eq_append] at e
      subst e
      obtain ⟨h1, h2⟩ := asc_snoc h
      have hr : r.length = k := by rw [List.length_append, List.length_singleton] at hk; omega
      have ih := msk_lt k hr h1 h2
      have hx := hb x (List.mem_append_right _ List.mem_cons_self)
      rw [msk_app]
      have e1 : msk [x] = 2 ^ x := by unfold msk; simp
      have : 2 ^ (x + 1) ≤ 2 ^ n := Nat.pow_le_pow_right (by decide) hx
      rw [Nat.pow_succ] at this
      omega
theorem msk_bit : ∀ (k : Nat) {l : List Nat}, l.length = k → Asc l → ∀ i, (msk l).testBit i = decide (i ∈ l)
  | 0, l, hk, _, i => by
    rw [List.eq_nil_of_length_eq_zero hk]
    show (0 : Nat).testBit i = _
    simp
  | k + 1, l, hk, h, i => by
    rcases List.eq_nil_or_concat l with e | ⟨r, x, e⟩
    · subst e; cases hk
    · rw [List.concat_eq_append] at e
      subst e
      obtain ⟨h1, h2⟩ := asc_snoc h
      have hr : r.length = k := by rw [List.length_append, List.length_singleton] at hk; omega
      have ih := msk_bit k hr h1 i
      have lt := msk_lt k hr h1 h2
      have e1 : msk [x] = 2 ^ x := by unfold msk; simp
      rw [msk_app, e1, Nat.add_comm]
      by_cases hi : i < x
      · rw [Nat.testBit_two_pow_add_gt hi, ih]
        refine dec_p ⟨fun h => List.mem_append_left _ h, fun h => ?_⟩
        rcases List.mem_append.mp h with h | h
        · exact h
        · rw [List.mem_singleton.mp h] at hi
          exact absurd hi (Nat.lt_irrefl _)
      · by_cases he : i = x
        · subst he
          rw [Nat.testBit_two_pow_add_eq, Nat.testBit_lt_two_pow lt, decide_eq_true (List.mem_append_right _ List.mem_cons_self)]
          rfl
        · rw [Nat.testBit_lt_two_pow, decide_eq_false]
          · intro h
            rcases List.mem_append.mp h with h | h
            · have := h2 i h
              omega
            · exact he (List.mem_singleton.mp h)
          · have : 2 ^ (x + 1) ≤ 2 ^ i := Nat.pow_le_pow_right (by decide) (by omega)
            rw [Nat.pow_succ] at this
            omega
theorem bits_msk {l : List Nat} (h : Asc l) (hb : ∀ x ∈ l, x < 30) : bitsOf (msk l) = l :=
  asc_ext (bits_asc _) h fun i => by
    rw [mem_bits, msk_bit _ rfl h, decide_eq_true_eq]
    exact ⟨fun h => h.2, fun h => ⟨hb i h, h⟩⟩
theorem msk_split (l : List Nat) (p : Nat → Bool) : msk l = msk (l.filter p) + msk (l.filter fun x => !p x) := by
  induction l with
  | nil => rfl
  | cons x r ih =>
    have c : ∀ (x : Nat) (r : List Nat), msk (x :: r) = 2 ^ x + msk r := fun x r => by unfold msk; rw [List.map_cons, List.sum_cons]
    rw [c, ih, List.filter_cons, List.filter_cons]
    cases hp : p x
    · simp [c]
      omega
    · simp [c]
      omega
/-- one set within another, by their masks -/
theorem msk_and {s l : List Nat} (hs : Asc s) (hl : Asc l) : ((msk s &&& msk l) = msk s) ↔ ∀ x ∈ s, x ∈ l := by
  constructor
  · intro h x hx
    have := congrArg (fun m => Nat.testBit m x) h
    simp only [Nat.testBit_and, msk_bit _ rfl hs, msk_bit _ rfl hl, decide_eq_true hx, Bool.true_and] at this
    exact of_decide_eq_true this
  · intro h
    refine Nat.eq_of_testBit_eq fun i => ?_
    rw [Nat.testBit_and, msk_bit _ rfl hs, msk_bit _ rfl hl]
    by_cases hi : i ∈ s
    · rw [decide_eq_true hi, decide_eq_true (h i hi)]
      rfl
    · rw [decide_eq_false hi]
      rfl
theorem msk_range (n : Nat) : msk (List.range n) = 2 ^ n - 1 := by
  induction n with
  | zero => rfl
  | succ n ih =>
    rw [List.range_succ, msk_app, ih]
    have e1 : msk [n] = 2 ^ n := by unfold msk; simp
    have := Nat.pow_pos (n := n) (show 0 < 2 by decide)
    rw [e1, Nat.pow_succ]
    omega
/-! ### what keeps a slot -/
def reasonOf (os : List (List Ob)) (m : Nat) (s : Nat) : Option (Str × Nat) := ((os.getD s []).find? fun o => (o.1 &&& m) == o.1).map (·.2)
def reD : Option (Str × Nat) → PyData
  | none => .none
  | some r => .tuple [.str r.1, .int (r.2 : Nat)]
def freeB (ps : List Pr2) (rs : List Rp) (l : List Nat) (s : Nat) : Bool := !(ps.any fun p => decide (p.2 = s) && decide (p.1 ∈ l)) && rs.all fun r => !(decide (s ∈ r.1) && (!decide (s ∈ r.2) && r.1.all fun x => decide (x ∈ l)))
theorem find_none_iff {α : Type} {l : List α} {p : α → Bool} : (l.find? p).isNone = l.all fun x => !p x := by
  rw [Bool.eq_iff_iff, Option.isNone_iff_eq_none, List.find?_eq_none, List.all_eq_true]
  exact forall_congr' fun x => forall_congr' fun _ => by simp
theorem free_eq {n : Nat} {ps : List Pr2} {rs : List Rp} {l : List Nat} {s : Nat} (hs : s < n) (hl : Asc l) (hr : ∀ r ∈ rs, Asc r.1) :
    (reasonOf ((List.range n).map fun s => rowP msk ps s ++ rowR msk rs s) (msk l) s).isNone = freeB ps rs l s := by
  unfold reasonOf freeB
  rw [List.getD_eq_getElem?_getD, List.getElem?_map, List.getElem?_range hs]
  show (Option.map _ (List.find? _ (rowP msk ps s ++ rowR msk rs s))).isNone = _
  rw [Option.isNone_map, find_none_iff, List.all_append]
  congr 1
  · rw [Bool.eq_iff_iff, List.all_eq_true, Bool.not_eq_true', List.any_eq_false]
    unfold rowP
    constructor
    · intro h p hp
      obtain ⟨k, hk⟩ := List.mem_iff_getElem?.mp hp
      intro z
      have z' := Bool.and_eq_true_iff.mp z
      have e1 := of_decide_eq_true z'.1
      have e2 := of_decide_eq_true z'.2
      have hm : (msk [p.1], (("pair" : Str), k)) ∈ ps.zipIdx.filterMap fun p => if p.1.2 = s then some (msk [p.1.1], (("pair" : Str), p.2)) else none := by
        refine List.mem_filterMap.mpr ⟨(p, k), List.mem_zipIdx_iff_getElem?.mpr hk, ?_⟩
        rw [if_pos e1]
      have := h _ hm
      have e3 : (msk [p.1] &&& msk l) = msk [p.1] := (msk_and (List.pairwise_singleton _ _) hl).mpr fun x hx => by rw [List.mem_singleton.mp hx]; exact e2
      rw [e3] at this
      simp at this
    · intro h o ho
      obtain ⟨q, hq, e⟩ := List.mem_filterMap.mp ho
      have hq' := List.mem_zipIdx_iff_getElem?.mp hq
      by_cases e1 : q.1.2 = s
      · rw [if_pos e1] at e
        cases e
        have k := h q.1 (List.mem_of_getElem? hq')
        rw [Bool.not_eq_true', beq_eq_false_iff_ne]
        intro z
        have := (msk_and (List.pairwise_singleton _ _) hl).mp z q.1.1 List.mem_cons_self
        exact k (by rw [decide_eq_true e1, decide_eq_true this]; rfl)
      · rw [if_neg e1] at e
        cases e
  · rw [Bool.eq_iff_iff, List.all_eq_true, List.all_eq_true]
    unfold rowR
    constructor
    · intro h r hrm
      obtain ⟨k, hk⟩ := List.mem_iff_getElem?.mp hrm
      rw [Bool.not_eq_true', Bool.eq_false_iff]
      intro z
      have z1 := Bool.and_eq_true_iff.mp z
      have z2 := Bool.and_eq_true_iff.mp z1.2
      have e1 := of_decide_eq_true z1.1
      have e2 : s ∉ r.2 := by simpa using z2.1
      have e3 : ∀ x ∈ r.1, x ∈ l := fun x hx => of_decide_eq_true (List.all_eq_true.mp z2.2 x hx)
      have hm : (msk r.1, (("report" : Str), k)) ∈ rs.zipIdx.filterMap fun r => if s ∈ r.1.1 ∧ s ∉ r.1.2 then some (msk r.1.1, (("report" : Str), r.2)) else none := by
        refine List.mem_filterMap.mpr ⟨(r, k), List.mem_zipIdx_iff_getElem?.mpr hk, ?_⟩
        rw [if_pos ⟨e1, e2⟩]
      have := h _ hm
      rw [(msk_and (hr r hrm) hl).mpr e3] at this
      simp at this
    · intro h o ho
      obtain ⟨q, hq, e⟩ := List.mem_filterMap.mp ho
      have hq' := List.mem_of_getElem? (List.mem_zipIdx_iff_getElem?.mp hq)
      by_cases e1 : s ∈ q.1.1 ∧ s ∉ q.1.2
      · rw [if_pos e1] at e
        cases e
        have k := h q.1 hq'
        rw [Bool.not_eq_true', beq_eq_false_iff_ne]
        intro z
        have := (msk_and (hr q.1 hq') hl).mp z
        rw [Bool.not_eq_true', decide_eq_true e1.1, decide_eq_false e1.2, Bool.true_and, Bool.not_false, Bool.true_and, Bool.eq_false_iff] at k
        exact k (List.all_eq_true.mpr fun x hx => decide_eq_true (this x hx))
      · rw [if_neg e1] at e
        cases e
/-- a def with defaults that lets nothing out -/
theorem okN {P : Program} {w : World} {K : PySem.W.Frag} {mg : Str → Option Value} {base : Heap} {x qual : Str} {params : Arguments} {body : List Stmt} {scope : Scope} {dvs : List V} {kws : List (Str × V)} {f : Addr} {fd : FuncData} {N ps : List Str} {k : Nat} {sp : Sp} (F : FunD K x qual params body scope dvs kws f fd) (S : FnScope N ps scope) (len : ∀ vs H Q E, sp vs H Q E → vs.length = ps.length)
    (hbody : ∀ (cdv : Value) (A : Around) (outer : List Env) (s : Shared) (H : Hp) (vs : List V) (Q : VK) (E : XK), Room k (A.deeper (envOfC qual scope s.heap.objs.size f cdv)) → sp vs H Q E →
      ∃ t, PSs (cxOf CX0 P w K mg base N qual scope f cdv A outer s H E).nox body t ∧ t { nx := fun _ H' => Q .non H', rt := Q } (start N vs) H) : FnOk P w K mg base CX0 (k + 1) f fd ps sp := by
  refine F.ok S len fun cdv A outer s H vs Q E hr hsp => ?_
  obtain ⟨t, h, q⟩ := hbody cdv A outer s H vs Q E hr hsp
  exact ⟨t, h.nox, q⟩
end Hr

set_option Elab.async false
set_option linter.all false
set_option maxRecDepth 100000
set_option maxHeartbeats 4000000
namespace Hr
open PySem PySem.Spec PyProof.Rows L2
/-- a comprehension that keeps some numbers, as the bag says -/
theorem lc_sub {J : It} {l0 : List Nat} {G : Hp → Prop} {Y : Nat → Hp → V → Hp → Prop} (w : Walk J l0.length G Y) (hY : ∀ i H x H', Y i H x H' → H' = H ∧ ∃ s : Nat, l0[i]? = some s ∧ x = .int (s : Nat)) {g : TG} {tt : TT} {te : TE} {vs : List Nat} {σ : L2.St} {H1 : Hp} {D b l : Addr} {Qd : Hp → Prop} (hb : Bag H1 b l) (hD : H1 D = none) (hG : ∀ H, Bx b l H1 H → G H) (hn : l0.length < 100000)
    (hs : ∀ (i s : Nat) H (R : V → Hp → Prop) (Z : Hp → Prop), l0[i]? = some s → Bx b l H1 H → (∀ H4, Bx b l H H4 → R (.int (s : Nat)) H4) → (∀ H4, Bx b l H H4 → Z H4) → g (.int (s : Nat)) (wipe σ vs) H fun σ2 H2 => wipe σ2 vs = wipe σ vs ∧ tt σ2 H2 fun bb H3 => if bb = true then te σ2 H3 R else Z H3)
    (hd : ∀ H l', Bx b l H1 H → H D = some (.lst (nV l')) → l'.Sublist l0 → Qd H) :
    ∃ W : Nat → Nat → Hp → Prop, (∃ m, W 0 m (upd H1 D (.lst []))) ∧ ∀ i m H, W i m H →
      (J.stop i H ∧ Qd H) ∨ (J.go i H ∧ ∃ Nx : Hp → Prop, (∀ H', Nx H' → ∃ m', m' < m ∧ W (i + 1) m' H') ∧ ∀ x H', J.yld i H x H' → g x (wipe σ vs) H' fun σ2 H2 => wipe σ2 vs = wipe σ vs ∧ tt σ2 H2 fun b H3 =>
        if b = true then te σ2 H3 fun y H4 => ∃ acc, H4 D = some (.lst acc) ∧ acc.length < sizeLine ∧ Nx (upd H4 D (.lst (acc ++ [y]))) else Nx H3) := by
  have nD : D ≠ b := hb.ne_new hD
  have nL : D ≠ l := hb.ne_newl hD
  refine lc_it w (fun i H => Bx b l H1 H ∧ ∃ l', H D = some (.lst (nV l')) ∧ l'.Sublist (l0.take i)) ⟨Bx.new hb hD, [], upd_same, List.nil_sublist _⟩ (fun i H _ h => hG H h.1) ?_ ?_
  · rintro i x H H' hi ⟨bx, l', hy, hl⟩ y
    obtain ⟨rfl, s, hsi, rfl⟩ := hY i H x H' y
    refine hs i s H' _ _ hsi bx (fun H4 b4 => ⟨nV l', b4.keep D _ nD hy, szt ?_, ⟨b4.bag.of (upd_ne nD.symm) (upd_ne nL.symm), fun a o n e => ?_⟩, l' ++ [s], ?_, ?_⟩) (fun H4 b4 => ⟨bx.trans b4, l', b4.keep D _ nD hy, ?_⟩)
    · have := hl.length_le
      rw [List.length_take] at this
      rw [List.length_map]
      omega
    · rw [upd_ne (ne_of_none e hD)]
      exact b4.keep a o n (bx.keep a o n e)
    · rw [upd_same, nV, nV, List.map_append]
      rfl
    · rw [take_step hsi]
      exact hl.append (List.Sublist.refl _)
    · rw [take_step hsi]
      exact hl.trans (List.sublist_append_left _ _)
  · rintro H ⟨bx, l', hy, hl⟩
    rw [List.take_length] at hl
    exact hd H l' bx hy hl
theorem yAt_nat {l0 : List Nat} : ∀ i H x H', YAt (nV l0) i H x H' → H' = H ∧ ∃ s : Nat, l0[i]? = some s ∧ x = .int (s : Nat) := fun i H x H' ⟨h1, h2⟩ => by
  rw [List.getElem?_map] at h2
  cases hs : l0[i]? with
  | none => rw [hs] at h2; cases h2
  | some s =>
    rw [hs] at h2
    cases h2
    exact ⟨h1, s, rfl, rfl⟩
theorem walk_rangeN {n : Nat} : Walk (Itr 0 n) (List.range n).length (fun _ => True) (YAt (nV (List.range n))) := by
  rw [List.length_range]
  refine walk_range.mono (fun _ h => h) fun i H x H' hi _ ⟨h1, h2⟩ => ⟨h1, ?_⟩
  rw [List.getElem?_map, List.getElem?_range hi, h2]
  show some (V.int (i : Nat)) = some (V.int (0 + (i : Int)))
  rw [Int.zero_add]
theorem asc_sub {l l' : List Nat} (h : l'.Sublist l) (a : Asc l) : Asc l' := List.Pairwise.sublist h a
/-- a list of the heap, of such data -/
def LstAt (K : PySem.W.Frag) (H : Hp) (v : V) (ds : List PyData) : Prop := ∃ a xs, v = .ref a ∧ H a = some (.lst xs) ∧ DpAll K H xs ds
theorem LstAt.dp {K : PySem.W.Frag} {H : Hp} {v : V} {ds : List PyData} (h : LstAt K H v ds) : Dp K H v (.list ds) := by
  obtain ⟨a, xs, rfl, h1, h2⟩ := h
  exact .lst (SqL.of h1) h2
theorem LstAt.same {K : PySem.W.Frag} {H H' : Hp} {v : V} {ds : List PyData} (h : LstAt K H v ds) (s : Same H H') : LstAt K H' v ds := by
  obtain ⟨a, xs, e, h1, h2⟩ := h
  exact ⟨a, xs, e, s _ _ h1, dpa_mono s h2⟩
end Hr

set_option Elab.async false
set_option linter.all false
set_option maxRecDepth 100000
set_option maxHeartbeats 4000000
/-! tuples: t[::-1], t * 0, t * 1 -/
namespace Hr
open PySem PySem.Spec PyProof.Rows L2 HT
section
variable {prog : Program} {w : World} {A : Around} {E : Value → Shared → Prop} {s : Shared}
theorem fm_congr {α β : Type} {f g : α → Option β} : ∀ {l : List α}, (∀ x ∈ l, f x = g x) → l.filterMap f = l.filterMap g
  | [], _ => rfl
  | x :: r, h => by
    rw [List.filterMap_cons, List.filterMap_cons, h x List.mem_cons_self, fm_congr fun y hy => h y (List.mem_cons_of_mem _ hy)]
theorem places_rev (n : Nat) : Builtin.Slice.slicePlaces ((n : Int) - 1) (-1) (-1) = n := by
  unfold Builtin.Slice.slicePlaces
  rw [if_neg (by decide)]
  have e : (- -1 : Int) = 1 := by decide
  rw [e, Int.ediv_one]
  split <;> omega
theorem sliceApplied_rev {sl : Addr} {vl vu vs : Value} {n : Nat} {Q : Int × Int × Nat → Shared → Prop} (hs : s.heap.IsSliceOf sl vl vu vs) (pl : IsPart vl none) (pu : IsPart vu none) (ps : IsPart vs (some (-1)))
    (h : Q ((n : Int) - 1, -1, n) s) : wpAny (model prog w) A (Builtin.Slice.sliceApplied (.ref sl) (pure (n : Int))) Q E s := by
  obtain ⟨os, hos, hcs, hds⟩ := id hs
  unfold Builtin.Slice.sliceApplied Builtin.Slice.sliceFields
  refine wpAny_bind (wpAny_bind (wpAny_field hos hds (x := vl) rfl (wpAny_bind (wpAny_field hos hds (x := vu) rfl (wpAny_bind (wpAny_field hos hds (x := vs) rfl (wpAny_pure ?_)))))))
  refine wpAny_bind (slicePart_ ps ?_)
  show wpAny _ _ (if ((-1 : Int) == 0) = true then _ else _) _ _ s
  rw [if_neg (by decide)]
  refine wpAny_bind (slicePart_ pl (wpAny_bind (slicePart_ pu (wpAny_bind (wpAny_pure ?_)))))
  show wpAny _ _ (pure ((n : Int) - 1, (-1 : Int), Builtin.Slice.slicePlaces ((n : Int) - 1) (-1) (-1))) _ _ s
  rw [places_rev]
  exact wpAny_pure h
theorem pick_rev (xs : Array Value) : ((List.range xs.size).filterMap fun (m : Nat) => xs[((xs.size : Int) - 1 + (m : Int) * -1).toNat]?).toArray = xs.toList.reverse.toArray := by
  have e : (List.range xs.size).filterMap (fun (m : Nat) => xs[((xs.size : Int) - 1 + (m : Int) * -1).toNat]?) = ((List.range xs.size).map fun k => xs.size - 1 - k).filterMap (xs[·]?) := by
    rw [List.filterMap_map]
    refine fm_congr fun m hm => ?_
    have := List.mem_range.mp hm
    show _ = xs[xs.size - 1 - m]?
    rw [show ((xs.size : Int) - 1 + (m : Int) * -1).toNat = xs.size - 1 - m by omega]
  rw [e, PySem.W.krv_range, List.filterMap_reverse, PySem.W.krv_all]
theorem getItem_tuple_rev {t sl : Addr} {items : Array Value} {vl vu vs : Value} {Q : Value → Shared → Prop} (ht : IsTup s.heap t items) (hs : s.heap.IsSliceOf sl vl vu vs) (pl : IsPart vl none) (pu : IsPart vu none) (ps : IsPart vs (some (-1)))
    (h : Q (.ref s.heap.objs.size) { s with heap := s.heap.push { cls := .type "tuple", data := .seq items.toList.reverse.toArray } })
    (hsz : items.size ≤ sizeLine) : wpAny (model prog w) A (getItem (.ref t) (.ref sl)) Q E s := by
  have htake : sizeOk (.seq items.toList.reverse.toArray) := by
    show items.toList.reverse.toArray.size ≤ sizeLine
    rw [List.size_toArray, List.length_reverse, Array.length_toList]
    exact hsz
  obtain ⟨os, hos, hcs, hds⟩ := id hs
  have hTs : s.TypeIs (.ref sl) "slice" := ⟨os, hos, hcs⟩
  unfold getItem
  try with_reducible refine wpAny_holding ?_
  first | refine wpAny_bind (wpAny_pure ?_) | skip
  refine wpAny_bind (wpAny_sequenceKey ht.typeIs (by decide) ?_)
  refine wpAny_bind (wpAny_callSpecial?_slot (name := Str.ofString "__getitem__") ht.typeIs PyProof.Rows.slot_tuple_getitem
    (wpAny_call_entry PyProof.Rows.slot_tuple_getitem ht.typeIs entry_tuple_getitem ?_ (args_tuple_getitem _ _)))
  show wpAny _ _ (Builtin.Tuple.tupleItemsOf (.ref t) >>= _) _ _ s
  refine wpAny_bind (tupleItemsOf_ ht ?_)
  refine wpAny_bind (wpAny_typeOf hTs ?_)
  rw [if_pos (by decide)]
  refine wpAny_bind (sliceApplied_rev hs pl pu ps ?_)
  have hno : ¬ ((((items.size : Int) - 1) == 0 && (-1 : Int) == 1 && items.size == items.size) = true) := by
    rw [show ((-1 : Int) == 1) = false from rfl, Bool.and_false, Bool.false_and]
    exact Bool.false_ne_true
  show wpAny _ _ (if (((items.size : Int) - 1) == 0 && (-1 : Int) == 1 && items.size == items.size) = true then _ else _) _ _ s
  rw [if_neg hno, pick_rev]
  first
    | exact wpAny_bind (m := Builtin.Tuple.tupleExact _) (wpAny_newObj_type (wpAny_pure ⟨_, rfl, wpAny_pure h⟩) htake)
    | exact wpAny_bind (m := Builtin.Tuple.tupleExact _) (wpAny_newObj_type (wpAny_bind (wpAny_pure (wpAny_pure ⟨_, rfl, wpAny_pure h⟩))) htake)
    | exact wpAny_bind (wpAny_bind (m := Builtin.Tuple.tupleExact _) (wpAny_newObj_type (wpAny_pure (wpAny_pure ⟨_, rfl, wpAny_pure h⟩)) htake))
    | exact wpAny_bind (wpAny_bind (m := Builtin.Tuple.tupleExact _) (wpAny_newObj_type (wpAny_pure ⟨_, rfl, wpAny_pure h⟩) htake))
end
section
variable {X : Cx}
def tRevT (K : PySem.W.Frag) (te : TE) : TE := fun σ H Q => te σ H fun x H1 => ∃ a xs, x = .ref a ∧ SqT K H1 a xs ∧ ∀ p, H1 p = none → Q (.ref p) (upd H1 p (.tup xs.reverse))
theorem pe_revTK {K : PySem.W.Frag} {e : Expr} {te : TE} {k : Nat} {p1 p2 p3 pos : Pos} (he : PE X e te) (hK : X.K = K := by rfl) : PE X (.Subscript e (.Slice none none (some (.UnaryOp .USub (.Constant (.int 1) k p1) p2)) p3) pos) (tRevT K te) := by
  subst hK
  refine ⟨fun pins s σ H Q I h => ?_⟩
  refine Subscript_ (thn (he.run pins s σ H _ I h) fun v s1 ⟨x, H1, I1, r1, q1⟩ => ?_)
  obtain ⟨a, xs, ex, hx, q⟩ := q1
  subst ex
  cases r1
  have hst : PO X (some (.UnaryOp .USub (.Constant (.int 1) k p1) p2)) (tPart (tUn (rU fun i => .int (-i)) (tC (.int 1)))) := po_some (pe_un un_neg pe_int)
  refine wpAny_Slice (thn (po_none.run pins s1 σ H1 (fun o H2 => o = none ∧ H2 = H1) I1 ⟨rfl, rfl⟩) fun vl s2 ⟨l, H2, I2, pl, el, e2⟩ => ?_)
  subst el e2
  refine thn (po_none.run pins s2 σ H2 (fun o H3 => o = none ∧ H3 = H2) I2 ⟨rfl, rfl⟩) fun vu s3 ⟨u, H3, I3, pu, eu, e3⟩ => ?_
  subst eu e3
  refine thn (hst.run pins s3 σ H3 (fun o H4 => o = some (-1) ∧ H4 = H3) I3 ⟨1, rfl, -1, rfl, rfl, rfl⟩) fun vs s4 ⟨o, H4, I4, ps, eo, e4⟩ => ?_
  subst eo e4
  have I5 : Inv X pins σ H4 { s4 with heap := s4.heap.push { cls := .type "slice", data := .fields #[vl, vu, vs] } } := I4.kept (t' := s4.toks) fun b ob q => Heap.get?_push_of_some _ q
  obtain ⟨its, r, ht, hz⟩ := I5.tuple hx
  have hlen := r.length
  show wpAny (model X.prog X.w) X.A (subscriptTail e (.Slice none none (some (.UnaryOp .USub (.Constant (.int 1) k p1) p2)) p3) (.ref a) (.ref s4.heap.objs.size)) (EP X pins σ Q) X.xe { s4 with heap := s4.heap.push { cls := .type "slice", data := .fields #[vl, vu, vs] } }
  refine tail_any (ops := [.ref a, .ref s4.heap.objs.size]) ht.typeIs (PyProof.Rows.slot_tuple_getitem.lookup) ?_ (by with_unfolding_all rfl)
  refine getItem_tuple_rev ht (Heap.IsSliceOf.new _ vl vu vs) pl pu ps ?_ (by rw [List.size_toArray]; omega)
  refine ⟨.ref _, _, I5.laid (t' := s4.toks) (o := .tup xs.reverse) (fun b ob q => Heap.get?_push_of_some _ q) (Nat.le_refl _) ?_, rfl, q _ (I5.hok.fresh (Nat.le_refl _))⟩
  exact ⟨by rw [List.length_reverse]; omega, _, r.reverse, IsTup.new _ _⟩
theorem tuple_mul1 (l : Addr) (items : Array Value) (n : Nat) (dd : Option Addr) (sl : Array (Option Value)) (u : Tok) :
    Meets (Builtin.«tuple.__mul__» ⟨[.ref l, .int 1 u], []⟩) (fun _ R s => s.heap.get? l = some { cls := .type "tuple", dict := dd, data := .seq items n, slots := sl } ∧ R (.ok (.ret (Value.ref l))) s) :=
  .of_wp fun prog w A R s h => by
    obtain ⟨hp, g, d, tk, os⟩ := s
    obtain ⟨hl, h⟩ := h
    have f1 := AutoSeq1.idx_int
    have c0 : (decide ((1 : Int) < -(2 ^ 63)) || decide ((1 : Int) ≥ 2 ^ 63)) = false := by decide
    have c1 : (items.isEmpty || (1 : Int) == 1) = true := by rw [show ((1 : Int) == 1) = true from rfl, Bool.or_true]
    wp_walk using wpAny_loadPart' hl
    repeat (first
      | (refine wpAny_ite_false (decide_eq_false (by rw [c0]; exact Bool.false_ne_true)) ?_; wp_walk using wpAny_loadPart' hl)
      | (refine wpAny_ite_true (decide_eq_true c1) ?_; wp_walk using wpAny_loadPart' hl))
    exact ⟨_, rfl, h⟩
theorem tuple_mul0 (l : Addr) (items : Array Value) (n : Nat) (dd : Option Addr) (sl : Array (Option Value)) (u : Tok) (hi : items.isEmpty = false) :
    Meets (Builtin.«tuple.__mul__» ⟨[.ref l, .int 0 u], []⟩) (fun _ R s => s.heap.get? l = some { cls := .type "tuple", dict := dd, data := .seq items n, slots := sl } ∧
      R (.ok (.ret (Value.ref s.heap.objs.size))) { s with heap := s.heap.push { cls := Value.type "tuple", data := Data.seq #[] }, toks := s.toks }) :=
  .of_wp fun prog w A R s h => by
    obtain ⟨hp, g, d, tk, os⟩ := s
    obtain ⟨hl, h⟩ := h
    have f1 := AutoSeq1.idx_int
    have c0 : (decide ((0 : Int) < -(2 ^ 63)) || decide ((0 : Int) ≥ 2 ^ 63)) = false := by decide
    have c1 : (items.isEmpty || (0 : Int) == 1) = false := by rw [hi]; rfl
    have c2 : (decide ((0 : Int) ≤ 0) || items.isEmpty) = true := by rw [decide_eq_true (Int.le_refl 0)]; rfl
    wp_walk using wpAny_loadPart' hl
    repeat (first
      | (refine wpAny_ite_false (decide_eq_false (by rw [c0]; exact Bool.false_ne_true)) ?_; wp_walk using wpAny_loadPart' hl)
      | (refine wpAny_ite_false (decide_eq_false (by rw [c1]; exact Bool.false_ne_true)) ?_; wp_walk using wpAny_loadPart' hl)
      | (refine wpAny_ite_true (decide_eq_true c2) ?_; wp_walk using wpAny_loadPart' hl))
    exact ⟨_, rfl, h⟩
/-- (x,) * k for k 0 or 1 -/
def rRep01 (K : PySem.W.Frag) : R2 := fun x y H Q => ∃ l k xs, x = .ref l ∧ y = .int k ∧ SqT K H l xs ∧ xs ≠ [] ∧ 0 ≤ k ∧ k ≤ 1 ∧ (k = 1 → Q (.ref l) H) ∧ (k = 0 → ∀ p, H p = none → Q (.ref p) (upd H p (.tup [])))
theorem op_rep01K {K : PySem.W.Frag} (hK : X.K = K := by rfl) : OpR X (binaryOp .Mult) (rRep01 K) := by
  subst hK
  intro pins s σ H x y v u Q I rx ry h
  obtain ⟨l, k, xs, rfl, rfl, hT, hne, h0, h1, q1, q0⟩ := h
  cases rx
  obtain ⟨t, rfl⟩ := ry
  obtain ⟨its, r, ⟨⟨cls, dd, data, sl⟩, ho, hc, n, hd⟩, hs⟩ := I.tuple hT
  simp only at hc hd
  subst hc hd
  have hle : its.length = xs.length := r.length.symm
  have hn : its ≠ [] := fun e => hne (by
    rw [e] at hle
    exact List.eq_nil_of_length_eq_zero hle.symm)
  have hi : its.toArray.isEmpty = false := by
    cases its with
    | nil => exact absurd rfl hn
    | cons a b => rfl
  rcases (by omega : k = 1 ∨ k = 0) with e | e
  · subst e
    exact wpAny_binaryOp_repeat_ref (T := "tuple") (U := "int") (by decide) ⟨_, ho, rfl⟩ (fun s' => typeIs_int s' 1 t) noFill_tuple_mul F.fills_int_mul F.slot_int_rmul repeat_tuple F.slot_int_index.lookup
      (call_meets F.slot_int_rmul (typeIs_int s 1 t) F.entry_int_rmul (F.args_int_rmul_2 _ _) (int_rmul_tuple 1 t l its.toArray n dd sl)
        ⟨ho, rfl, ⟨_, ho, rfl⟩, call_meets F.slot_tuple_mul ⟨_, ho, rfl⟩ F.entry_tuple_mul (F.args_tuple_mul_2 _ _) (tuple_mul1 l its.toArray n dd sl t) ⟨ho, ⟨.ref l, H, I, rfl, q1 rfl⟩⟩⟩)
  · subst e
    refine wpAny_binaryOp_repeat_ref (T := "tuple") (U := "int") (by decide) ⟨_, ho, rfl⟩ (fun s' => typeIs_int s' 0 t) noFill_tuple_mul F.fills_int_mul F.slot_int_rmul repeat_tuple F.slot_int_index.lookup
      (call_meets F.slot_int_rmul (typeIs_int s 0 t) F.entry_int_rmul (F.args_int_rmul_2 _ _) (int_rmul_tuple 0 t l its.toArray n dd sl)
        ⟨ho, rfl, ⟨_, ho, rfl⟩, call_meets F.slot_tuple_mul ⟨_, ho, rfl⟩ F.entry_tuple_mul (F.args_tuple_mul_2 _ _) (tuple_mul0 l its.toArray n dd sl t hi) ⟨ho, ?_⟩⟩)
    refine ⟨.ref s.heap.objs.size, _, I.laid (t' := s.toks) (o := .tup []) (fun b ob q => Heap.get?_push_of_some _ q) (Nat.le_refl _) ?_, rfl, q0 rfl _ (I.hok.fresh (Nat.le_refl _))⟩
    exact ⟨Nat.zero_le _, _, .nil, IsTup.new _ _⟩
theorem op_catAK {K : PySem.W.Frag} (e : X.K = K := by rfl) : OpR X (binaryOp .Add) (rCatA K) := e ▸ op_catA
end
/-- t + u, told in one: some tuple with the items of both -/
theorem catA {K : PySem.W.Frag} {a b : Addr} {xs ys : List V} {H : Hp} {Q : VK} (ha : SqT K H a xs) (hb : SqT K H b ys) (hz : xs.length + ys.length ≤ 100000) (q : ∀ p H', Same H H' → SqT K H' p (xs ++ ys) → Q (.ref p) H') : rCatA K (.ref a) (.ref b) H Q := by
  refine ⟨a, b, xs, ys, rfl, rfl, ha, hb, Nat.le_trans hz (by decide), fun e => ?_, fun _ e => ?_, fun _ _ p hp => ?_⟩
  · subst e
    exact q b H (Same.refl _) hb
  · subst e
    rw [List.append_nil] at q
    exact q a H (Same.refl _) ha
  · exact q p _ (same_new hp) (SqT.of upd_same)
/-- t[lo:hi], told in one -/
theorem slA {K : PySem.W.Frag} {a : Addr} {xs : List V} {lo hi : Option Int} {H : Hp} {Q : VK} (ha : SqT K H a xs) (q : ∀ p H', Same H H' → SqT K H' p (cutV xs lo hi) → Q (.ref p) H') : rSlA K (.ref a) lo hi H Q := by
  refine ⟨a, xs, rfl, ha, fun e => q a H (Same.refl _) ?_, fun _ p hp => q p _ (same_new hp) (SqT.of upd_same)⟩
  unfold cutV
  rw [e.1, e.2, Nat.sub_zero, List.drop_zero, List.take_length]
  exact ha
end Hr

set_option Elab.async false
set_option linter.all false
set_option maxRecDepth 100000
set_option maxHeartbeats 4000000
/-! deadlocks as data -/
namespace Hr
open PySem PySem.Spec PyProof.Rows L2
abbrev Re := Str × Int
def rsD (r : Re) : PyData := .tuple [.str r.1, .int r.2]
def pairB (ps : List Pr2) (k s : Int) (sl : List Int) : Bool := decide (0 ≤ k) && match ps[k.toNat]? with
  | none => false
  | some p => decide (s = ((p.2 : Nat) : Int)) && decide (((p.1 : Nat) : Int) ∈ sl)
def repB (rs : List Rp) (k s : Int) (sl : List Int) : Bool := decide (0 ≤ k) && match rs[k.toNat]? with
  | none => false
  | some r => decide (s ∈ r.1.map fun (i : Nat) => (i : Int)) && (!decide (s ∈ r.2.map fun (i : Nat) => (i : Int)) && r.1.all fun x => decide (((x : Nat) : Int) ∈ sl))
def rsB (ps : List Pr2) (rs : List Rp) (sl : List Int) (s : Int) (r : Re) : Bool := if r.1 = "pair" then pairB ps r.2 s sl else decide (r.1 = "report") && repB rs r.2 s sl
theorem pairB_no {ps : List Pr2} {k s : Int} {sl : List Int} (h : k < 0 ∨ ps.length ≤ k) : pairB ps k s sl = false := by
  unfold pairB
  by_cases h0 : 0 ≤ k
  · rw [List.getElem?_eq_none (by omega), Bool.and_false]
  · rw [decide_eq_false h0, Bool.false_and]
theorem pairB_yes {ps : List Pr2} {k : Nat} {s : Int} {sl : List Int} {p : Pr2} (h : ps[k]? = some p) : pairB ps (k : Nat) s sl = (decide (s = ((p.2 : Nat) : Int)) && decide (((p.1 : Nat) : Int) ∈ sl)) := by
  unfold pairB
  rw [decide_eq_true (by omega), Bool.true_and, Int.toNat_natCast, h]
theorem repB_no {rs : List Rp} {k s : Int} {sl : List Int} (h : k < 0 ∨ rs.length ≤ k) : repB rs k s sl = false := by
  unfold repB
  by_cases h0 : 0 ≤ k
  · rw [List.getElem?_eq_none (by omega), Bool.and_false]
  · rw [decide_eq_false h0, Bool.false_and]
theorem repB_yes {rs : List Rp} {k : Nat} {s : Int} {sl : List Int} {r : Rp} (h : rs[k]? = some r) : repB rs (k : Nat) s sl = (decide (s ∈ r.1.map fun (i : Nat) => (i : Int)) && (!decide (s ∈ r.2.map fun (i : Nat) => (i : Int)) && r.1.all fun x => decide (((x : Nat) : Int) ∈ sl))) := by
  unfold repB
  rw [decide_eq_true (by omega), Bool.true_and, Int.toNat_natCast, h]
theorem rs_open {K : PySem.W.Frag} {H : Hp} {v : V} {r : Re} (h : Dp K H v (rsD r)) : ∃ a, v = .ref a ∧ SqT K H a [.str r.1, .int r.2] := by
  unfold rsD at h
  cases h with
  | tup h1 h2 =>
    cases h2 with
    | cons y1 r1 =>
      cases y1
      cases r1 with
      | cons y2 r2 =>
        cases y2
        cases r2
        exact ⟨_, rfl, h1⟩
theorem ints_all : ∀ {xs : List V}, (∀ x ∈ xs, ∃ i : Int, x = .int i) → ∃ l : List Int, xs = iV l
  | [], _ => ⟨[], rfl⟩
  | x :: r, h => by
    obtain ⟨i, rfl⟩ := h x List.mem_cons_self
    obtain ⟨l, rfl⟩ := ints_all fun y hy => h y (List.mem_cons_of_mem _ hy)
    exact ⟨i :: l, rfl⟩
theorem reas_all {K : PySem.W.Frag} {H : Hp} : ∀ {ys : List V}, (∀ y ∈ ys, ∃ r : Re, Dp K H y (rsD r)) → ∃ re : List Re, DpAll K H ys (re.map rsD)
  | [], _ => ⟨[], .nil⟩
  | y :: r, h => by
    obtain ⟨i, hi⟩ := h y List.mem_cons_self
    obtain ⟨l, hl⟩ := reas_all fun z hz => h z (List.mem_cons_of_mem _ hz)
    exact ⟨i :: l, .cons hi hl⟩
theorem mem_cut {x : V} {xs : List V} {lo hi : Option Int} (h : x ∈ cutV xs lo hi) : x ∈ xs := List.mem_of_mem_drop (List.mem_of_mem_take h)
theorem len_cut2 {xs : List V} {i : Int} (h0 : 0 ≤ i) : (cutV xs none (some i)).length + (cutV xs (some (i + 1)) none).length ≤ xs.length ∧ (cutV xs none (some i)).length + (cutV xs (some i) none).length ≤ xs.length := by
  have e1 : ∀ j : Int, 0 ≤ j → HT.sIx xs.length xs.length (some j) = min j.toNat xs.length ∧ HT.sIx xs.length 0 (some j) = min j.toNat xs.length := fun j hj => by
    unfold HT.sIx
    constructor <;> (simp only []; split <;> omega)
  have e2 : HT.sIx xs.length 0 none = 0 ∧ HT.sIx xs.length xs.length none = xs.length := ⟨rfl, rfl⟩
  unfold cutV
  simp only [List.length_take, List.length_drop, e2.1, e2.2, (e1 i h0).1, (e1 i h0).2, (e1 (i + 1) (by omega)).2]
  omega
theorem ix_any {K : PySem.W.Frag} {H : Hp} {a : Addr} {xs : List V} {i : Nat} {x : V} {Q : VK} (h : SqL K H a xs ∨ SqT K H a xs) (hx : xs[i]? = some x) (q : Q x H) : rIx K (.ref a) (.int (i : Nat)) H Q := by
  rcases h with h | h
  · exact .inl ⟨a, xs, _, _, rfl, rfl, h, atI_nat hx, q⟩
  · exact .inr (.inl ⟨a, xs, _, _, rfl, rfl, h, atI_nat hx, q⟩)
theorem dec_i {i j : Int} : decide (V.int i = V.int j) = decide (i = j) := dec_v Iff.rfl
theorem ite_and {b c : Bool} {A : Prop} {Q : Bool → Prop} (h : b = true → A) (h2 : b = false → Q false) : (if b = true then A else Q false) := by
  cases b
  · exact h2 rfl
  · exact h rfl
/-! ### the ascending ones -/
def slotB' (n i : Int) : Bool := decide (0 ≤ i) && decide (i < n)
theorem lt_all {l : List Int} (h : ∀ i, i + 1 < l.length → l.getD i 0 < l.getD (i + 1) 0) : ∀ j i, i < j → j < l.length → l.getD i 0 < l.getD j 0
  | 0, i, h1, _ => by omega
  | j + 1, i, h1, h2 => by
    have k := h j h2
    by_cases e : i = j
    · subst e; exact k
    · have := lt_all h j i (by omega) (by omega)
      omega
theorem eqvAll_ints : ∀ l m : List Int, PyData.eqvAll (l.map PyData.int) (m.map PyData.int) = true → l = m
  | [], [], _ => rfl
  | [], y :: m, h => by simp [PyData.eqvAll] at h
  | x :: l, [], h => by simp [PyData.eqvAll] at h
  | x :: l, y :: m, h => by
    simp only [List.map_cons, PyData.eqvAll, Bool.and_eq_true] at h
    have h1 : x = y := by
      have := h.1
      simpa [PyData.eqv] using this
    rw [h1, eqvAll_ints l m h.2]
theorem iD_deep {n : Nat} {l : List Int} (h : l.length < 50000) : deep (n + 2) (iD l) = true :=
  deep_list_of (by rw [List.length_map]; exact h) fun d hd => by
    obtain ⟨z, _, rfl⟩ := List.mem_map.mp hd
    exact deep_int
theorem eqv_ints {l m : List Int} (hl : l.length < 50000) : PyData.eqv (iD l) (iD m) = decide (l = m) := by
  by_cases e : l = m
  · subst e
    rw [eqv_same (iD_deep (n := 0) hl), decide_eq_true rfl]
  · rw [decide_eq_false e]
    refine Bool.eq_false_iff.mpr fun h => e (eqvAll_ints l m ?_)
    simpa [iD, PyData.eqv] using h
theorem nD_i (l : List Nat) : nD l = iD (l.map fun (i : Nat) => (i : Int)) := by unfold nD iD; rw [List.map_map]; rfl
/-- a deadlock: a pair of a tuple of numbers and a tuple of reasons -/
def DkAt (K : PySem.W.Frag) (H : Hp) (m : Nat) (v : V) : Prop := ∃ t sa ra xs ys, v = .ref t ∧ SqT K H t [.ref sa, .ref ra] ∧ SqT K H sa xs ∧ SqT K H ra ys ∧ xs.length ≤ m ∧ ys.length ≤ m ∧ (∀ x ∈ xs, ∃ i : Int, x = .int i) ∧ ∀ y ∈ ys, ∃ r : Re, Dp K H y (rsD r)
theorem DkAt.same {K : PySem.W.Frag} {H H' : Hp} {m : Nat} {v : V} (h : DkAt K H m v) (s : Same H H') : DkAt K H' m v := by
  obtain ⟨t, sa, ra, xs, ys, e, h1, h2, h3, h4, h5, h6, h7⟩ := h
  exact ⟨t, sa, ra, xs, ys, e, Same.seqT s h1, Same.seqT s h2, Same.seqT s h3, h4, h5, h6, fun y hy => by obtain ⟨r, hr⟩ := h7 y hy; exact ⟨r, dp_mono s hr⟩⟩
theorem slS {K : PySem.W.Frag} {S : List Addr} {a : Addr} {xs : List V} {lo hi : Option Int} {H : Hp} {Q : VK} (tr : Tr H S) (ha : SqT K (dl H S) a xs) (q : ∀ p H', Same H H' → SqT K (dl H' S) p (cutV xs lo hi) → Q (.ref p) H') : rSlA K (.ref a) lo hi H Q := by
  refine ⟨a, xs, rfl, Same.seqT dl_le ha, fun e => q a H (Same.refl _) ?_, fun _ p hp => q p _ (same_new hp) (SqT.of (dl_upd_at tr hp))⟩
  unfold cutV
  rw [e.1, e.2, Nat.sub_zero, List.drop_zero, List.take_length]
  exact ha
theorem catS {K : PySem.W.Frag} {S : List Addr} {a b : Addr} {xs ys : List V} {H : Hp} {Q : VK} (tr : Tr H S) (ha : SqT K (dl H S) a xs) (hb : SqT K (dl H S) b ys) (hz : xs.length + ys.length ≤ 100000) (q : ∀ p H', Same H H' → SqT K (dl H' S) p (xs ++ ys) → Q (.ref p) H') : rCatA K (.ref a) (.ref b) H Q := by
  refine ⟨a, b, xs, ys, rfl, rfl, Same.seqT dl_le ha, Same.seqT dl_le hb, Nat.le_trans hz (by decide), fun e => ?_, fun _ e => ?_, fun _ _ p hp => ?_⟩
  · subst e
    exact q b H (Same.refl _) hb
  · subst e
    rw [List.append_nil] at q
    exact q a H (Same.refl _) ha
  · exact q p _ (same_new hp) (SqT.of (dl_upd_at tr hp))
end Hr

set_option Elab.async false
set_option linter.all false
set_option maxRecDepth 100000
set_option maxHeartbeats 4000000
/-! sorted of a list or a tuple of ints; min of a list of ints -/
namespace Hr
open PySem PySem.Spec PyProof.Rows L2
section
variable {prog : Program} {w : World} {A : Around} {E : Value → Shared → Prop} {s : Shared}
theorem collect_tup {l : Addr} {vs : List Value} {Q : List Value → Shared → Prop} (hl : IsTup s.heap l vs.toArray)
    (h : Q vs { s with heap := (s.heap.push (seqObj "list" #[] 0)).update s.heap.objs.size (Obj.mapSeq (· ++ vs.toArray)) }) (hsz : vs.length ≤ sizeLine) :
    wpAny (model prog w) A (collect (.ref l)) Q E s := by
  obtain ⟨o, ho, hc, n, hd⟩ := id hl
  unfold collect
  refine wpAny_bind (wpAny_runValue (codeAny_builtin entry_proto_collect' ?_))
  show wpAny _ _ (do again (.builtin "list.__iadd__" ⟨[← newList [], .ref l], []⟩)) _ _ s
  refine wpAny_bind (wpAny_newList (wpAny_pure ⟨Code.quiet_builtin _ (by decide +kernel), codeAny_builtin entry_list_iadd' ?_⟩))
  show wpAny _ _ (Builtin.List.listExtendWith (.ref s.heap.objs.size) (.ref l) (.ref s.heap.objs.size)) _ _ { s with heap := s.heap.push (seqObj "list" #[] 0) }
  unfold Builtin.List.listExtendWith
  have ho' : (s.heap.push (seqObj "list" #[] 0)).get? l = some o := Heap.get?_push_of_some _ ho
  refine wpAny_bind (wpAny_typeOf (T := "tuple") ⟨o, ho', hc⟩ ?_)
  have ht : (Value.type "tuple" == Value.type "tuple") = true := by rfl
  rw [if_pos (by rw [ht]; simp)]
  refine wpAny_bind (listItems_at ho' hd ?_)
  refine wpAny_bind (listItems_at (xs := #[]) (n := 0) (Heap.get?_push_size _ rfl) rfl ?_)
  rw [if_neg (by simp)]
  refine wpAny_bind (listUpdate_at (xs := #[]) (n := 0) (Heap.get?_push_size _ rfl) rfl ?_ (Nat.zero_le _) (by show (#[] ++ vs.toArray).size ≤ sizeLine + 1; simp only [Array.size_append, List.size_toArray, List.length_nil]; omega))
  refine wpAny_pure ?_
  show wpAny (model prog w) A (do
      let o ← load s.heap.objs.size
      match o.data with
      | .seq xs _ => pure xs.toList
      | _ => unsupported "internal:collect") Q E { s with heap := (s.heap.push (seqObj "list" #[] 0)).update s.heap.objs.size (Obj.mapSeq (· ++ vs.toArray)) }
  refine wpAny_bind (wpAny_load (get?_update_seq (Heap.get?_push_size _ rfl) _) ?_)
  show wpAny _ _ (pure ((#[] : Array Value) ++ vs.toArray).toList) Q E _
  rw [show ((#[] : Array Value) ++ vs.toArray).toList = vs by simp]
  exact wpAny_pure h
end
end Hr
namespace SrtO
open PySem PyProof.Rows Srt
section
variable {prog : Program} {w : World} {A : Around} {E : Value → Shared → Prop} {s : Shared}
theorem sorted_ordT {l : Addr} {vs : List Value} {ltv : Value → Value → Bool} {Q : Value → Shared → Prop} (O : Swo ltv) (hl : IsTup s.heap l vs.toArray) (hz : vs.length ≤ sizeLine)
    (hS : 2 ≤ vs.length → ∀ (h₁ : Heap) (a : Addr), h₁.get? a = some (seqObj "list" vs.toArray 0) → (∀ b o, s.heap.get? b = some o → b ≠ a ∧ h₁.get? b = some o) → SortableO prog w A.in1.in1 { s with heap := h₁ } a vs ltv)
    (h : ∀ out : List Value, Srtd ltv out → Stb ltv out vs → Q (.ref (s.heap.objs.size + 1)) { s with heap := sortedAll s.heap vs out.toArray }) :
    wpAny (model prog w) A (call (.builtin "sorted") [.ref l]) Q E s := by
  refine Calls.call_function_entry kind_sorted plain_sorted entry_sorted (args_sorted1 _) ?_
  unfold Builtin.«sorted»
  refine wpAny_bind (m := checkCount "sorted" 1 1 _) (wpAny_pure ?_)
  refine wpAny_bind (Hr.collect_tup hl ?_ hz)
  refine wpAny_bind (wpAny_newList ?_ hz)
  have hsz : ((s.heap.push (seqObj "list" #[] 0)).update s.heap.objs.size (Obj.mapSeq (· ++ vs.toArray))).objs.size = s.heap.objs.size + 1 := by
    rw [Heap.size_update, size_push']
  have hoL : (((s.heap.push (seqObj "list" #[] 0)).update s.heap.objs.size (Obj.mapSeq (· ++ vs.toArray))).push (seqObj "list" vs.toArray 0)).get? (s.heap.objs.size + 1) = some (seqObj "list" vs.toArray 0) := by
    rw [← hsz]; exact Heap.get?_push_size _ rfl
  have keep : ∀ b o, s.heap.get? b = some o → b ≠ s.heap.objs.size + 1 ∧ (((s.heap.push (seqObj "list" #[] 0)).update s.heap.objs.size (Obj.mapSeq (· ++ vs.toArray))).push (seqObj "list" vs.toArray 0)).get? b = some o := fun b o q => by
    have hlt : b < s.heap.objs.size := Heap.lt_size q
    refine ⟨Nat.ne_of_lt (Nat.lt_succ_of_lt hlt), Heap.get?_push_of_some _ ?_⟩
    rw [Heap.get?_update_ne _ _ _ _ (Nat.ne_of_lt hlt)]
    exact Heap.get?_push_of_some _ q
  show wpAny _ _ _ _ _ { s with heap := ((s.heap.push (seqObj "list" #[] 0)).update s.heap.objs.size (Obj.mapSeq (· ++ vs.toArray))).push (seqObj "list" vs.toArray 0) }
  rw [hsz]
  refine wpAny_bind (wpAny_holding (wpAny_call_entry slot_list_sort ⟨_, hoL, rfl⟩ entry_list_sort (list_sort_ord O hoL hz (fun h2 => hS h2 _ _ hoL keep) fun out hs hb => ⟨_, rfl, ?_⟩) (args_list_sort _)))
  exact wpAny_pure ⟨_, rfl, h out hs hb⟩
end
end SrtO
namespace Hr
open PySem PySem.Spec PyProof.Rows L2
/-- sorted of ints, a list or a tuple -/
@[irreducible] def rSortedA (K : PySem.W.Frag) : List V → Hp → VK → Prop := fun vs H Q => ∃ (a : Addr) (ns : List Int), vs = [V.ref a] ∧ (SqL K H a (iV ns) ∨ SqT K H a (iV ns)) ∧
  ∀ (ns' : List Int) (p : Addr), ns'.Perm ns → ns'.Pairwise (· ≤ ·) → H p = none → Q (.ref p) (upd H p (.lst (iV ns')))
section
variable {X : Cx}
theorem cr_sortedAK {K : PySem.W.Frag} (hK : X.K = K := by rfl) : CallR X (.builtin "sorted") (rSortedA K) := by
  subst hK
  intro pins s σ H vs us Q I r h
  unfold rSortedA at h
  obtain ⟨a, ns, rfl, hs | hs, q⟩ := h
  · exact cr_sortedI pins s σ H _ us Q I r ⟨a, ns, rfl, hs, q⟩
  obtain ⟨its, rv, hl, hz⟩ := I.tuple hs
  rw [Vals.ref1 r]
  have hi := rv.ints
  refine SrtO.sorted_ordT SrtO.swo_int hl (by rw [← rv.length]; exact hz) (fun h2 h₁ a' _ _ => SrtO.ints_sortable hi h2) fun out h1 h2 => ?_
  obtain ⟨k1, k2, k3⟩ := SrtO.ints_out hi h1 h2
  obtain ⟨ep, he'⟩ := PyProof.Rows.sortedAll_at s.heap its out.toArray
  have hlen : ((out.map SrtO.iv).map V.int).length ≤ sizeLine := by
    rw [List.length_map, k2.length_eq]
    rw [List.length_map] at hz
    exact hz
  exact ⟨.ref _, upd H (s.heap.objs.size + 1) (.lst ((out.map SrtO.iv).map V.int)), I.laid (t' := s.toks) (fun _ _ => PyProof.Rows.sortedAll_old) (Nat.le_succ _) ⟨hlen, out, ep, vals_of_ints k1, he'⟩, rfl, q _ _ k2 k3 (I.hok.fresh (Nat.le_succ _))⟩
theorem cr_minK {K : PySem.W.Frag} (hc : X.calm = true) (e : X.K = K := by rfl) : CallR X (.builtin "min") (rMin K) := e ▸ cr_min hc
end
theorem sortedA_on {K : PySem.W.Frag} {H : Hp} {Q : VK} {a : Addr} {ns : List Int} (h : SqL K H a (iV ns) ∨ SqT K H a (iV ns)) (q : ∀ (ns' : List Int) (p : Addr), ns'.Perm ns → ns'.Pairwise (· ≤ ·) → H p = none → Q (.ref p) (upd H p (.lst (iV ns')))) : rSortedA K [.ref a] H Q := by
  unfold rSortedA
  exact ⟨a, ns, rfl, h, q⟩
/-! ### orders -/
def IsOrd (n : Nat) (o : List Int) : Prop := ∃ l : List Nat, o = (l.map fun (i : Nat) => (i : Int)) ∧ l.Perm (List.range n)
theorem le_asc {l : List Nat} (h : l.Pairwise (· ≤ ·)) (hn : l.Nodup) : Asc l := by
  refine List.Pairwise.imp₂ (fun a b h1 h2 => ?_) h hn
  omega
theorem sort_ord {n : Nat} {o s : List Int} (hp : s.Perm o) (hs : s.Pairwise (· ≤ ·)) : (s = (List.range n).map fun (i : Nat) => (i : Int)) ↔ IsOrd n o := by
  have tc : ∀ l : List Nat, (l.map fun (i : Nat) => (i : Int)).map Int.toNat = l := fun l => by
    rw [List.map_map]
    conv => rhs; rw [← List.map_id l]
    exact List.map_congr_left fun x _ => Int.toNat_natCast x
  constructor
  · intro e
    refine ⟨o.map Int.toNat, ?_, ?_⟩
    · rw [List.map_map]
      conv => lhs; rw [← List.map_id o]
      refine List.map_congr_left fun x hx => ?_
      have : x ∈ s := hp.symm.subset hx
      rw [e] at this
      obtain ⟨y, _, rfl⟩ := List.mem_map.mp this
      rfl
    · have := (hp.symm.map Int.toNat)
      rw [e, tc] at this
      exact this
  · rintro ⟨l, rfl, hl⟩
    have hb : ∀ x ∈ s, 0 ≤ x := fun x hx => by
      obtain ⟨y, _, rfl⟩ := List.mem_map.mp (hp.subset hx)
      omega
    have es : s = (s.map Int.toNat).map fun (i : Nat) => (i : Int) := by
      rw [List.map_map]
      conv => lhs; rw [← List.map_id s]
      refine List.map_congr_left fun x hx => ?_
      have := hb x hx
      show x = ((x.toNat : Nat) : Int)
      omega
    have pm : (s.map Int.toNat).Perm (List.range n) := by
      have := hp.map Int.toNat
      rw [tc] at this
      exact this.trans hl
    have hm : Asc (s.map Int.toNat) := le_asc (List.pairwise_map.mpr (hs.imp fun {a b} h => by omega)) (pm.nodup_iff.mpr List.nodup_range)
    have : s.map Int.toNat = List.range n := asc_ext hm List.pairwise_lt_range fun x => pm.mem_iff
    rw [es, this]
theorem dc_it {J : It} {n : Nat} {G : Hp → Prop} {Y : Nat → Hp → V → Hp → Prop} (w : Walk J n G Y) {g : TG} {tt : TT} {tk tv : TE} {vs : List Nat} {σ : L2.St} {H1 : Hp} {D : Addr} {Qd : Hp → Prop} (Pv : Nat → Hp → Prop) (h0 : Pv 0 (upd H1 D (.dK []))) (hG : ∀ i H, i ≤ n → Pv i H → G H)
    (hs : ∀ i x H H', i < n → Pv i H → Y i H x H' → g x (wipe σ vs) H' fun σ2 H2 => wipe σ2 vs = wipe σ vs ∧ tt σ2 H2 fun b H3 =>
      if b = true then tk σ2 H3 fun y H4 => tv σ2 H4 fun z H5 => ∃ kvs k, y = kV k ∧ H5 D = some (.dK kvs) ∧ kvs.length < sizeLine ∧ Pv (i + 1) (upd H5 D (.dK (putK kvs k z))) else Pv (i + 1) H3) (hd : ∀ H, Pv n H → Qd H) :
    ∃ W : Nat → Nat → Hp → Prop, (∃ m, W 0 m (upd H1 D (.dK []))) ∧ ∀ i m H, W i m H →
      (J.stop i H ∧ Qd H) ∨ (J.go i H ∧ ∃ Nx : Hp → Prop, (∀ H', Nx H' → ∃ m', m' < m ∧ W (i + 1) m' H') ∧ ∀ x H', J.yld i H x H' → g x (wipe σ vs) H' fun σ2 H2 => wipe σ2 vs = wipe σ vs ∧ tt σ2 H2 fun b H3 =>
        if b = true then tk σ2 H3 fun y H4 => tv σ2 H4 fun z H5 => ∃ kvs k, y = kV k ∧ H5 D = some (.dK kvs) ∧ kvs.length < sizeLine ∧ Nx (upd H5 D (.dK (putK kvs k z))) else Nx H3) := by
  refine ⟨fun i m H => m = n - i ∧ i ≤ n ∧ Pv i H, ⟨n, by simp, Nat.zero_le _, h0⟩, ?_⟩
  rintro i m H ⟨rfl, hi, p⟩
  have q := hG i H hi p
  by_cases hlt : i < n
  · refine .inr ⟨w.goes i H hlt q, Pv (i + 1), fun H' p' => ⟨n - (i + 1), by omega, rfl, hlt, p'⟩, fun x H' y => hs i x H H' hlt p (w.yields i H x H' hlt q y)⟩
  · have e : i = n := by omega
    subst e
    exact .inl ⟨w.stops H q, hd H p⟩
theorem idx_at {l : List Nat} {i s : Nat} (hn : l.Nodup) (h : l[i]? = some s) : l.idxOf s = i := by
  have h1 := (List.getElem?_eq_some_iff.mp h).1
  have h2 := (List.getElem?_eq_some_iff.mp h).2
  rw [← h2]
  exact List.Nodup.idxOf_getElem hn i h1
section
variable {X : Cx} {K : PySem.W.Frag} {o e : Expr} {apos cpos : Pos} {to : TE} {t : TA}
/-- xs.index(y), within a comprehension -/
theorem pe_indexK (ho : PE X o to) (ha : PA X [e] t) (hK : X.K = K := by rfl)
    (hbase : attributeBase o "index" X.env (eval o X.env) = eval o X.env := by rfl)
    (hfew : ((backTo cpos (starEach [e] X.env)).all (fun x => !x.1) && (backToKw cpos (keywordEach [] X.env)).all (fun x => x.1.isSome)
      && decide ([e].length + ([] : List Keyword).length + (if ([] : List Keyword).isEmpty then 0 else 1) < 30)) = true := by rfl)
    (hline : (apos.endLine == cpos.line) = true := by rfl) (hs : starEach [e] X.env = (false, eval e X.env) :: starEach [] X.env := by rfl) (hplain : (backTo cpos (starEach [] X.env)).any (·.1) = false := by rfl) :
    PE X (.Call (.Attribute o "index" apos) [e] [] cpos) (tBM K "list" (rIndex K) to t) := by
  subst hK
  exact pe_bm PySem.F.plainAttrs_list PySem.F.slot_list_index PySem.F.type_list_index mt_index ho ha hbase hfew hline hs hplain
end
/-- the place of a number in a list of numbers -/
theorem index_on {K : PySem.W.Frag} {H : Hp} {Q : VK} {a : Addr} {l : List Nat} {s : Nat} (ha : SqL K H a (nV l)) (hs : s ∈ l) (q : Q (.int ((l.idxOf s : Nat) : Int)) H) : rIndex K (.ref a) [.int ((s : Nat) : Int)] H Q := by
  have lt : l.idxOf s < l.length := List.idxOf_lt_length_of_mem hs
  refine ⟨a, nV l, _, l.idxOf s, .int ((s : Nat) : Int), rfl, rfl, ha, rfl, flat_nats _, ?_, ?_, fun m z hm hz => ?_, q⟩
  · rw [List.getElem?_map, List.getElem?_eq_getElem lt, List.getElem_idxOf lt]
    rfl
  · show (((s : Nat) : Int) == ((s : Nat) : Int)) = true
    exact beq_self_eq_true _
  · rw [List.getElem?_map, List.getElem?_eq_getElem (by omega)] at hz
    cases hz
    show (((l[m] : Nat) : Int) == ((s : Nat) : Int)) = false
    refine beq_eq_false_iff_ne.mpr fun e => ?_
    have e' : l[m] = s := by omega
    have k : (l[m] == s) = false := List.not_of_lt_findIdx (p := (· == s)) hm
    rw [e', beq_self_eq_true] at k
    cases k
end Hr

set_option Elab.async false
set_option linter.all false
set_option maxRecDepth 100000
set_option maxHeartbeats 4000000
/-! o.m(k=e); a comprehension over texts that the bag decides -/
namespace Hr
open PySem PySem.Spec PyProof.Rows L2
structure KwM (fd : FuncData) (ps ks : List Str) : Prop where
  to : ∀ (s : Shared) (u : Value) (us : List Value), us.length = ks.length → BindsTo s fd ⟨[u], ks.zip us⟩ (ps.zip (u :: us))
theorem kwm_of {K : PySem.W.Frag} {x qual : Str} {st : Stmt} {f : Addr} {fd : FuncData} {ps ks : List Str} (F : Fun K x qual st f fd)
    (h : ∀ (kV doc pm : Value) (an : Option Addr) (cdv ct u : Value) (us : List Value), us.length = ks.length → bindArgs (PySem.W.fnOf x qual (defArgs st) (defBody st) (defScope st) .none kV doc pm an cdv ct) ⟨[u], ks.zip us⟩ = pure (ps.zip (u :: us))) : KwM fd ps ks := by
  obtain ⟨oc, od, kV, doc, pm, an, cdv, ct, osl, rfl, lk, hcd⟩ := F.ex
  exact ⟨fun s u us hl => .of_eq (h kV doc pm an cdv ct u us hl)⟩
def tMethKw (C : Addr) (m : Str) (sp : Sp) (E : XK) (n : Nat) (ta : TE) (tk : TA) : TE := fun σ H Q => ta σ H fun x H1 => ∃ a dx fs, x = .ref a ∧ H1 a = some (.ins C dx fs) ∧ fs.lookup m = none ∧ tk σ H1 fun vs H2 => vs.length = n ∧ sp (x :: vs) H2 Q E
section
variable {X : Cx} {CX : CXT} {k : Nat} {f C : Addr} {fd : FuncData} {ps ks : List Str} {sp : Sp} {E : XK} {m : Str} {pos apos : Pos} {o : Expr} {kws : List Keyword} {ta : TE} {tk : TA}
theorem pe_methKw {pl : Sem Bool} (he : PE X o ta) (c : Cls X.K C) (hm : Meth X.K C m f) (F : FnOk X.prog X.w X.K X.mg X.base CX k f fd ps sp) (hr : Room k X.A) (hb : KwM fd ps ks) (hx : Passes CX X E) (hkw : PK X kws tk)
    (hall : (backToKw pos (keywordEach kws X.env)).all (·.1.isSome) = true := by rfl) (hks : (backToKw pos (keywordEach kws X.env)).filterMap (·.1) = ks := by rfl)
    (hpl : ((backTo pos (starEach [] X.env)).any (·.1) || (backToKw pos (keywordEach kws X.env)).any (·.1.isNone)) = false := by rfl)
    (ht : eval (.Call (.Attribute o m apos) [] kws pos) X.env = (do
      let ov ← eval o X.env
      standAt apos.atName
      let (f, first) ← holding [ov] (getMethod ov m pl)
      callWith pos f first (backTo pos (starEach [] X.env)) (backToKw pos (keywordEach kws X.env))) := by rfl) :
    PE X (.Call (.Attribute o m apos) [] kws pos) (tMethKw C m sp E ks.length ta tk) := by
  refine ⟨fun pins s σ H Q I h => ?_⟩
  refine PySem.W.methodCall_KW (pl := pl) (thn (he.run pins s σ H _ I h) fun u s1 ⟨x, H1, I1, rx, a, dx, fs, ex, ea, l, q⟩ => ?_) ht
  subst ex
  obtain rfl : u = Value.ref a := rx
  refine getmeth_ok I1 ea c hm l ?_
  refine PySem.W.callWith_KW0 (first := [.ref a]) (h₀ := X.base) I.ok.mod.kin hm.kp hall ?_ hpl
  refine thn (hkw.run pos pins s1 σ H1 _ I1 q) fun us s2 ⟨vs, H2, I2, r, hvl, q2⟩ => ⟨I2.kIn, ?_⟩
  rw [hks]
  have hl : us.length = ks.length := by rw [← r.length]; exact hvl
  refine wpAny_call (codeAny_mono (F.run X.A X.stack s2 H2 ⟨[.ref a], ks.zip us⟩ (.ref a :: us) (.ref a :: vs) Q E hr I2.env0 (hb.to s2 _ us hl) (.cons rfl r) q2) fun r s' hq => ?_)
  cases r with
  | error e => exact hx pins σ H2 s2 e s' I2 hq
  | ok fl =>
    cases fl with
    | ret u => exact I2.after hq
    | next => exact False.elim hq
    | brk => exact False.elim hq
    | cont => exact False.elim hq
end
/-- a comprehension that keeps some of a list's values, as the bag says -/
theorem lc_subV {J : It} {xs : List V} {G : Hp → Prop} (w : Walk J xs.length G (YAt xs)) {g : TG} {tt : TT} {te : TE} {vs : List Nat} {σ : L2.St} {H1 : Hp} {D b l : Addr} {Qd : Hp → Prop} (hb : Bag H1 b l) (hD : H1 D = none) (hG : ∀ H, Bx b l H1 H → G H) (hn : xs.length < 100000)
    (hs : ∀ (i : Nat) x H (R : V → Hp → Prop) (Z : Hp → Prop), xs[i]? = some x → Bx b l H1 H → (∀ H4, Bx b l H H4 → R x H4) → (∀ H4, Bx b l H H4 → Z H4) → g x (wipe σ vs) H fun σ2 H2 => wipe σ2 vs = wipe σ vs ∧ tt σ2 H2 fun bb H3 => if bb = true then te σ2 H3 R else Z H3)
    (hd : ∀ H ys, Bx b l H1 H → H D = some (.lst ys) → ys.Sublist xs → Qd H) :
    ∃ W : Nat → Nat → Hp → Prop, (∃ m, W 0 m (upd H1 D (.lst []))) ∧ ∀ i m H, W i m H →
      (J.stop i H ∧ Qd H) ∨ (J.go i H ∧ ∃ Nx : Hp → Prop, (∀ H', Nx H' → ∃ m', m' < m ∧ W (i + 1) m' H') ∧ ∀ x H', J.yld i H x H' → g x (wipe σ vs) H' fun σ2 H2 => wipe σ2 vs = wipe σ vs ∧ tt σ2 H2 fun b H3 =>
        if b = true then te σ2 H3 fun y H4 => ∃ acc, H4 D = some (.lst acc) ∧ acc.length < sizeLine ∧ Nx (upd H4 D (.lst (acc ++ [y]))) else Nx H3) := by
  have nD : D ≠ b := hb.ne_new hD
  have nL : D ≠ l := hb.ne_newl hD
  refine lc_it w (fun i H => Bx b l H1 H ∧ ∃ ys, H D = some (.lst ys) ∧ ys.Sublist (xs.take i)) ⟨Bx.new hb hD, [], upd_same, List.nil_sublist _⟩ (fun i H _ h => hG H h.1) ?_ ?_
  · rintro i x H H' hi ⟨bx, ys, hy, hl⟩ ⟨rfl, hx⟩
    refine hs i x H' _ _ hx bx (fun H4 b4 => ⟨ys, b4.keep D _ nD hy, szt ?_, ⟨b4.bag.of (upd_ne nD.symm) (upd_ne nL.symm), fun a o n e => ?_⟩, ys ++ [x], upd_same, ?_⟩) (fun H4 b4 => ⟨bx.trans b4, ys, b4.keep D _ nD hy, ?_⟩)
    · have := hl.length_le
      rw [List.length_take] at this
      omega
    · rw [upd_ne (ne_of_none e hD)]
      exact b4.keep a o n (bx.keep a o n e)
    · rw [take_step hx]
      exact hl.append (List.Sublist.refl _)
    · rw [take_step hx]
      exact hl.trans (List.sublist_append_left _ _)
  · rintro H ⟨bx, ys, hy, hl⟩
    rw [List.take_length] at hl
    exact hd H ys bx hy hl
end Hr

set_option Elab.async false
set_option linter.all false
set_option maxRecDepth 100000
set_option maxHeartbeats 4000000
/-! set(xs) of a list of ints; its sorted list -/
namespace Hr
open PySem PySem.Spec PyProof.Rows L2
/-- a new set -/
abbrev nSet (w : World) : Obj := { cls := .type "set", dict := none, data := .set #[] 0 (.fresh 0 0 (!w.params.followText "set-order")) }
/-- what set(xs) leaves behind: the set lies at the heap's end, all else is as it was -/
def SetMade (w : World) (s : Shared) (ns : List Int) (s2 : Shared) : Prop :=
  ∃ h' tk c, s2 = { s with heap := h', toks := tk } ∧ SetR w h' s.heap.objs.size (fun j => decide (j ∈ ns)) c ∧ c ≤ ns.length ∧ ∀ b o, s.heap.get? b = some o → h'.get? b = some o
section
variable {P : Program} {w : World} {A : Around} {E : Value → Shared → Prop} {s : Shared}
theorem ints_val {items : Array Value} {ns : List Int} (hit : IntsAre items.toList ns) : items.size = ns.length ∧ ∀ (i : Nat) (v : Value), items[i]? = some v → ∃ k t, ns[i]? = some k ∧ v = .int k t := by
  have hz : items.size = ns.length := by
    have q := IntsAre.length hit
    rwa [Array.length_toList] at q
  refine ⟨hz, fun i v hv => ?_⟩
  have hi : i < ns.length := hz ▸ (Array.getElem?_eq_some_iff.mp hv).1
  obtain ⟨t, e⟩ := PyProof.Rows.IntsAre.int_at hit i v (by rw [Array.getElem?_toList]; exact hv)
  exact ⟨ns[i], t, List.getElem?_eq_getElem hi, by rw [e, List.getD_eq_getElem?_getD, List.getElem?_eq_getElem hi]; rfl⟩
/-- set(xs): the set is laid, then its own __init__ walks the list -/
theorem call_set_lst {l : Addr} {items : Array Value} {ns : List Int} {Q : Value → Shared → Prop} (hh : A.handled = none) (hl : s.heap.IsList l items) (hit : IntsAre items.toList ns) (hb : ns.length + 1 < scanBound)
    (h : ∀ s2, SetMade w s ns s2 → Q (.ref s.heap.objs.size) s2) : wpAny (model P w) A (call (.type "set") [.ref l]) Q E s := by
  obtain ⟨hz, hval⟩ := ints_val hit
  have fC := F.called_set
  obtain ⟨c, tl, mro⟩ := fC.mro
  have f1 := fC.made; have f2 := fC.sub; have f3 := fC.notType; have f4 := fC.canCreate
  have f5 := F.typeCall_set_1 (.ref l)
  have f6 := fC.init.lookup
  have f7 := fC.init.bind (.ref s.heap.objs.size)
  have at0 : (s.heap.push (nSet w)).get? s.heap.objs.size = some (nSet w) := Heap.get?_push_size _ rfl
  have tS : Shared.TypeIs { s with heap := s.heap.push (nSet w) } (.ref s.heap.objs.size) "set" := ⟨_, at0, rfl⟩
  have lt0 : l < s.heap.objs.size := by
    obtain ⟨o, ho, _⟩ := hl
    exact Heap.lt_size ho
  refine wpAny_call (codeAny_of_tree ?_)
  show wpAny _ _ (callAny (.type "set") _) _ _ _
  refine wpAny_pure ⟨Code.quiet_builtin _ (by decide +kernel), codeAny_builtin F.entry_type_call ?_⟩
  rw [Around.under_plain (weight_type_call_type "set" [.ref l] []) rfl]
  repeat (any_goals (first | assumption | wp_step))
  refine codeAny_mono (code_set_led1 (.ref l) (E := E) (Q₁ := fun x s1 => x = .ref s.heap.objs.size ∧ s1 = { s with heap := s.heap.push (nSet w) }) ⟨rfl, rfl⟩) fun r s1 hr => ?_
  rcases r with e | fl
  · exact hr
  cases fl
  case ret =>
    obtain ⟨rfl, rfl⟩ := hr
    repeat (any_goals (first | assumption | wp_step))
    refine codeAny_mono (codeAny_call_builtin (R := wants (fun x s2 => x = .none ∧ SetMade w s ns s2) E) fC.init.plain F.entry_set_init (check_set_init_1 tS ?_)) fun r2 s2 hr2 => ?_
    · have hl1 : (s.heap.push (nSet w)).IsList l items := hl.push _
      obtain ⟨⟨_, od, _, os⟩, ho, rfl, n, rfl⟩ := hl1
      have e1 := F.sub_list_set; have e2 := F.sub_list_frozenset
      have e3 : (Value.type "list" == Value.type "dict") = false := by decide
      have hl1 : (s.heap.push (nSet w)).IsList l items := hl.push _
      unfold Builtin.«set.__init__» noKeywords Builtin.Frozenset.updateFrom
      generalize hPI : pyIter = PI
      wp_walk
      subst hPI
      refine wpAny_pyIter_list hl1 (wpAny_bind (wpAny_runValue ?_))
      have nI : l ≠ (s.heap.push (nSet w)).objs.size := by
        rw [Heap.size_push]
        exact Nat.ne_of_lt (Nat.lt_succ_of_lt lt0)
      have nS : s.heap.objs.size ∉ [(s.heap.push (nSet w)).objs.size, l] := fun z => by
        rw [Heap.size_push] at z
        rcases List.mem_cons.mp z with z | z
        · omega
        · exact Nat.ne_of_gt lt0 (List.mem_singleton.mp z)
      refine set_update_ints ((Walks.list (by simp [hh]) _ l nI items).toS) s.heap.objs.size nS ns hz hb hval (items.size - 0) 0 _ rfl (Nat.zero_le _)
        ⟨⟨_, Heap.get?_push_size _ rfl, rfl, rfl⟩, hl1.push _⟩ ⟨0, Nat.le_refl 0, setR_new_at (Heap.get?_push_of_some _ at0)⟩ fun s' c' m hc R => ?_
      obtain ⟨h', g', d', k', o'⟩ := s'
      have q1 : g' = s.gens := m.gens
      have q2 : d' = s.drawn := m.drawn
      have q3 : o' = s.os := m.os
      subst q1; subst q2; subst q3
      show wpAny _ _ _ _ _ _
      refine wpAny_pure ?_
      show wpAny _ _ (ret Value.none) _ _ _
      refine wpAny_pure ⟨rfl, h', k', c', rfl, R, hz ▸ hc, fun b o e => m.heap b o (fun z => ?_) (Heap.get?_push_of_some _ (Heap.get?_push_of_some _ e))⟩
      have lb := Heap.lt_size e
      rcases List.mem_cons.mp z with z | z
      · exact Nat.ne_of_lt lb z
      · have z := List.mem_singleton.mp z
        rw [Heap.size_push] at z
        exact Nat.ne_of_lt (Nat.lt_succ_of_lt lb) z
    · rcases r2 with e | fl
      · exact hr2
      cases fl
      case ret =>
        obtain ⟨rfl, hm⟩ := hr2
        repeat (any_goals (first | assumption | wp_step))
        exact h _ hm
      all_goals exact hr2.elim
  all_goals exact hr.elim
end
section
variable {X : Cx}
/-- set(xs) -/
def rSetL (K : PySem.W.Frag) (w : World) : List V → Hp → VK → Prop := fun vs H Q => ∃ (a : Addr) (ns : List Int), vs = [V.ref a] ∧ SqL K H a (ns.map V.int) ∧ ns.length < 1000 ∧
  ∀ (p : Addr) (c : Nat), H p = none → c ≤ ns.length → Q (.ref p) (upd H p (SetO w p (fun j => decide (j ∈ ns)) c))
theorem cr_setL (hc : X.calm = true) : CallR X (.type "set") (rSetL X.K X.w) := by
  intro pins s σ H vs us Q I r h
  obtain ⟨a, ns, rfl, ha, hn, q⟩ := h
  rw [Vals.ref1 r]
  obtain ⟨its, rv, pl, hz⟩ := I.list ha
  refine call_set_lst (ns := ns) (I.ok.hd hc) pl.isList (by simpa using ints_of_vals rv) (by unfold scanBound; omega) fun s2 ⟨h', tk, c, e, R, hcn, k⟩ => ?_
  subst e
  exact ⟨.ref _, upd H s.heap.objs.size (SetO X.w s.heap.objs.size (fun j => decide (j ∈ ns)) c), I.laid (t' := tk) k (Nat.le_refl _) (setO_new R), rfl, q _ c (I.hok.fresh (Nat.le_refl _)) hcn⟩
end
end Hr

set_option Elab.async false
set_option linter.all false
set_option maxRecDepth 100000
set_option maxHeartbeats 4000000
/-! sorted of a list of tuples that can be compared place by place -/
namespace Hr
open PySem PySem.Spec PySem.W PyProof.Rows L2
section
variable {X : Cx}
/-- the order of rows: an item and what it says -/
def rowLe : V × PyData → V × PyData → Bool := dataLe false (·.2)
@[irreducible] def rSortedD (K : PySem.W.Frag) : List V → Hp → VK → Prop := fun vs H Q => ∃ (a : Addr) (zs : List (V × PyData)), vs = [V.ref a] ∧ SqL K H a (zs.map (·.1)) ∧ DpAll K H (zs.map (·.1)) (zs.map (·.2)) ∧ AllAlike (zs.map (·.2)) ∧ (∀ z ∈ zs, ∃ x r, z.2 = .tuple (x :: r)) ∧ zs.length ≤ 1000 ∧ (∀ z ∈ zs, z.2.depth ≤ 20) ∧
  ∀ p, H p = none → Q (.ref p) (upd H p (.lst ((zs.mergeSort rowLe).map (·.1))))
theorem each_rel : ∀ {zs : List (V × PyData)} {us : List Value}, Vals (zs.map (·.1)) us → EachIs (fun u z => RelV z.1 u) us zs
  | [], _, .nil => .nil
  | z :: zs, _, .cons r t => .cons r (each_rel t)
theorem rel_each : ∀ {zs : List (V × PyData)} {us : List Value}, EachIs (fun u (z : V × PyData) => RelV z.1 u) us zs → Vals (zs.map (·.1)) us
  | _, _, .nil => .nil
  | _, _, .cons r t => .cons r (rel_each t)
theorem each_reads {pins : List (Addr × Obj)} {σ : L2.St} {H : Hp} {s : Shared} (I : Inv X pins σ H s) : ∀ {zs : List (V × PyData)} {us : List Value}, Vals (zs.map (·.1)) us → DpAll X.K H (zs.map (·.1)) (zs.map (·.2)) → EachIs (fun u (z : V × PyData) => ∃ as, Reads s.heap u z.2 as) us zs
  | [], _, .nil, _ => .nil
  | z :: zs, _, .cons r t, .cons h1 h2 => .cons (Dp.reads I _ _ _ h1 r) (each_reads I t h2)
theorem cr_sortedDK {K : PySem.W.Frag} (hu : X.A.units + 64 < cLine) (hK : X.K = K := by rfl) : CallR X (.builtin "sorted") (rSortedD K) := by
  subst hK
  intro pins s σ H vs us Q I r h
  unfold rSortedD at h
  obtain ⟨a, zs, rfl, hs, hd, hal, htp, hl, hdp, q⟩ := h
  obtain ⟨its, rv, pl, hz⟩ := I.list hs
  rw [Vals.ref1 r]
  refine sorted_data (enc := fun z : V × PyData => z.2) (R := fun u z => RelV z.1 u) pl.isList (each_rel rv) (each_reads I rv hd) hal (.inl fun d hd' => ?_) (by rw [sizeLine_eq]; omega) (fun z hz' => by have := hdp z hz'; omega) fun out ho he => ?_
  · obtain ⟨z, hz', rfl⟩ := List.mem_map.mp hd'
    exact htp z hz'
  obtain ⟨ep, he'⟩ := PyProof.Rows.sortedAll_at s.heap its out.toArray
  have hlen : ((zs.mergeSort rowLe).map (·.1)).length ≤ sizeLine := by
    rw [List.length_map, List.length_mergeSort, sizeLine_eq]
    omega
  exact ⟨.ref _, upd H (s.heap.objs.size + 1) (.lst ((zs.mergeSort rowLe).map (·.1))), I.laid (t' := s.toks) (fun _ _ => PyProof.Rows.sortedAll_old) (Nat.le_succ _) ⟨hlen, out, ep, rel_each he, he'⟩, rfl, q _ (I.hok.fresh (Nat.le_succ _))⟩
end
theorem sortedD_on {K : PySem.W.Frag} {H : Hp} {Q : VK} {a : Addr} (zs : List (V × PyData)) (h1 : SqL K H a (zs.map (·.1))) (h2 : DpAll K H (zs.map (·.1)) (zs.map (·.2))) (h3 : AllAlike (zs.map (·.2))) (h4 : ∀ z ∈ zs, ∃ x r, z.2 = .tuple (x :: r)) (h5 : zs.length ≤ 1000) (h6 : ∀ z ∈ zs, z.2.depth ≤ 20)
    (q : ∀ p, H p = none → Q (.ref p) (upd H p (.lst ((zs.mergeSort rowLe).map (·.1))))) : rSortedD K [.ref a] H Q := by
  unfold rSortedD
  exact ⟨a, zs, rfl, h1, h2, h3, h4, h5, h6, q⟩
end Hr

set_option Elab.async false
set_option linter.all false
set_option maxRecDepth 100000
set_option maxHeartbeats 4000000
/-! errors of the program's own classes, over ValueError or over LookupError, with their own __init__ -/
namespace Hr
open PySem PySem.Spec PyProof.Rows L2
/-- what the written part says of a class of errors -/
structure XcC (K : PySem.W.Frag) (C : Addr) : Prop where
  fac : ∃ (B newId initId : String) (bmB : List Value), ExcBaseFacts B newId initId bmB ∧ StoreFacts B bmB "object.__setattr__" "object" ∧ PySem.W.excInitIn K C bmB newId = true ∧ PySem.W.excOver K C bmB = true
  sa : PySem.W.findIn K (.ref C) "__setattr__" = some (some (.builtin "object.__setattr__"))
  ga : PySem.W.findIn K (.ref C) "__getattribute__" = some (some (.builtin "BaseException.__getattribute__"))
  gg : PySem.W.findIn K (.ref C) "__getattr__" = some none
  sub : PySem.W.subIn K (.ref C) (.type "BaseException") = some true
  typ : PySem.W.typeIn K (.ref C) = some (.type "type")
  kp : PySem.W.keepIn K (.ref C) = true
  hd : PySem.W.hasDictIn K C = true
abbrev tailVE : List Value := [.type "ValueError", .type "Exception", .type "BaseException", .type "object"]
abbrev tailLE : List Value := [.type "LookupError", .type "Exception", .type "BaseException", .type "object"]
/-- all but the base, in one look -/
def xcB (K : PySem.W.Frag) (C : Addr) : Bool :=
  decide (PySem.W.findIn K (.ref C) "__setattr__" = some (some (.builtin "object.__setattr__"))) && (decide (PySem.W.findIn K (.ref C) "__getattribute__" = some (some (.builtin "BaseException.__getattribute__"))) && (decide (PySem.W.findIn K (.ref C) "__getattr__" = some none) &&
    (decide (PySem.W.subIn K (.ref C) (.type "BaseException") = some true) && (decide (PySem.W.typeIn K (.ref C) = some (.type "type")) && (PySem.W.keepIn K (.ref C) && PySem.W.hasDictIn K C)))))
def xcV (K : PySem.W.Frag) (C : Addr) : Bool := PySem.W.excInitIn K C tailVE "ValueError.__new__" && (PySem.W.excOver K C tailVE && xcB K C)
def xcL (K : PySem.W.Frag) (C : Addr) : Bool := PySem.W.excInitIn K C tailLE "LookupError.__new__" && (PySem.W.excOver K C tailLE && xcB K C)
theorem xcB_of {K : PySem.W.Frag} {C : Addr} {B newId initId : String} {bmB : List Value} (f1 : ExcBaseFacts B newId initId bmB) (f2 : StoreFacts B bmB "object.__setattr__" "object") (q : (PySem.W.excInitIn K C bmB newId && (PySem.W.excOver K C bmB && xcB K C)) = true) : XcC K C := by
  unfold xcB at q
  simp only [Bool.and_eq_true, decide_eq_true_eq] at q
  obtain ⟨q1, q2, a1, a2, a3, a4, a5, a6, a7⟩ := q
  exact ⟨⟨B, newId, initId, bmB, f1, f2, q1, q2⟩, a1, a2, a3, a4, a5, a6, a7⟩
theorem xcV_of {K : PySem.W.Frag} {C : Addr} (q : xcV K C = true) : XcC K C := xcB_of F.excBase_ValueError F.store_ValueError q
theorem xcL_of {K : PySem.W.Frag} {C : Addr} (q : xcL K C = true) : XcC K C := xcB_of F.excBase_LookupError F.store_LookupError q
theorem taker_no {K : PySem.W.Frag} {C : Addr} {f : Str} (h : PySem.W.findIn K (.ref C) f = some none) : PySem.W.takerIn K C f = some none := by
  unfold PySem.W.takerIn
  rw [h]
  rfl
section
variable {X : Cx} {pins : List (Addr × Obj)} {σ : L2.St} {H : Hp} {s : Shared} {a C dx : Addr} {f : Str} {y : V} {u : Value} {fs : List (Str × V)} {Q : Unit → Shared → Prop} {E : Value → Shared → Prop} {A : Around}
/-- the first field of a new error: its dict is laid -/
theorem xst_new (T : XcC X.K C) (I : Inv X pins σ H s) (e : H a = some (exo a C none)) (no : PySem.W.findIn X.K (.ref C) f = some none) (ry : RelV y u)
    (h : ∀ dx s', H dx = none → dx ≠ a → Inv X pins σ (upd (upd H dx (exd dx [(f, y)])) a (exo a C (some dx))) s' → Q () s') : wpAny (model X.prog X.w) A (setAttr (.ref a) f u) Q E s := by
  obtain ⟨B, newId, initId, bmB, _, f2, _, q2⟩ := T.fac
  obtain ⟨t1, ho⟩ := exo_at I.hok e
  obtain ⟨cd, hc, hd'⟩ := PySem.W.any_some T.hd
  have kin := I.kIn
  obtain ⟨hp, g, d, t, os⟩ := s
  have las : a ≠ hp.objs.size := Nat.ne_of_lt (Heap.lt_size ho)
  refine PySem.W.set_plain kin (od := none) ⟨ho, rfl, rfl, trivial⟩ T.sa (PySem.W.osa_openX (od := none) f2 kin ⟨ho, rfl, rfl, trivial⟩ q2 (taker_no no) fun bb => ?_)
  refine wpAny_bind (wpAny_pure (wpAny_bind (PySem.W.instanceDict_exc (t := t1) (c2 := .none) ho (PySem.W.looks_clsIn kin hc) hd' ?_)))
  refine PySem.HandSPX.store_in_new ⟨_, #[], _, (Heap.get?_update_ne _ _ _ _ las.symm).trans (Heap.get?_push_at rfl rfl), rfl, fun e he => absurd he (by simp), fun _ => rfl⟩ fun h' tk' hn hs => ?_
  have ha1 : (hp.push (PySem.W.dictOf [] 0)).get? a = some (PySem.W.excObj C t1 none .none) := Heap.get?_push_of_some _ ho
  have kp : ∀ b o, b ≠ a → hp.get? b = some o → h'.get? b = some o := fun b o hb hg => (hs.2 b (Nat.ne_of_lt (Heap.lt_size hg))).trans ((Heap.get?_update_ne _ _ _ _ hb).trans (Heap.get?_push_of_some _ hg))
  have hx : h'.get? a = some (PySem.W.excObj C t1 (some hp.objs.size) .none) := (hs.2 a las).trans (Heap.get?_update_self _ ha1 rfl)
  have fr : H hp.objs.size = none := I.hok.fresh (Nat.le_refl _)
  have nd : ∀ {b : Addr} {o : Obj}, hp.get? b = some o → b ≠ hp.objs.size := fun {b o} q => Nat.ne_of_lt (Heap.lt_size q)
  have na : ∀ {b : Addr}, H b = none → b ≠ a := fun {b} n z => by
    rw [z, e] at n
    cases n
  have away : ∀ {b : Addr} {o : HO}, H b = some o → b ≠ a → upd (upd H hp.objs.size (exd hp.objs.size [(f, y)])) a (exo a C (some hp.objs.size)) b = some o := fun {b o} q hb => by rw [upd_ne hb, upd_ne (ne_of_none q fr)]; exact q
  have un : Un X.fs [] H (upd (upd H hp.objs.size (exd hp.objs.size [(f, y)])) a (exo a C (some hp.objs.size))) hp h' :=
    ⟨fun b o q n _ _ => kp b o (na n) q, fun b o q n _ _ => ⟨o.slots, kp b o (na n) q⟩, fun b o q n _ => by rw [upd_ne (na n), upd_ne (nd q)]; exact n,
      fun b o q _ => by
        by_cases hb : b = a
        · exact ⟨_, by rw [hb]; exact hx⟩
        · exact ⟨o, kp b o hb q⟩,
      fun b xs q => away q (at_ne e q exo_tup), fun b o v q => away q (at_ne e q exo_frz), fun b ps q => ⟨#[], by rw [away q (at_ne e q exo_tbl)]; simp⟩⟩
  refine h hp.objs.size _ fr las.symm (I.un (t' := tk') un fun b o q => ?_)
  by_cases hb : b = a
  · subst hb
    rw [upd_same] at q
    cases q
    exact exo_ok hx
  rw [upd_ne hb] at q
  by_cases hb2 : b = hp.objs.size
  · subst hb2
    rw [upd_same] at q
    cases q
    exact exd_ok hn (relO_put (fs := []) ry fun _ => True.intro)
  rw [upd_ne hb2] at q
  refine (I.hok b o q).stay (fun c v hc z => kp c v ?_ z) (fun c hc => away hc (at_ne e hc exo_own)) fun c xs hc => away hc (at_ne e hc exo_tup)
  rcases hc with hc | hc
  · rw [hc]
    exact hb
  · exact at_ne e hc exo_own
/-- a further field -/
theorem xst_old (T : XcC X.K C) (I : Inv X pins σ H s) (e : H a = some (exo a C (some dx))) (ed : H dx = some (exd dx fs)) (hl : fs.length ≤ 900) (no : PySem.W.findIn X.K (.ref C) f = some none) (ry : RelV y u)
    (h : ∀ s', Inv X pins σ (upd H dx (exd dx ((f, y) :: fs))) s' → Q () s') : wpAny (model X.prog X.w) A (setAttr (.ref a) f u) Q E s := by
  obtain ⟨B, newId, initId, bmB, _, f2, _, q2⟩ := T.fac
  obtain ⟨t1, ho⟩ := exo_at I.hok e
  obtain ⟨mA, hns, rel⟩ := exd_at I.hok ed
  obtain ⟨cd, hc, hd'⟩ := PySem.W.any_some T.hd
  have kin := I.kIn
  have hw := within_of rel
  obtain ⟨hp, g, d, t, os⟩ := s
  obtain ⟨oD, _, _, hoD, _, _⟩ := hns.count hw
  refine PySem.W.set_plain kin (od := some oD) ⟨ho, rfl, rfl, hoD⟩ T.sa (PySem.W.osa_openX (od := some oD) f2 kin ⟨ho, rfl, rfl, hoD⟩ q2 (taker_no no) fun bb => ?_)
  refine wpAny_bind (wpAny_pure (wpAny_bind (wpAny_bind (wpAny_loadPart ho (wpAny_bind ((PySem.W.looks_clsIn kin hc).at ?_))))))
  rw [hd']
  refine wpAny_pure (a := some dx) (PySem.OEX.store_in_old hns hw (by rw [List.length_map]; omega) fun h' tk' hn hs => ?_)
  obtain ⟨o1, _, _, e1, _⟩ := id hn
  exact h _ (I.write (t' := tk') (x := dx) (e := dx) (o := exd dx ((f, y) :: fs)) (by rw [ed]; exact True.intro) (.inl rfl) (fun b o hb ho => (hs.2 b hb).trans ho) ⟨o1, e1⟩ (exd_ok hn (relO_put ry rel)))
end
/-- self.f = e, self a new error -/
def tXst (K : PySem.W.Frag) (f : Str) (to te : TE) : TS := fun D σ H => te σ H fun y H1 => to σ H1 fun x H2 => ∃ a C : Addr, x = .ref a ∧ XcC K C ∧ PySem.W.findIn K (.ref C) f = some none ∧
  ((H2 a = some (exo a C none) ∧ ∀ dx, H2 dx = none → dx ≠ a → D.nx σ (upd (upd H2 dx (exd dx [(f, y)])) a (exo a C (some dx)))) ∨
    ∃ (dx : Addr) (fs : List (Str × V)), H2 a = some (exo a C (some dx)) ∧ H2 dx = some (exd dx fs) ∧ fs.length ≤ 900 ∧ D.nx σ (upd H2 dx (exd dx ((f, y) :: fs))))
theorem ps_xst {X : Cx} {o e : Expr} {to te : TE} {f : Str} {p' pos : Pos} (ho : PE X o to) (he : PE X e te) (hs : swapsWith e (some (.Attribute o f p')) pos.line X.env = pure false := by rfl) : PS X (.Assign [.Attribute o f p'] e pos) (tXst X.K f to te) := by
  refine ⟨fun pins s σ H D I h => plainObj_wpAny_Assign_Attribute (thn (he.run pins s σ H _ I h) fun v s1 ⟨y, H1, I1, r1, q1⟩ => thn (ho.run pins s1 σ H1 _ I1 q1) fun u s2 ⟨x, H2, I2, r2, a, C, ex, T, no, q⟩ => ?_) hs⟩
  subst ex
  obtain rfl : u = Value.ref a := r2
  rcases q with ⟨ea, q⟩ | ⟨dx, fs, ea, ed, hl, q⟩
  · exact xst_new T I2 ea no r1 fun dx s' n ne J => ⟨σ, _, J, q dx n ne⟩
  · exact xst_old T I2 ea ed hl no r1 fun s' J => ⟨σ, _, J, q⟩
/-- what the making of such an error leaves -/
theorem mkp_of {X : Cx} {pins : List (Addr × Obj)} {σ : L2.St} {H1 H2 : Hp} {Q : XK} {hp hp2 h2 : Heap} {g1 g2 : Array GenState} {d1 d2 : Drawn} {t1 t2 : Nat} {os1 os2 : OsState} {a C d : Addr} {fs : List (Str × V)} (T : XcC X.K C) (I1 : Inv X pins σ H1 ⟨hp, g1, d1, t1, os1⟩)
    (ha : hp.objs.size ≤ a) (k : ∀ b o, hp.get? b = some o → hp2.get? b = some o) (un : Un (frs X.stack) [] (upd H1 a (exo a C none)) H2 hp2 h2) (hok : HOk X.prog X.w H2 h2) (ho : os2 = os1) (hb : AllBare g2)
    (ea : H2 a = some (exo a C (some d))) (ed : H2 d = some (exd d fs)) (hd1 : H1 d = none) (q : Q (.ref C) (some d) (upd (del H2 a) d (.xd fs))) : L2N.MkP X pins σ Q (.ref a) ⟨h2, g2, d2, t2, os2⟩ := by
  obtain ⟨t0, G, J, kG, ge, hoe, na⟩ := mk_end0 (d2 := d2) (t2 := t2) I1 ha k un hok ho hb ea ed hd1
  refine ⟨a, _, _, ⟨G, g2, d2, t2, os2⟩, _, .ref C, some d, rfl, J, kG, ge, hoe, ⟨rfl, rfl, fun vs hv => ?_⟩, rfl, rfl, na, rfl, hb, raises_own T.sub T.typ, q⟩
  cases hv
  rfl
section
variable {X : Cx} {x : Str} {e : Expr} {es : List Expr} {ta : TA} {p pos : Pos} {C fI : Addr} {k : Nat} {fd : FuncData} {ps : List Str} {sp : Sp}
theorem call_xc {pins : List (Addr × Obj)} {σ : L2.St} {H1 : Hp} {Q : XK} {s1 : Shared} {us : List Value} {vs : List V} (T : XcC X.K C) (iC : PySem.W.findIn X.K (.ref C) "__init__" = some (some (.ref fI))) (tI : PySem.W.typeIn X.K (.ref fI) = some (.type "function"))
    (F1 : FnOk X.prog X.w X.K X.mg X.base CX0 k fI fd ps sp) (hr : Room (k + 1) X.A) (hb : Binds X.K fd ps []) (I1 : Inv X pins σ H1 s1) (r1 : Vals vs us) (hz : vs.length ≤ 1000)
    (q1 : ∀ a, H1 a = none → sp (.ref a :: vs) (upd H1 a (exo a C none)) (fun v H2 => v = .non ∧ ∃ (d : Addr) (fs : List (Str × V)), H2 a = some (exo a C (some d)) ∧ H2 d = some (exd d fs) ∧ H1 d = none ∧ Q (.ref C) (some d) (upd (del H2 a) d (.xd fs))) (fun _ _ _ => False)) :
    wpAny (model X.prog X.w) X.A (call (.ref C) us) (L2N.MkP X pins σ Q) X.xe s1 := by
  obtain ⟨B, newId, initId, bmB, f1, _, q3, _⟩ := T.fac
  obtain ⟨nm, N, qn, bs, bm, hdct, sn, sub, ab, col, dd, k0, k1, k2, k3, k5, hC, hT⟩ := PySem.W.excInit_of I1.kIn q3
  obtain ⟨hp, g, dr, tk, os⟩ := s1
  have old : ∀ b o, hp.get? b = some o → ((hp.push (PySem.W.kdv_tup us)).push (PySem.HandSPX.excO C hp.objs.size)).get? b = some o := fun b o z => Heap.get?_push_of_some _ (Heap.get?_push_of_some _ z)
  have at1 : ((hp.push (PySem.W.kdv_tup us)).push (PySem.HandSPX.excO C hp.objs.size)).get? (hp.objs.size + 1) = some (PySem.HandSPX.excO C hp.objs.size) := by heap_get
  have le1 : hp.objs.size ≤ hp.objs.size + 1 := Nat.le_succ _
  have hq := q1 (hp.objs.size + 1) (I1.hok.fresh le1)
  have I2 := I1.laid (t' := tk) (a := hp.objs.size + 1) (o := exo (hp.objs.size + 1) C none) old le1 (exo_ok at1)
  have r2 : Vals (V.ref (hp.objs.size + 1) :: vs) (Value.ref (hp.objs.size + 1) :: us) := .cons rfl r1
  have hl : (Value.ref (hp.objs.size + 1) :: us ++ []).length = ps.length := by
    rw [List.append_nil, ← r2.length]
    exact F1.len _ _ _ _ hq
  have b2 := hb _ (Value.ref (hp.objs.size + 1) :: us) I2.kIn hl
  rw [List.append_nil] at b2
  have hus : us.length ≤ sizeLine := by
    rw [← Paired.length r1, sizeLine_eq]
    omega
  refine wpAny_call (PySem.HandSPX.call_own f1 hT hC (PySem.W.looks_findIn I1.kIn iC) (fun self => PySem.W.bind_fn I1.kIn self tI) hus (codeAny_mono (F1.run _ X.stack _ _ ⟨Value.ref (hp.objs.size + 1) :: us, []⟩ _ _ _ (fun _ _ _ => False) (hr.make C us []) (I2.env0.make C us []) b2 r2 hq) fun r s' hq' => ?_))
  cases r with
  | error er => exact (show False from hq').elim
  | ok fl =>
    cases fl with
    | ret u =>
      obtain ⟨v, H2, os2, bare2, un2, hok2, rv, ev, d, fs, ea, ed, hd1, q2⟩ := hq'
      subst ev
      obtain ⟨h2, g2, d2, t2, os'⟩ := s'
      exact ⟨rv, mkp_of T I1 le1 old un2 hok2 os2 bare2 ea ed hd1 q2⟩
    | next => exact False.elim hq'
    | brk => exact False.elim hq'
    | cont => exact False.elim hq'
def tXmk (C : Addr) (sp : Sp) (ta : TA) : L2.St → Hp → XK → Prop := fun σ H Q => ta σ H fun vs H1 => vs.length ≤ 1000 ∧ ∀ a, H1 a = none → sp (.ref a :: vs) (upd H1 a (exo a C none))
  (fun v H2 => v = .non ∧ ∃ (d : Addr) (fs : List (Str × V)), H2 a = some (exo a C (some d)) ∧ H2 d = some (exd d fs) ∧ H1 d = none ∧ Q (.ref C) (some d) (upd (del H2 a) d (.xd fs))) (fun _ _ _ => False)
/-- C(e, ..) as what is raised -/
theorem pmk_xc (T : XcC X.K C) (iC : PySem.W.findIn X.K (.ref C) "__init__" = some (some (.ref fI))) (tI : PySem.W.typeIn X.K (.ref fI) = some (.type "function")) (F1 : FnOk X.prog X.w X.K X.mg X.base CX0 k fI fd ps sp) (hr : Room (k + 1) X.A) (hb : Binds X.K fd ps []) (hg : Gl X x) (hm : X.mg x = some (.ref C)) (ha : PA X (e :: es) ta)
    (hdb : (x == ("__debug__" : Str)) = false := by decide) (he : starEach (e :: es) X.env = (false, eval e X.env) :: starEach es X.env := by rfl) (hpl : (backTo pos (starEach es X.env)).any (·.1) = false := by rfl) :
    L2N.PMk X (.Call (.Name x p) (e :: es) [] pos) (tXmk C sp ta) := by
  intro pins s σ H Q I h
  refine wpAny_Call_Name_kw (ld_glob I hg hm (PySem.W.callWith_K (h₀ := X.base) I.ok.mod.kin T.kp (thn (ha.run pos pins s σ H _ I h) fun us s1 ⟨vs, H1, I1, r1, hz, q1⟩ => ⟨I1.kIn, ?_⟩) he hpl) hdb)
  exact call_xc T iC tI F1 hr hb I1 r1 hz q1
end
end Hr

set_option Elab.async false
set_option linter.all false
set_option maxRecDepth 100000
set_option maxHeartbeats 4000000
/-! try with several clauses 'except C as e'; defs that raise; the fields of a caught error; defs called in a clause -/
namespace Hr
open PySem PySem.Spec PyProof.Rows L2
/-- a def that never raises is one that may raise -/
theorem FnOk.may {P : Program} {w : World} {K : PySem.W.Frag} {mg : Str → Option Value} {base : Heap} {CX : CXT} {k : Nat} {f : Addr} {fd : FuncData} {ps : List Str} {sp : Sp} (F : FnOk P w K mg base CX0 k f fd ps sp) : FnOk P w K mg base CX k f fd ps sp := by
  refine ⟨F.len, fun A outer s H args us vs Q E hr e0 bd vl h => PySem.codeAny_mono (F.run A outer s H args us vs Q E hr e0 bd vl h) fun R s' q => ?_⟩
  unfold CR at q ⊢
  split at q
  · exact q
  · exact (show False from q).elim
  · exact q.elim
/-- as Fun.ok, for a def that may raise -/
theorem Fun.okR {P : Program} {w : World} {K : PySem.W.Frag} {mg : Str → Option Value} {base : Heap} {x qual : Str} {st : Stmt} {f : Addr} {fd : FuncData} {N ps : List Str} {k : Nat} {sp : Sp} (F : Fun K x qual st f fd) (S : FnScope N ps (defScope st)) (len : ∀ vs H Q E, sp vs H Q E → vs.length = ps.length)
    (body : ∀ (cdv : Value) (A : Around) (outer : List Env) (s : Shared) (H : Hp) (vs : List V) (Q : VK) (E : XK), Room k (A.deeper (envOfC qual (defScope st) s.heap.objs.size f cdv)) → L2N.Takes (cxOf (L2N.CX P w) P w K mg base N qual (defScope st) f cdv A outer s H E) (fun cls d _ H' => E cls d H') → sp vs H Q E →
      ∃ t, PSs (cxOf (L2N.CX P w) P w K mg base N qual (defScope st) f cdv A outer s H E) (defBody st) t ∧ t { nx := fun _ H' => Q .non H', rt := Q } (start N vs) H) : FnOk P w K mg base (L2N.CX P w) (k + 1) f fd ps sp := by
  obtain ⟨oc, od, kV, doc, pm, an, cdv, ct, osl, rfl, lk, hcd⟩ := F.ex
  exact fn_of lk hcd S len fun A outer s H vs Q E hr hsp => body cdv A outer s H vs Q E hr (L2N.takes_of rfl rfl rfl rfl) hsp
/-- what is raised: an error of the class at C with these fields -/
def Rsd (C : Addr) (fs : List (Str × V)) (H : Hp) (E : XK) : Prop := ∀ d H', Same H H' → H d = none → H' d = some (.xd fs) → E (.ref C) (some d) H'
theorem takesN0 {X : Cx} : L2N.Takes X (fun _ _ _ _ => False) := fun _ _ ⟨_, _, _, _, _, _, _, _, _, _, _, _, _, _, _, _, z⟩ => z.elim
theorem Rsd.same {C : Addr} {fs : List (Str × V)} {H H' : Hp} {E : XK} (h : Rsd C fs H E) (s : Same H H') : Rsd C fs H' E := fun d H2 s2 n e => h d H2 (s.trans s2) (s.free n) e
/-- what the clauses wish, one after the other; i: the slot of their name -/
def wNamed (K : PySem.W.Frag) (i : Nat) (Wout : WX) (D : Ends) : List (Value × (Addr → Value → Option Addr → TS)) → WX
  | [] => Wout
  | (c, ts) :: r => fun cls d σ H => ∃ b, PySem.W.exmOne K cls c = some b ∧ (b = true → ∀ a, H a = none → ts a cls d { nx := fun σ' H' => D.nx (σ'.set i none) H', rt := D.rt, bk := fun σ' H' => D.bk (σ'.set i none) H', ct := fun σ' H' => D.ct (σ'.set i none) H' } (σ.set i (some (.ref a))) H) ∧ (b = false → wNamed K i Wout D r cls d σ H)
inductive Clauses (X : Cx) (n : Str) : List ExceptHandler → List (Value × (Addr → Value → Option Addr → TS)) → Prop
  | nil : Clauses X n [] []
  | cons {x : Str} {c : Value} {ts : Addr → Value → Option Addr → TS} {b₀ : Stmt} {rest : List Stmt} {np pc : Pos} {hds : List ExceptHandler} {l : List (Value × (Addr → Value → Option Addr → TS))} (hc : Names X x c)
      (hsu : ∀ (a : Addr) (oe : Obj) (cls : Value) (d : Option Addr) (pn : List (Addr × Obj)), L2N.Zn cls d oe → (∃ vs, oe.data = .fields vs) → PSs (X.suite a ((a, oe) :: pn)) (b₀ :: rest) (ts a cls d)) (r : Clauses X n hds l) :
      Clauses X n (.ExceptHandler (some (.Name x np)) (some n) (b₀ :: rest) pc :: hds) ((c, ts) :: l)
theorem ps_try_named {X : Cx} {n : Str} {i : Nat} {body : List Stmt} {h₀ : ExceptHandler} {hds : List ExceptHandler} {l : List (Value × (Addr → Value → Option Addr → TS))} {pos : Pos} {tb : WX → TS} {Wout : WX}
    (hs : X.stack = X.env :: X.outer) (hf : X.env.frame = some X.env.locals) (hN : X.N.Nodup) (hi : X.N[i]? = some n) (hln : X.env.kindOf n = some .local) (tk : L2N.Takes X Wout)
    (hb : ∀ (W : WX) (pn : List (Addr × Obj)) (xe : Value → Shared → Prop), L2N.Takes (X.tr pn xe) W → PassesOwn (model X.prog X.w) X.A X.env xe → PSs (X.tr pn xe) body (tb W))
    (hh : Clauses X n (h₀ :: hds) l) : PS X (.Try body (h₀ :: hds) [] [] pos) (fun D σ H => tb (wNamed X.K i Wout D l) D σ H) := by
  refine ⟨fun pins s σ H D I h => wpAny_Try_except ?_⟩
  have ok := I.ok
  have frames : X.A.frames = some (X.env :: X.outer) := by rw [ok.frames, hs]
  refine wpAny_mono ((hb (wNamed X.K i Wout D l) (X.pn ++ pins) (fun e s₁ => wpAny (model X.prog X.w) X.A (noteFrame e X.env) (fun _ s₂ => wpAny (model X.prog X.w) X.A (setFlight e none) (fun _ s₃ =>
    wpAny (model X.prog X.w) X.A (handleBy e X.env (h₀ :: hds)) (SP X pins D) X.xe s₃) X.xe s₂) X.xe s₁) (fun u s' air => ?_) PassesOwn.looking).run [] s σ H D (I.toTry _) h) (fun fl s1 done => ?_) (fun e s1 he => he)
  · obtain ⟨a, B, sI, pins', σ', H', cls, d, rfl, J0, nb, up, sky, na, os, ag, wish⟩ := air
    have J : Inv X pins σ' H' sI := J0.ofTry ok
    have sky' : Sky B (X.env :: X.outer) a (L2N.Zn cls d) X.env.locals s'.heap := by rw [← hs]; exact sky
    show wpAny (model X.prog X.w) X.A (noteFrame (.ref a) X.env) _ _ _
    refine L2N.Sky.land L2N.Zn.steady frames hf sky' fun h3 fl3 up3 => ?_
    have J3 : Inv X pins σ' H' { s' with heap := h3 } := J.landed nb fl3.1 (up.trans up3) os ag
    obtain ⟨o3, v3, g3, z3, d3⟩ := fl3.there
    have nfr : a ∉ frs (X.env :: X.outer) := fun hm => by
      obtain ⟨_, o', e', hnf⟩ := fl3.2.2.1.mem hm
      rw [g3] at e'; cases e'
      exact hnf _ d3
    have nL : a ≠ X.env.locals := fun z => nfr (List.mem_filterMap.mpr ⟨X.env, List.mem_cons_self, by rw [hf, z]⟩)
    have nF : a ∉ X.fs := fun hm => by
      obtain ⟨e, he, q⟩ := List.mem_filterMap.mp hm
      exact nfr (List.mem_filterMap.mpr ⟨e, List.mem_cons_of_mem _ he, q⟩)
    have S3 := J3.suite g3 d3 na nL nF
    have walk : ∀ {hs' : List ExceptHandler} {l' : List (Value × (Addr → Value → Option Addr → TS))}, Clauses X n hs' l' → wNamed X.K i Wout D l' cls d σ' H' → wpAny (model X.prog X.w) X.A (handleBy (.ref a) X.env hs') (SP X pins D) X.xe { s' with heap := h3 } := by
      intro hs' l' hk
      induction hk with
      | nil =>
        intro w
        refine wpAny_handleBy_nil ?_
        obtain ⟨k1, k2, k3, oe, vs, T, oT, ts', he, hz, hd, h1, hr⟩ := id fl3
        unfold PySem.passOn
        refine wpAny_bind (wpAny_field he hd h1 ?_)
        rw [if_neg (show ¬ ((Value.ref T == Value.none) = true) from by simp)]
        have fly : wpAny (model X.prog X.w) X.A (setFlight (.ref a) X.env.frame) (fun _ s4 => wpAny (model X.prog X.w) X.A (throw (.ref a) : Sem Flow) (SP X pins D) X.xe s4) X.xe { s' with heap := h3 } := by
          rw [hf]
          exact HandSPX.setFlight_upZ fl3 fun h4 hh4 up4 => wpAny_throw (tk _ _ ⟨a, B, sI, pins, σ', H', cls, d, rfl, J, nb, (up.trans up3).trans up4, .inr (.inr (by rw [hs]; exact hh4)), na, os, ag, w⟩)
        first
          | exact wpAny_bind (wpAny_pure (wpAny_bind fly))
          | exact wpAny_bind fly
      | @cons x c ts b₀ rest np pc hds2 l2 hc hsu r ih =>
        intro w
        obtain ⟨b, hb1, hyes, hno⟩ := w
        refine wpAny_handleBy_cons (codeAny_handlers_test ?_) (by intro q; cases q)
        have seen : PySem.W.Looks (model X.prog X.w) h3 (typeOf (.ref a)) cls := fun A Q E s k q => wpAny_typeOf_ref (k _ _ g3) (by rw [z3.1]; exact q)
        have asked := PySem.W.exm_one (M := model X.prog X.w) (J3.kIn) seen hb1
        have named : ∀ {Q : Value → Shared → Prop} {E : Value → Shared → Prop}, Q c { s' with heap := h3 } → wpAny (model X.prog X.w) (X.A.mark (some (.ref a))) (eval (.Name x np) X.env) Q E { s' with heap := h3 } := fun {Q E} q => by
          obtain ⟨hg, hdbg, hm | ⟨hm, hv, hnn⟩⟩ := hc
          · exact ld_glob (X := X.suite a ((a, o3) :: (X.pn ++ pins))) S3 hg hm q hdbg
          · exact ld_blt (X := X.suite a ((a, o3) :: (X.pn ++ pins))) S3 hg hm hv q hnn hdbg
        refine named (asked.here ?_)
        cases b with
        | true =>
          refine codeAny_handlers_suite_as (HandSPX.lands_againZ fl3 fun h4 fl4 up4 => ?_)
          have J4 : Inv X pins σ' H' { s' with heap := h4 } := J.landed nb fl4.1 ((up.trans up3).trans up4) os ag
          obtain ⟨o4, v4, g4, z4, d4⟩ := fl4.there
          have S4 := J4.suite g4 d4 na nL nF
          refine store_ok (X := X.suite a ((a, o4) :: (X.pn ++ pins))) (v := .ref a) S4 hN hi (.inl hln) rfl (fun s5 S5 => ?_) (.inr hln)
          refine wpAny_mono ((hsu a o4 cls d (X.pn ++ pins) z4 ⟨_, d4⟩).run [] s5 _ H' _ S5 (hyes rfl a na)) (fun f s6 hsp => ?_) (fun _ _ z => False.elim z)
          have gone : ∀ {σ6 : L2.St} {H6 : Hp} {Q : Shared → Prop}, Inv (X.suite a ((a, o4) :: (X.pn ++ pins))) [] σ6 H6 s6 → (∀ s7, Inv X pins (σ6.set i none) H6 s7 → Q s7) →
              wpAny (model X.prog X.w) X.A (do bindName X.env n .none; unbindBehindTheSuite X.env n pc) (fun _ s7 => Q s7) X.xe s6 := fun {σ6 H6 Q} S6 hq => gone_ok (S6.unsuite ok) hN hi hln hq
          cases f with
          | next => obtain ⟨σ6, H6, S6, q6⟩ := hsp; exact gone S6 fun s7 J7 => ⟨_, _, J7, q6⟩
          | brk => obtain ⟨σ6, H6, S6, q6⟩ := hsp; exact gone S6 fun s7 J7 => ⟨_, _, J7, q6⟩
          | cont => obtain ⟨σ6, H6, S6, q6⟩ := hsp; exact gone S6 fun s7 J7 => ⟨_, _, J7, q6⟩
          | ret u => obtain ⟨v6, σ6, H6, S6, r6, q6⟩ := hsp; exact gone S6 fun s7 J7 => ⟨_, _, _, J7, r6, q6⟩
        | false =>
          show wpAny _ X.A (handleBy (.ref a) X.env hds2) _ _ _
          exact ih (hno rfl)
    exact walk hh wish
  · cases fl with
    | next => obtain ⟨σ', H', J', q⟩ := done; exact wpAny_execs_nil ⟨σ', H', J'.ofTry ok, q⟩
    | brk => obtain ⟨σ', H', J', q⟩ := done; exact ⟨σ', H', J'.ofTry ok, q⟩
    | cont => obtain ⟨σ', H', J', q⟩ := done; exact ⟨σ', H', J'.ofTry ok, q⟩
    | ret u => obtain ⟨v, σ', H', J', r, q⟩ := done; exact ⟨v, σ', H', J'.ofTry ok, r, q⟩
/-! ### the fields of an error that is held -/
/-- the error at a is one of the class at C, its dict at d -/
structure ErrAt (X : Cx) (a C d : Addr) : Prop where
  pin : ∃ oe, (a, oe) ∈ X.pn ∧ L2N.Zn (.ref C) (some d) oe ∧ ∃ vs, oe.data = .fields vs
/-- e.n, e the error at a -/
def tXfA (K : PySem.W.Frag) (a C d : Addr) (n : Str) (te : TE) : TE := fun σ H Q => te σ H fun x H1 => x = .ref a ∧ XcC K C ∧ PySem.W.findIn K (.ref C) n = some none ∧ ∃ (fs : List (Str × V)) (v : V), H1 d = some (.xd fs) ∧ fs.lookup n = some v ∧ Q v H1
theorem pe_xfA {X : Cx} {a C d : Addr} {e : Expr} {te : TE} {pos : Pos} {n : Str} (R : ErrAt X a C d) (he : PE X e te) (hb : attributeBase e n X.env (eval e X.env) = eval e X.env := by rfl) : PE X (.Attribute e n pos) (tXfA X.K a C d n te) := by
  refine ⟨fun pins s σ H Q I h => attr_of hb (thn (he.run pins s σ H _ I h) fun u s1 hh => ?_)⟩
  obtain ⟨x, H1, I1, rx, ex, T, no, fs, v, ea, l, q⟩ := hh
  subst ex
  obtain rfl : u = Value.ref a := rx
  obtain ⟨oe, hp, hz, vs, hd⟩ := R.pin
  obtain ⟨hg, _⟩ := I1.pin (a, oe) (List.mem_append_left _ hp)
  obtain ⟨mA, hns, hr⟩ := (show ObjOk X.prog X.w H1 s1.heap d (.xd fs) from I1.hok d _ ea)
  obtain ⟨od, ho, hl⟩ := lookIn_ns hns
  obtain ⟨u, hu, ru⟩ := RelO.some_of (v := v) (o := mA n) (by rw [← l]; exact hr n)
  have J : PySem.W.InstAt s1.heap a oe C (some od) := ⟨hg, hz.1, by unfold PySem.W.notCls; rw [hd] <;> rfl, by rw [hz.2.1]; exact ho⟩
  exact HandSPX.exc_get I1.kIn J T.ga T.gg T.sub (PySem.W.findObj_own T.hd no rfl (by rw [hl, hu])) (handed_of ru) ⟨v, H1, I1.tok _, ru, q⟩
/-! ### a def that gets the error, called in the clause -/
structure FnE (P : Program) (w : World) (K : PySem.W.Frag) (mg : Str → Option Value) (base : Heap) (k : Nat) (f : Addr) (fd : FuncData) (ps : List Str) (sp : Addr → Addr → Sp) : Prop where
  len : ∀ C d vs H Q E, sp C d vs H Q E → vs.length = ps.length
  run : ∀ (A : Around) (outer : List Env) (s : Shared) (H : Hp) (args : Args) (us : List Value) (vs : List V) (Q : VK) (p : Addr × Obj) (C d : Addr), L2H.RoomH k A → L2H.Hot1 A p → L2H.PinOk outer H s p → L2N.Zn (.ref C) (some d) p.2 → (∃ ws, p.2.data = .fields ws) → (∃ r, vs = .ref p.1 :: r) → XcC K C → Env0 P w K mg base A outer s H → BindsTo s fd args (ps.zip us) → Vals vs us → sp C d vs H Q E0 →
    codeAny (model P w) A (.call (.ref f) args) (CR CX0 outer P w H s Q E0) s
theorem Fun.okE {P : Program} {w : World} {K : PySem.W.Frag} {mg : Str → Option Value} {base : Heap} {x qual : Str} {st : Stmt} {f : Addr} {fd : FuncData} {N ps : List Str} {k : Nat} {sp : Addr → Addr → Sp} (F : Fun K x qual st f fd) (S : FnScope N ps (defScope st)) (len : ∀ C d vs H Q E, sp C d vs H Q E → vs.length = ps.length)
    (body : ∀ (cdv : Value) (A : Around) (outer : List Env) (s : Shared) (H : Hp) (vs : List V) (Q : VK) (p : Addr × Obj) (C d : Addr), L2H.RoomH k (A.deeper (envOfC qual (defScope st) s.heap.objs.size f cdv)) → ErrAt (L2H.cxH CX0 P w K mg base N qual (defScope st) f cdv A outer s H E0 p) p.1 C d → (∃ r, vs = .ref p.1 :: r) → XcC K C → sp C d vs H Q E0 →
      ∃ t, PSs (L2H.cxH CX0 P w K mg base N qual (defScope st) f cdv A outer s H E0 p) (defBody st) t ∧ t { nx := fun _ H' => Q .non H', rt := Q } (start N vs) H) : FnE P w K mg base (k + 1) f fd ps sp := by
  obtain ⟨oc, od, kV, doc, pm, an, cdv, ct, osl, rfl, lk, hcd⟩ := F.ex
  refine ⟨len, fun A outer s H args us vs Q p C d hr hot hpin hz hw hv xc e0 hb r hsp => ?_⟩
  have hl := len _ _ _ _ _ _ hsp
  have kin : K.In s.heap := e0.mod.kin.keeps fun b o e => (e0.bs b o e).1
  have lim : s.heap.NoLimit := e0.mod.nolimit.keeps fun b o e => (e0.bs b o e).1
  have kinds : ∀ y ∈ ps.zip us, (defScope st).names.lookup y.1 = some .local ∨ ((defScope st).names.lookup y.1 = some .cell ∧ ((cellsFrom (s.heap.objs.size + 1) (defScope st).names []).lookup y.1).isSome = true) := fun ⟨n, v⟩ hy => by
    rcases S.par n (List.of_mem_zip hy).1 with q | q
    · exact .inl q
    · exact .inr ⟨q, PySem.W.cellsFrom_some _ _ _ (.inl q)⟩
  refine codeAny_call_function hr.depth (kin _ _ lk) rfl S.co S.gen rfl (PySem.W.codeRec_of kin hcd) (hb _ _ _ _ (wpAny_newFunctionEnv_cells S.kind kinds fun env he s1 x => ?_))
  subst he
  refine ⟨lim.keeps x.toInCall.keep, codeAny_func ?_⟩
  obtain ⟨t, ht, hq⟩ := body cdv A outer s H vs Q p C d (hr.deeper _) ⟨⟨p.2, List.mem_singleton.mpr rfl, hz, hw⟩⟩ hv xc hsp
  have I : Inv (L2H.cxH CX0 P w K mg base N qual (defScope st) f cdv A outer s H E0 p) [] (L2.start N vs) H s1 := L2H.inv_startH S hpin e0 hl r x
  refine wpAny_mono (ht.run [] s1 (L2.start N vs) H _ I hq) (fun fl s' hs => ?_) fun e s' hs => hs
  cases fl with
  | ret u => obtain ⟨v, σ', H', J, rv, q⟩ := hs; exact ⟨v, H', J.os, J.bare, J.base, J.hok, rv, q⟩
  | next => obtain ⟨σ', H', J, q⟩ := hs; exact ⟨V.non, H', J.os, J.bare, J.base, J.hok, rfl, q⟩
  | brk => obtain ⟨_, _, _, q⟩ := hs; exact False.elim q
  | cont => obtain ⟨_, _, _, q⟩ := hs; exact False.elim q
/-- f(e) in the clause, e the error at a -/
def tErr (K : PySem.W.Frag) (C : Addr) (sp : Sp) (a : Addr) (t : TA) : TE := fun σ H Q => t σ H fun vs H1 => XcC K C ∧ (∃ r, vs = .ref a :: r) ∧ sp vs H1 Q E0
theorem pe_callE {X : Cx} {k : Nat} {f a C d : Addr} {fd : FuncData} {ps : List Str} {sp : Addr → Addr → Sp} {x : Str} {q pos : Pos} {e : Expr} {es : List Expr} {t : TA} (F : FnE X.prog X.w X.K X.mg X.base k f fd ps sp) (hr : L2H.RoomH k X.A) (R : ErrAt X a C d) (hot : X.A.handled = some (.ref a))
    (hg : Gl X x) (hm : X.mg x = some (.ref f)) (hk : PySem.W.keepIn X.K (.ref f) = true) (hb : Binds X.K fd ps []) (ha : PA X (e :: es) t) (hdb : (x == ("__debug__" : Str)) = false := by decide) (he : starEach (e :: es) X.env = (false, eval e X.env) :: starEach es X.env := by rfl) (hpl : (backTo pos (starEach es X.env)).any (·.1) = false := by rfl) :
    PE X (.Call (.Name x q) (e :: es) [] pos) (tErr X.K C (sp C d) a t) := by
  refine ⟨fun pins s σ H Q I h => wpAny_Call_Name_kw (ld_glob I hg hm (PySem.W.callWith_K (h₀ := X.base) I.ok.mod.kin hk (thn (ha.run pos pins s σ H _ I h) fun us s1 ⟨vs, H1, I1, r, T, hv, q⟩ => ⟨I1.kIn, ?_⟩) he hpl) hdb)⟩
  obtain ⟨oe, hp, hz, ws, hd⟩ := R.pin
  have hl : us.length = ps.length := by rw [← r.length]; exact F.len _ _ _ _ _ _ q
  have b := hb s1 us I1.kIn (by rw [List.append_nil]; exact hl)
  rw [List.append_nil] at b
  obtain ⟨p1, p2, p3, p4, p5⟩ := I1.pin (a, oe) (List.mem_append_left _ hp)
  have hpin : L2H.PinOk X.stack H1 s1 (a, oe) := ⟨p1, p2, fun hm => (List.mem_cons.mp (I1.stkSub a hm)).elim p3 p4, p5⟩
  refine wpAny_call (codeAny_mono (F.run X.A X.stack s1 H1 ⟨us, []⟩ us vs Q (a, oe) C d hr ⟨hot, ws, hd, hz.2.2 ws hd⟩ hpin hz ⟨ws, hd⟩ hv T I1.env0 b r q) fun r s' hq => ?_)
  cases r with
  | error e => exact (show False from hq).elim
  | ok fl =>
    cases fl with
    | ret u => exact I1.after hq
    | next => exact False.elim hq
    | brk => exact False.elim hq
    | cont => exact False.elim hq
end Hr

set_option Elab.async false
set_option linter.all false
set_option maxRecDepth 100000
set_option maxHeartbeats 4000000
/-! lambdas without parameters that are handed on and called further down -/
namespace Hr
open PySem PySem.Spec PyProof.Rows L2 LamX
/-- the lambda's object stands at f as it was laid, and what stood when it was laid (H0, h0) is kept; fr: the frames of its maker and of those below -/
structure Lam (fr : List Addr) (h0 : Heap) (H0 : Hp) (f : Addr) (ob : Obj) (h : Heap) (H : Hp) : Prop where
  obj : h.get? f = some ob
  fre : H f = none
  un : Un fr [] H0 H h0 h
theorem Lam.on {fr fs : List Addr} {h0 h h' : Heap} {H0 H H' : Hp} {f : Addr} {ob : Obj} (g : Lam fr h0 H0 f ob h H) (u : Un fs [] H H' h h') (h1 : ∀ b ∈ fs, b ∈ fr ∨ h0.get? b = none) (nf : f ∉ fs) : Lam fr h0 H0 f ob h' H' := by
  have out : ∀ {b o}, h0.get? b = some o → b ∉ fr → b ∉ fs := fun {b o} e n z => (h1 b z).elim n fun q => by rw [e] at q; cases q
  refine ⟨u.keep f ob g.obj g.fre nf (by simp), u.free f ob g.obj g.fre (by simp), ⟨fun b o e n hb _ => ?_, fun b o e n hb _ => ?_, fun b o e n _ => ?_, fun b o e _ => ?_, fun b xs e => u.tups b xs (g.un.tups b xs e), fun b o v e => u.frzs b o v (g.un.frzs b o v e), fun b ps e => ?_⟩⟩
  · exact u.keep b o (g.un.keep b o e n hb (by simp)) (g.un.free b o e n (by simp)) (out e hb) (by simp)
  · obtain ⟨sl, e1⟩ := g.un.slot b o e n hb (by simp)
    obtain ⟨sl2, e2⟩ := u.any e1 (g.un.free b o e n (by simp)) (by simp)
    exact ⟨sl2, e2⟩
  · obtain ⟨o', e1⟩ := g.un.there b o e (by simp)
    exact u.free b o' e1 (g.un.free b o e n (by simp)) (by simp)
  · obtain ⟨o', e1⟩ := g.un.there b o e (by simp)
    exact u.there b o' e1 (by simp)
  · obtain ⟨m1, e1⟩ := g.un.tbls b ps e
    obtain ⟨m2, e2⟩ := u.tbls b _ e1
    exact ⟨m1 ++ m2, by rw [e2, Array.append_assoc]⟩
/-- what a call of the lambda at f promises; tl E H Q: its body's reading -/
structure IsThunk (P : Program) (w : World) (K : PySem.W.Frag) (mg : Str → Option Value) (base : Heap) (j : Nat) (fr : List Addr) (h0 : Heap) (H0 : Hp) (f c' : Addr) (ob : Obj) (q : Str) (tl : XK → Hp → VK → Prop) : Prop where
  fn : ∀ h : Heap, h.get? f = some ob → PySem.W.FnAt f h
  call : ∀ (A : Around) (outer : List Env) (s : Shared) (H : Hp) (Q : VK) (E : XK), Lam fr h0 H0 f ob s.heap H → Room j A → Env0 P w K mg base A outer s H → H c' = some (CodeO c' q) → tl E H Q → codeAny (model P w) A (.call (.ref f) ⟨[], []⟩) (CR (L2N.CX P w) outer P w H s Q E) s
/-- the context of a def that has the lambda -/
structure Ent (fr : List Addr) (h0 : Heap) (H0 : Hp) (f : Addr) (ob : Obj) (Z : Cx) : Prop where
  lam : Lam fr h0 H0 f ob Z.s_0.heap Z.H_0
  fs : ∀ b ∈ Z.fs, b ∈ fr ∨ h0.get? b = none
  nf : f ∉ Z.fs
  ex : Z.ex = []
theorem Ent.at {fr : List Addr} {h0 : Heap} {H0 H : Hp} {f : Addr} {ob : Obj} {Z : Cx} {h : Heap} (en : Ent fr h0 H0 f ob Z) (u : Un Z.fs Z.ex Z.H_0 H Z.s_0.heap h) : Lam fr h0 H0 f ob h H := by
  rw [en.ex] at u
  exact en.lam.on u en.fs en.nf
section
variable {Z : Cx} {j k i : Nat} {fr : List Addr} {h0 : Heap} {H0 : Hp} {f c' g : Addr} {ob : Obj} {q a x : Str} {tl : XK → Hp → VK → Prop} {W : WX} {pn : List (Addr × Obj)} {xe : Value → Shared → Prop} {p p1 p2 pos : Pos}
def tThk (f c' : Addr) (q : Str) (i : Nat) (tl : XK → Hp → VK → Prop) (W : WX) : TE := fun σ H Q => σ[i]? = some (some (.ref f)) ∧ H c' = some (CodeO c' q) ∧ ∃ E : XK, (∀ cls d H', E cls d H' → W cls d σ H') ∧ tl E H Q
/-- a(), a the lambda -/
theorem pe_thunk (th : IsThunk Z.prog Z.w Z.K Z.mg Z.base j fr h0 H0 f c' ob q tl) (en : Ent fr h0 H0 f ob Z) (hr : Room j Z.A) (tk : L2N.Takes (Z.tr pn xe) W) (hN : Z.N[i]? = some a) (hv : Vis Z.env.scope a) (hd : (a == ("__debug__" : Str)) = false := by decide) (hcd : (a == ("__classdict__" : Str)) = false := by decide) :
    PE (Z.tr pn xe) (.Call (.Name a p1) [] [] p2) (tThk f c' q i tl W) := by
  refine ⟨fun pinsZ sZ σZ HZ Q IZ h => ?_⟩
  obtain ⟨hs, hc, E, hW, ht⟩ := h
  refine wpAny_Call_Name_kw (thn ((pe_var (X := Z.tr pn xe) (pos := p1) (i := i) hN hv hd hcd).run pinsZ sZ σZ HZ (fun v H1 => v = .ref f ∧ H1 = HZ) IZ ⟨.ref f, hs, rfl, rfl⟩) fun u s1 ⟨v, H1, I1, r1, ev, eH⟩ => ?_)
  subst ev
  rw [eH] at I1
  obtain rfl : u = Value.ref f := r1
  have lm := en.at I1.base
  refine PySem.W.callWith_F0 (th.fn _ lm.obj) (wpAny_call (codeAny_mono (th.call Z.A Z.stack s1 HZ Q E lm hr I1.env0 hc ht) fun r s' hq => ?_))
  cases r with
  | error e => exact tk e s' (L2N.XE.of_call I1 (fun cls d H' h => hW cls d H' h) hq)
  | ok fl =>
    cases fl with
    | ret u => exact I1.after hq
    | next => exact False.elim hq
    | brk => exact False.elim hq
    | cont => exact False.elim hq
end
/-- a def that is handed the lambda; TT: what it makes of the lambda's reading -/
structure FnT (P : Program) (w : World) (K : PySem.W.Frag) (mg : Str → Option Value) (base : Heap) (k j : Nat) (g : Addr) (TT : (XK → Hp → VK → Prop) → Hp → VK → Prop) : Prop where
  run : ∀ {fr : List Addr} {h0 : Heap} {H0 : Hp} {f c' : Addr} {ob : Obj} {q : Str} {tl : XK → Hp → VK → Prop}, IsThunk P w K mg base j fr h0 H0 f c' ob q tl → ∀ (A : Around) (outer : List Env) (s : Shared) (H : Hp) (Q : VK), Room k A → Env0 P w K mg base A outer s H → Lam fr h0 H0 f ob s.heap H → (∀ b ∈ frs outer, b ∈ fr ∨ h0.get? b = none) → f ∉ frs outer → H c' = some (CodeO c' q) → TT tl H Q →
    codeAny (model P w) A (.call (.ref g) ⟨[.ref f], []⟩) (CR CX0 outer P w H s Q E0) s
theorem Fun.okT {P : Program} {w : World} {K : PySem.W.Frag} {mg : Str → Option Value} {base : Heap} {x qual a : Str} {st : Stmt} {g : Addr} {fd : FuncData} {N : List Str} {k j : Nat} {TT : (XK → Hp → VK → Prop) → Hp → VK → Prop} (F : Fun K x qual st g fd) (S : FnScope N [a] (defScope st)) (hb : Binds K fd [a] [])
    (body : ∀ (cdv : Value) (A : Around) (outer : List Env) (s : Shared) (H : Hp) (Q : VK) {fr : List Addr} {h0 : Heap} {H0 : Hp} {f c' : Addr} {ob : Obj} {q : Str} {tl : XK → Hp → VK → Prop}, IsThunk P w K mg base j fr h0 H0 f c' ob q tl → Room k (A.deeper (envOfC qual (defScope st) s.heap.objs.size g cdv)) → Ent fr h0 H0 f ob (cxOf CX0 P w K mg base N qual (defScope st) g cdv A outer s H E0).nox → H c' = some (CodeO c' q) → TT tl H Q →
      ∃ t, PSs (cxOf CX0 P w K mg base N qual (defScope st) g cdv A outer s H E0).nox (defBody st) t ∧ t { nx := fun _ H' => Q .non H', rt := Q } (start N [.ref f]) H) : FnT P w K mg base (k + 1) j g TT := by
  obtain ⟨oc, od, kV, doc, pm, an, cdv, ct, osl, rfl, lk, hcd⟩ := F.ex
  refine ⟨fun {fr h0 H0 f c' ob q tl} th A outer s H Q hr e0 lm h1 nf hc ht => ?_⟩
  have kin : K.In s.heap := e0.mod.kin.keeps fun b o e => (e0.bs b o e).1
  have bd := hb s [.ref f] kin rfl
  refine run_ofS (us := [.ref f]) (vs := [.ref f]) lk hcd S hr e0 bd (.cons rfl .nil) rfl fun hr' => ?_
  obtain ⟨t, h, hq⟩ := body cdv A outer s H Q th hr' ⟨lm, h1, nf, rfl⟩ hc ht
  exact ⟨t, h.nox, hq⟩
section
variable {Z : Cx} {j k i : Nat} {fr : List Addr} {h0 : Heap} {H0 : Hp} {f c' g : Addr} {ob : Obj} {q a x : Str} {tl : XK → Hp → VK → Prop} {p p1 p2 pos : Pos} {TT : (XK → Hp → VK → Prop) → Hp → VK → Prop}
def tPass (f c' : Addr) (q : Str) (i : Nat) (tl : XK → Hp → VK → Prop) (TT : (XK → Hp → VK → Prop) → Hp → VK → Prop) : TE := fun σ H Q => σ[i]? = some (some (.ref f)) ∧ H c' = some (CodeO c' q) ∧ TT tl H Q
/-- x(a), a the lambda: it is handed on -/
theorem pe_pass (G : FnT Z.prog Z.w Z.K Z.mg Z.base k j g TT) (th : IsThunk Z.prog Z.w Z.K Z.mg Z.base j fr h0 H0 f c' ob q tl) (en : Ent fr h0 H0 f ob Z) (hs : Z.stack = Z.env :: Z.outer) (hf : Z.env.frame = some Z.env.locals) (hr : Room k Z.A) (hg : Gl Z x) (hm : Z.mg x = some (.ref g)) (hk : PySem.W.keepIn Z.K (.ref g) = true)
    (hN : Z.N[i]? = some a) (hv : Vis Z.env.scope a) (hd : (a == ("__debug__" : Str)) = false := by decide) (hcd : (a == ("__classdict__" : Str)) = false := by decide) (hdb : (x == ("__debug__" : Str)) = false := by decide)
    (he : starEach [.Name a p1] Z.env = (false, eval (.Name a p1) Z.env) :: starEach [] Z.env := by rfl) (hpl : (backTo pos (starEach [] Z.env)).any (·.1) = false := by rfl) :
    PE Z (.Call (.Name x p) [.Name a p1] [] pos) (tPass f c' q i tl TT) := by
  refine ⟨fun pinsZ sZ σZ HZ Q IZ h => ?_⟩
  obtain ⟨hsl, hc, ht⟩ := h
  have ha : PA Z [.Name a p1] (tCons (tVar i) tNil) := pa_cons (pe_var hN hv hd hcd) pa_nil
  refine wpAny_Call_Name_kw (ld_glob IZ hg hm (PySem.W.callWith_K (h₀ := Z.base) IZ.ok.mod.kin hk (thn (ha.run pos pinsZ sZ σZ HZ (fun vs H1 => vs = [V.ref f] ∧ H1 = HZ) IZ ⟨.ref f, hsl, rfl, rfl⟩) fun us s1 ⟨vs, H1, I1, r1, ev, eH⟩ => ⟨I1.kIn, ?_⟩) he hpl) hdb)
  subst ev
  rw [eH] at I1
  rw [Vals.ref1 r1]
  have lm := en.at I1.base
  have there : ∀ {b o}, h0.get? b = some o → b < Z.s_0.heap.objs.size := fun {b o} e => by
    obtain ⟨o', e1⟩ := en.lam.un.there b o e (by simp)
    exact Heap.lt_size e1
  have ab := I1.ok.above
  have mem : ∀ b ∈ frs Z.stack, b = Z.env.locals ∨ b ∈ Z.fs := fun b hb => by
    rw [hs] at hb
    unfold frs at hb
    rw [List.filterMap_cons, hf] at hb
    exact List.mem_cons.mp hb
  have h1 : ∀ b ∈ frs Z.stack, b ∈ fr ∨ h0.get? b = none := fun b hb => by
    rcases mem b hb with rfl | hb
    · right
      cases e : h0.get? Z.env.locals with
      | none => rfl
      | some o => exact absurd (there e) (Nat.not_lt.mpr ab)
    · exact en.fs b hb
  have nf : f ∉ frs Z.stack := fun z => by
    rcases mem f z with e | hb
    · have := Heap.lt_size en.lam.obj
      rw [e] at this
      exact absurd this (Nat.not_lt.mpr ab)
    · exact en.nf hb
  show wpAny _ _ (call (.ref g) [.ref f]) _ _ _
  refine wpAny_call (codeAny_mono (G.run th Z.A Z.stack s1 HZ Q hr I1.env0 lm h1 nf hc ht) fun r s' hq => ?_)
  cases r with
  | error e => exact (show False from hq).elim
  | ok fl =>
    cases fl with
    | ret u => exact I1.after hq
    | next => exact False.elim hq
    | brk => exact False.elim hq
    | cont => exact False.elim hq
end
/-! ### the lambda's own body -/
/-- the context of the body -/
def lamX (X : Cx) (A : Around) (outer : List Env) (s : Shared) (H : Hp) (E : XK) (scope : Scope) (f c' : Addr) : Cx :=
  (lamCx X A outer s H E scope f c').tr [] fun e s' => wpAny (model X.prog X.w) (A.deeper (lamEnv X scope s.heap.objs.size f c')) (leaving (lamEnv X scope s.heap.objs.size f c') e) (fun _ s'' => L2N.CX X.prog X.w outer H s E e s'') (fun e' s'' => L2N.CX X.prog X.w outer H s E e' s'') s'
theorem lamX_takes {X : Cx} {A : Around} {outer : List Env} {s : Shared} {H : Hp} {E : XK} {scope : Scope} {f c' : Addr} : L2N.Takes (lamX X A outer s H E scope f c') (fun cls d _ H' => E cls d H') := L2N.takes_of rfl rfl rfl rfl
section
variable {X : Cx} {pins : List (Addr × Obj)} {σ : L2.St} {H0 : Hp} {s0 : Shared}
theorem lam_thunk {k : Nat} {f c' : Addr} {pm ctv : Value} {params : Arguments} {body : Expr} {scope : Scope} {t : XK → TE} (I : Inv X pins σ H0 s0) (L : LamS X.env.scope scope)
    (hbind : bindArgs (PySem.W.kla_fn "<lambda>" (X.env.qual ++ "<lambda>") params body scope (cloFrom X.env.cells scope.names []) pm (.ref c') ctv) ⟨[], []⟩ = pure [])
    (hbody : ∀ (A : Around) (outer : List Env) (s : Shared) (H : Hp) (E : XK), Room k (A.deeper (lamEnv X scope s.heap.objs.size f c')) → PE (lamX X A outer s H E scope f c') body (t E)) :
    IsThunk X.prog X.w X.K X.mg X.base (k + 1) (frs X.stack) s0.heap H0 f c' (PySem.W.kla_obj "<lambda>" (X.env.qual ++ "<lambda>") params body scope (cloFrom X.env.cells scope.names []) pm c' ctv) (X.env.qual ++ "<lambda>") (fun E H Q => t E σ H Q) := by
  refine ⟨fun h e => ⟨_, _, _, _, e⟩, fun A outer s H Q E lm hr e0 hc ht => ?_⟩
  obtain ⟨⟨oc, vs, tk, hoc, hdc, hvc⟩, _, _⟩ := e0.hok c' _ hc
  have lim : s.heap.NoLimit := e0.mod.nolimit.keeps fun b o e => (e0.bs b o e).1
  refine PySem.W.kla_callFunE hr.depth lm.obj rfl L.co L.gen rfl ⟨c', oc, vs, tk, rfl, hoc, hdc, hvc⟩ ?_
  rw [hbind]
  refine wpAny_pure (wpAny_newFunctionEnv (fun y hy => (L.own y hy).2) (fun y hy => absurd hy (by simp)) (fun h₁ hns hsb => ⟨lim.fresh _ hsb, ?_⟩) L.kind)
  show codeAny _ _ (.expr body (lamEnv X scope s.heap.objs.size f c')) _ _
  have kp : ∀ b o, s.heap.get? b = some o → h₁.get? b = some o := fun b o e => hsb.extBut b o (Nat.ne_of_lt (Heap.lt_size e)) (Heap.get?_push_of_some _ e)
  have J := (lam_start2 (E := E) (f := f) (c' := c') (tk := s.toks + ([] : List (Str × Value)).length) I L e0 hr.hd lm.un hns kp).toTry (fun e s' => wpAny (model X.prog X.w) (A.deeper (lamEnv X scope s.heap.objs.size f c')) (leaving (lamEnv X scope s.heap.objs.size f c') e) (fun _ s'' => L2N.CX X.prog X.w outer H s E e s'') (fun e' s'' => L2N.CX X.prog X.w outer H s E e' s'') s')
  refine PySem.W.kla_codeExpr (wpAny_mono ((hbody A outer s H E (hr.deeper _)).run [] _ _ H Q J ht) (fun v s' hq => ?_) fun e s' hq => hq)
  obtain ⟨w', H', J', rv, qq⟩ := hq
  exact ⟨w', H', J'.os, J'.bare, J'.base, J'.hok, rv, qq⟩
/-- x(lambda: body) -/
theorem pe_lamT {T : List (Addr × Str)} {TT : (XK → Hp → VK → Prop) → Hp → VK → Prop} {x : Str} {g c P : Addr} {k m : Nat} {params : Arguments} {body : Expr} {scope : Scope} {t : XK → TE} {p lpos pos : Pos} (G : FnT X.prog X.w X.K X.mg X.base m (k + 1) g TT) (hg : Gl X x) (hm : X.mg x = some (.ref g)) (hk : PySem.W.keepIn X.K (.ref g) = true)
    (TB : TabB X.base X.mg c P) (hcode : X.env.code = .ref c) (hmT : (P, X.env.qual ++ "<lambda>") ∈ T) (hu : ∀ p ∈ T, p.1 = P → p.2 = X.env.qual ++ "<lambda>") (hr : Room m X.A) (L : LamS X.env.scope scope) (hdef : defaultsOf params X.env = ([], []))
    (hbind : ∀ (q : Str) (cl : List (Str × Addr)) (pm cv ctv : Value), bindArgs (PySem.W.kla_fn "<lambda>" q params body scope cl pm cv ctv) ⟨[], []⟩ = pure [])
    (hbody : ∀ (A : Around) (outer : List Env) (s : Shared) (H : Hp) (E : XK) (f c' : Addr), Room k (A.deeper (lamEnv X scope s.heap.objs.size f c')) → PE (lamX X A outer s H E scope f c') body (t E))
    (hdb : (x == ("__debug__" : Str)) = false := by decide) : PE X (.Call (.Name x p) [.Lambda params body scope lpos] [] pos) (tLam T TT t) := by
  refine ⟨fun pins s σ H Q I h => ?_⟩
  obtain ⟨hT, h⟩ := h
  refine wpAny_Call_Name_kw (ld_glob I hg hm (PySem.W.callWith_K (h₀ := X.base) I.ok.mod.kin hk ?_ (by rfl) (by rfl)) hdb)
  show wpAny _ _ (spliced ((false, eval (.Lambda params body scope lpos) X.env) :: backTo pos (starEach [] X.env))) _ _ s
  refine Calls.spliced_cons (lam_make2 I TB hcode hmT hu hT hdef (L.has I.ok) fun f c' pm' ctv H1 s' I1 eN T1 hf hfn hfr hco => Calls.spliced_nil ⟨I1.kIn, ?_⟩)
  have th := lam_thunk (t := t) (pm := pm') (ctv := ctv) I1 L (hbind _ _ _ _ _) fun A outer s H E hr2 => hbody A outer s H E f c' hr2
  refine wpAny_call (codeAny_mono (G.run th X.A X.stack s' H1 Q hr I1.env0 ⟨hf, hfn, Un.refl⟩ (fun b hb => .inl hb) hfr hco (h H1 eN T1)) fun r s2 hq => ?_)
  cases r with
  | error e => exact (show False from hq).elim
  | ok fl =>
    cases fl with
    | ret u => exact I1.after hq
    | next => exact False.elim hq
    | brk => exact False.elim hq
    | cont => exact False.elim hq
end
/-! ### what a new lambda leaves as it was -/
theorem ext_sq {K : PySem.W.Frag} {H H' : Hp} {a : Addr} {xs : List V} (e : ExtN H H') (h : SqL K H a xs) : SqL K H' a xs := by
  rcases h with (h | ⟨o, h⟩) | h
  · exact .inl (.inl (e _ _ h fun _ z => by cases z))
  · exact .inl (.inr ⟨o, e _ _ h fun _ z => by cases z⟩)
  · exact .inr h
theorem ext_sqT {K : PySem.W.Frag} {H H' : Hp} {a : Addr} {xs : List V} (e : ExtN H H') (h : SqT K H a xs) : SqT K H' a xs := by
  rcases h with (h | ⟨o, h⟩) | h
  · exact .inl (.inl (e _ _ h fun _ z => by cases z))
  · exact .inl (.inr ⟨o, e _ _ h fun _ z => by cases z⟩)
  · exact .inr h
mutual
theorem dp_ext {K : PySem.W.Frag} {H H' : Hp} (e : ExtN H H') : ∀ {v : V} {d : PyData}, Dp K H v d → Dp K H' v d
  | _, _, .non => .non
  | _, _, .bl b => .bl b
  | _, _, .int i => .int i
  | _, _, .str x => .str x
  | _, _, .lst h t => .lst (ext_sq e h) (dpa_ext e t)
  | _, _, .tup h t => .tup (ext_sqT e h) (dpa_ext e t)
theorem dpa_ext {K : PySem.W.Frag} {H H' : Hp} (e : ExtN H H') : ∀ {vs : List V} {ds : List PyData}, DpAll K H vs ds → DpAll K H' vs ds
  | _, _, .nil => .nil
  | _, _, .cons h t => .cons (dp_ext e h) (dpa_ext e t)
end
theorem ext_dl {H H' : Hp} {S : List Addr} (e : ExtN H H') : ExtN (dl H S) (dl H' S) := fun a o h n => by
  obtain ⟨h1, h2⟩ := dl_some h
  rw [dl_ne h1]
  exact e a o h2 n
end Hr

set_option Elab.async false
set_option linter.all false
set_option maxRecDepth 100000
set_option maxHeartbeats 4000000
/-! a, b = x, y while an error is handled; suites for errors of known classes -/
namespace Hr
open PySem PySem.Spec PyProof.Rows L2 HotX
section
variable {prog : Program} {w : World} {A : Around} {E : Value → Shared → Prop} {s : Shared}
theorem next_tup_end_hot {it t x1 : Addr} {i : Nat} {items : Array Value} {Q : Option Value → Shared → Prop} (hot : HotAt A x1 s.heap) (nx : x1 ≠ it) (hit : IsTupIter s.heap it t i) (ht : IsTup s.heap t items) (hx : items[i]? = none)
    (hQ : ∀ h', Heap.ExtBut it s.heap h' → Q none { s with heap := h' }) : wpAny (model prog w) A (pyNext (.ref it)) Q E s := by
  obtain ⟨hh, o1, vs1, h1, d1, c1⟩ := hot
  obtain ⟨o, ho, hc, hd⟩ := id hit
  obtain ⟨ol, hol, _, nl, hdl⟩ := ht
  unfold pyNext
  refine wpAny_bind (wpAny_attempt (wpAny_callSpecial?_slot (name := Str.ofString "__next__") hit.typeIs slot_tupleiter_next (wpAny_call_entry slot_tupleiter_next hit.typeIs entry_tupleiter_next ?_ (args_tupleiter_next _))))
  show wpAny _ _ (field (.ref it) 0 >>= _) _ _ s
  refine wpAny_bind (wpAny_field ho hd (x := .ref t) rfl ?_)
  show wpAny _ _ (if (Value.ref t == Value.none) = true then _ else _) _ _ s
  rw [if_neg (show ¬ ((Value.ref t == Value.none) = true) from Bool.false_ne_true)]
  show wpAny _ _ (field (.ref it) 1 >>= _) _ _ s
  refine wpAny_bind (wpAny_field ho hd (x := .int i 0) rfl ?_)
  show wpAny _ _ (seqItems? (.ref t) >>= _) _ _ s
  refine wpAny_bind (wpAny_seqItems hol hdl ?_)
  simp only [Int.toNat_natCast, hx]
  refine wpAny_bind (wpAny_rule (wpAny_bind (wpAny_setField ho hd (by simp) ?_)))
  show wpAny _ _ (newExc (.type "StopIteration") [] >>= _) _ _ _
  refine wpAny_bind ?_
  simp only [newExc, newTuple]
  refine wpAny_bind (wpAny_newObj_type ?_ (by size_fits))
  refine wpAny_bind (m := firstArgMember _ _) (wpAny_of_eq (a := Value.none) (by first | rfl | (simp only [firstArgMember]; rfl)) ?_)
  refine wpAny_newObj_type ?_ (by size_fits)
  have up : Heap.ExtBut it s.heap (s.heap.update it (Obj.mapFields (·.setIfInBounds 0 Value.none))) := (Heap.SameBut.update ..).extBut
  have g1 := Heap.get?_push_of_some (h := (s.heap.update it (Obj.mapFields (·.setIfInBounds 0 Value.none)))) { cls := .type "tuple", data := .seq ([] : List Value).toArray } (up x1 o1 nx h1)
  refine raiseNew_hot ⟨hh, o1, vs1, Heap.get?_push_of_some _ g1, d1, c1⟩ (Nat.ne_of_lt (Heap.lt_size g1)) (Heap.get?_push_size _ rfl) rfl (by first | (simp; done) | (simp; omega) | (simp only [Array.size_append]; simp; omega)) ?_
  refine wpAny_bind (wpAny_isInstance (T := "StopIteration") (b := true) ⟨_, Heap.get?_update_self _ (Heap.get?_push_size _ rfl) rfl, rfl⟩ isSubtype_stop (wpAny_pure (hQ _ fun b o nb e => ?_)))
  have e1 := Heap.get?_push_of_some (h := (s.heap.update it (Obj.mapFields (·.setIfInBounds 0 Value.none)))) { cls := .type "tuple", data := .seq ([] : List Value).toArray } (up b o nb e)
  rw [Heap.get?_update_other _ _ (Nat.ne_of_gt (Heap.lt_size e1))]
  exact Heap.get?_push_of_some _ e1
theorem unpack_hot {t x1 : Addr} {items : Array Value} {Q : List Value → Shared → Prop} (hot : HotAt A x1 s.heap) (ht : IsTup s.heap t items)
    (hQ : ∀ h', Heap.ExtBut s.heap.objs.size s.heap h' → Q items.toList { s with heap := h' }) : wpAny (model prog w) A (unpackItems (.ref t) items.size none) Q E s := by
  have hlt : t ≠ s.heap.objs.size := by obtain ⟨o, ho, _⟩ := ht; exact Nat.ne_of_lt (Heap.lt_size ho)
  obtain ⟨hh, o1, vs1, h1, d1, c1⟩ := hot
  have hl1 : x1 ≠ s.heap.objs.size := Nat.ne_of_lt (Heap.lt_size h1)
  unfold unpackItems
  refine wpAny_bind ?_
  unfold notIterableAtAll
  refine wpAny_bind (wpAny_specialOf ht.typeIs slot_tuple_iter.lookup (wpAny_pure ?_))
  simp only [Bool.false_eq_true, if_false]
  refine wpAny_bind (wpAny_holding (iter_tuple ht (wpAny_bind (wpAny_holding (draw_tuple hlt items.size 0 _ _ ⟨_, Heap.get?_push_size _ rfl, rfl, rfl⟩ (ht.push _) (by omega) fun h₁ hit₁ hs₁ => ?_)))))
  rw [show List.take items.size (List.drop 0 items.toList) = items.toList by rw [List.drop_zero]; exact List.take_of_length_le (by simp), if_neg (by simp)]
  refine wpAny_bind (wpAny_holding (next_tup_end_hot ⟨hh, o1, vs1, hs₁.extBut x1 o1 hl1 (Heap.get?_push_of_some _ h1), d1, c1⟩ hl1 hit₁ ((ht.push _).extBut hs₁.extBut hlt) (by simp) fun h₂ he₂ => ?_))
  simp only [Option.isSome_none, Bool.false_eq_true, if_false]
  exact wpAny_pure (hQ h₂ fun b o hb e => he₂ b o hb (hs₁.extBut b o hb (Heap.get?_push_of_some _ e)))
end
/-- a, b = x, y in a clause -/
theorem ps_parH {X : Cx} {i j : Nat} {x y : Str} {a b : Expr} {ta : TA} {px py pt pos : Pos} {kt k2 pt2} (hc : L2H.HotC X) (hN : X.N.Nodup) (hi : X.N[i]? = some x) (hj : X.N[j]? = some y) (hij : i ≠ j)
    (hx : X.env.scope.names.lookup x = some .local) (hy : X.env.scope.names.lookup y = some .local) (ha : PA X [a, b] ta)
    (hw : swappedStores [.Tuple [.Name x px, .Name y py] kt pt] (.Tuple [a, b] k2 pt2) X.env = pure (some [x, y]))
    (hs : swapsWithSole [.Tuple [.Name x px, .Name y py] kt pt] (.Tuple [a, b] k2 pt2) pos.line X.env = pure false := by rfl) :
    PS X (.Assign [.Tuple [.Name x px, .Name y py] kt pt] (.Tuple [a, b] k2 pt2) pos) (tPar i j ta) := by
  refine ⟨fun pins s σ H D I h => ?_⟩
  rw [exec_Assign_arm]
  refine wpAny_bind (wpAny_standAt ?_)
  rw [hs]
  refine wpAny_bind (wpAny_pure ?_)
  rw [if_neg (by decide)]
  refine wpAny_bind (Tuple_ (thn (ha.run _ pins s σ H _ I h) fun us s1 ⟨vs, H1, I1, r1, v, w, e1, q1⟩ => wpAny_newObj_type ?_ ?_))
  · subst e1
    cases r1 with
    | @cons _ u1 _ _ rv r2 =>
      cases r2 with
      | @cons _ u2 _ _ rw' r3 =>
        cases r3
        have I2 : Inv X pins σ H1 { s1 with heap := s1.heap.push { cls := .type "tuple", data := .seq [u1, u2].toArray } } := I1.kept (t' := s1.toks) fun b o e => Heap.get?_push_of_some _ e
        rw [hw]
        refine wpAny_bind (wpAny_pure ?_)
        show wpAny (model X.prog X.w) X.A (do rule "assign.swapped-stores"; let items ← unpackItems (.ref s1.heap.objs.size) 2 none; assignInOrder [fun v => bindName X.env y v, fun v => bindName X.env x v] items.reverse; pure Flow.next) _ _ _
        obtain ⟨x1, hot⟩ := hc.at I2
        refine wpAny_bind (wpAny_rule (wpAny_bind (unpack_hot (items := #[u1, u2]) hot (IsTup.new s1.heap _) fun h' hx' => ?_)))
        have I3 := I2.kept (h' := h') (t' := s1.toks) fun b o e => hx' b o (Nat.ne_of_lt (Heap.lt_size e)) e
        show wpAny _ _ (assignInOrder [fun v => bindName X.env y v, fun v => bindName X.env x v] [u2, u1] >>= fun _ => pure Flow.next) _ _ _
        refine wpAny_bind (assignInOrder_cons (wpAny_bindName (store_ok I3 hN hj (.inl hy) rw' (fun s2 I4 => assignInOrder_cons (wpAny_bindName (store_ok I4 hN hi (.inl hx) rv (fun s3 I5 => assignInOrder_nil (wpAny_pure ?_)) (.inr hx)))) (.inr hy))))
        rw [List.set_comm _ _ (Ne.symm hij)] at I5
        exact ⟨_, H1, I5, q1⟩
  · subst e1
    cases r1 with
    | cons rv r2 =>
      cases r2 with
      | cons rw' r3 =>
        cases r3
        show 2 ≤ sizeLine
        decide
/-- a suite for an error of a class of the program -/
def onErr (ts : Addr → Addr → Addr → TS) : Addr → Value → Option Addr → TS := fun a cls d => match cls, d with
  | .ref C, some dd => ts a C dd
  | _, _ => tNever
theorem suite_err {X : Cx} {ss : List Stmt} {ts : Addr → Addr → Addr → TS} (h : ∀ a oe C dd pn, L2N.Zn (.ref C) (some dd) oe → (∃ vs, oe.data = .fields vs) → PSs (X.suite a ((a, oe) :: pn)) ss (ts a C dd)) (a : Addr) (oe : Obj) (cls : Value) (d : Option Addr) (pn : List (Addr × Obj)) (hz : L2N.Zn cls d oe) (hf : ∃ vs, oe.data = .fields vs) :
    PSs (X.suite a ((a, oe) :: pn)) ss (onErr ts a cls d) := by
  unfold onErr
  split
  · exact h a oe _ _ pn hz hf
  · exact pss_never
theorem errAt_suite {X : Cx} {a C d : Addr} {oe : Obj} {pn : List (Addr × Obj)} (hz : L2N.Zn (.ref C) (some d) oe) (hf : ∃ vs, oe.data = .fields vs) : ErrAt (X.suite a ((a, oe) :: pn)) a C d := ⟨⟨oe, List.mem_cons_self, hz, hf⟩⟩
theorem hot_suite {X : Cx} {a C d : Addr} {oe : Obj} {pn : List (Addr × Obj)} (hz : L2N.Zn (.ref C) (some d) oe) (hf : ∃ vs, oe.data = .fields vs) : L2H.HotC (X.suite a ((a, oe) :: pn)) := by
  obtain ⟨vs, e⟩ := hf
  exact ⟨(a, oe), ⟨rfl, vs, e, hz.2.2 vs e⟩, List.mem_cons_self⟩
theorem pe_xfAK {X : Cx} {K : PySem.W.Frag} {a C d : Addr} {e : Expr} {te : TE} {pos : Pos} {n : Str} (R : ErrAt X a C d) (he : PE X e te) (hK : X.K = K := by rfl) (hb : attributeBase e n X.env (eval e X.env) = eval e X.env := by rfl) : PE X (.Attribute e n pos) (tXfA K a C d n te) := by
  subst hK
  exact pe_xfA R he hb
theorem pe_callEK {X : Cx} {K : PySem.W.Frag} {k : Nat} {f a C d : Addr} {fd : FuncData} {ps : List Str} {sp : Addr → Addr → Sp} {x : Str} {q pos : Pos} {e : Expr} {es : List Expr} {t : TA} (F : FnE X.prog X.w X.K X.mg X.base k f fd ps sp) (hr : L2H.RoomH k X.A) (R : ErrAt X a C d) (hot : X.A.handled = some (.ref a))
    (hg : Gl X x) (hm : X.mg x = some (.ref f)) (hk : PySem.W.keepIn X.K (.ref f) = true) (hb : Binds X.K fd ps []) (ha : PA X (e :: es) t) (hK : X.K = K := by rfl) (hdb : (x == ("__debug__" : Str)) = false := by decide) (he : starEach (e :: es) X.env = (false, eval e X.env) :: starEach es X.env := by rfl) (hpl : (backTo pos (starEach es X.env)).any (·.1) = false := by rfl) :
    PE X (.Call (.Name x q) (e :: es) [] pos) (tErr K C (sp C d) a t) := by
  subst hK
  exact pe_callE F hr R hot hg hm hk hb ha hdb he hpl
/-- as Fun.ok, the def's code object known -/
theorem Fun.okC {P : Program} {w : World} {K : PySem.W.Frag} {mg : Str → Option Value} {base : Heap} {x qual : Str} {st : Stmt} {f c : Addr} {fd : FuncData} {N ps : List Str} {k : Nat} {sp : Sp} (F : Fun K x qual st f fd) (hc : fd.code = .ref c) (S : FnScope N ps (defScope st)) (len : ∀ vs H Q E, sp vs H Q E → vs.length = ps.length)
    (body : ∀ (A : Around) (outer : List Env) (s : Shared) (H : Hp) (vs : List V) (Q : VK) (E : XK), Room k (A.deeper (envOfC qual (defScope st) s.heap.objs.size f (.ref c))) → sp vs H Q E →
      ∃ t, PSs (cxOf CX0 P w K mg base N qual (defScope st) f (.ref c) A outer s H E).nox (defBody st) t ∧ t { nx := fun _ H' => Q .non H', rt := Q } (start N vs) H) : FnOk P w K mg base CX0 (k + 1) f fd ps sp := by
  obtain ⟨oc, od, kV, doc, pm, an, cdv, ct, osl, rfl, lk, hcd⟩ := F.ex
  obtain rfl : cdv = .ref c := hc
  refine fn_of lk hcd S len fun A outer s H vs Q E hr hsp => ?_
  obtain ⟨t, h, q⟩ := body A outer s H vs Q E hr hsp
  exact ⟨t, h.nox, q⟩
/-! ### a law that makes lambdas -/
def tabT (PL : Addr) : List (Addr × Str) := [(PL, ("law" : Str) ++ ".<locals>." ++ "<lambda>")]
def sp_lawT (PL : Addr) (K : PySem.W.Frag) : Sp := fun vs H Q _ => ∃ (a : Addr) (ns : List Int), vs = [.ref a] ∧ SqL K H a (ns.map V.int) ∧ ns.length ≤ 63 ∧ LamX.Tabs (tabT PL) H ∧ ∀ H', Q (.bl true) H'
theorem law_at {l : PySem.W.OpenLaw} {w : World} {K : PySem.W.Frag} {k : Nat} {x : Str} {mg : Str → Option Value} {fa cL PL : Addr} {h : Heap} {ts : List Addr} (hT : ∀ P ∈ ts, h.get? P = some (PySem.W.tabObj #[])) (KX : K.In h)
    (F : ∃ fd : FuncData, (∀ (s : Shared) (v : Value), BindsTo s fd ⟨[v], []⟩ [(x, v)]) ∧ ∀ base : Heap, K.In base → base.Ns mainGlobals mg → LamX.TabB base mg cL PL → FnOk l.prog w K mg base CX0 k fa fd [x] (sp_lawT PL K))
    (h1 : PySem.W.codeHdIn K cL PL = true) (h2 : PL ∈ ts) (h3 : K.lookup PL = none) : LamX.LawAtS l w K CX0 k 63 x mg fa h := by
  obtain ⟨fd, hb, hF⟩ := F
  have one : ∀ {p : Addr × Addr}, p ∈ [(cL, PL)] → p = (cL, PL) := fun hp => List.mem_singleton.mp hp
  refine ⟨fd, [(cL, PL)], sp_lawT PL K, fun p hp => ?_, fun p hp => ?_, fun p hp => ?_, hb, fun H a ns hl _ ht hS => ⟨a, ns, rfl, hS, hl, fun p hp => ?_, fun _ => rfl⟩, fun base b1 b2 b3 => hF base b1 b2 (b3 _ (List.mem_singleton.mpr rfl))⟩
  · rw [one hp]
    exact hT PL h2
  · rw [one hp]
    exact h3
  · rw [one hp]
    exact PySem.W.codeHd_of_K KX h1
  · rw [List.mem_singleton.mp hp]
    exact LamX.TabS.nil (ht _ (List.mem_singleton.mpr rfl))
/-- x(lambda: body) in the law -/
theorem pe_lamL {X : Cx} {TT : (XK → Hp → VK → Prop) → Hp → VK → Prop} {x : Str} {g c PL : Addr} {k m : Nat} {params : Arguments} {body : Expr} {scope : Scope} {t : XK → TE} {p lpos pos : Pos} (G : FnT X.prog X.w X.K X.mg X.base m (k + 1) g TT) (hg : Gl X x) (hm : X.mg x = some (.ref g)) (hk : PySem.W.keepIn X.K (.ref g) = true)
    (TB : LamX.TabB X.base X.mg c PL) (hcode : X.env.code = .ref c) (hq : X.env.qual = ("law" : Str) ++ ".<locals>.") (hr : Room m X.A) (L : LamX.LamS X.env.scope scope) (hdef : defaultsOf params X.env = ([], []))
    (hbind : ∀ (q : Str) (cl : List (Str × Addr)) (pm cv ctv : Value), bindArgs (PySem.W.kla_fn "<lambda>" q params body scope cl pm cv ctv) ⟨[], []⟩ = pure [])
    (hbody : ∀ (A : Around) (outer : List Env) (s : Shared) (H : Hp) (E : XK) (f c' : Addr), Room k (A.deeper (LamX.lamEnv X scope s.heap.objs.size f c')) → PE (lamX X A outer s H E scope f c') body (t E))
    (hdb : (x == ("__debug__" : Str)) = false := by decide) : PE X (.Call (.Name x p) [.Lambda params body scope lpos] [] pos) (LamX.tLam (tabT PL) TT t) :=
  pe_lamT G hg hm hk TB hcode (by rw [hq]; exact List.mem_singleton.mpr rfl) (fun p hp _ => by rw [List.mem_singleton.mp hp, hq]) hr L hdef hbind hbody hdb
theorem bag_ext {H H' : Hp} {b l : Addr} (h : Bag H b l) (e : LamX.ExtN H H') : Bag H' b l := by
  obtain ⟨ns, i, g, t, h1, h2, r⟩ := h
  exact ⟨ns, i, g, t, e _ _ h1 (fun _ z => by cases z), e _ _ h2 (fun _ z => by cases z), r⟩
theorem tabs_dl {T : List (Addr × Str)} {H : Hp} {b l : Addr} (t : LamX.Tabs T H) (h : Bag H b l) : LamX.Tabs T (dl H [b]) := fun p hp => by
  obtain ⟨ns, i, g, u, h1, _⟩ := h
  have nb : ∀ {c o}, H c = some o → (∀ xs, o ≠ .lst xs) → c ∉ [b] := fun {c o} e n z => by
    rw [List.mem_singleton.mp z, h1] at e
    exact n _ (Option.some.inj e).symm
  obtain ⟨ps, a1, a2, a3⟩ := t p hp
  refine ⟨ps, by rw [dl_ne (nb a1 fun _ z => by cases z)]; exact a1, a2, fun pos cv hc => ?_⟩
  obtain ⟨c, e1, e2⟩ := a3 pos cv hc
  exact ⟨c, e1, by rw [dl_ne (nb e2 fun xs z => by unfold LamX.CodeO at z; cases z)]; exact e2⟩
theorem fz_ext {H H' : Hp} {xs : List V} {fs : List Fld} (h : FrzAll H xs fs) (e : LamX.ExtN H H') : FrzAll H' xs fs := ⟨h.1, fun i x f hx hf => by
  obtain ⟨b, e1, o, e2, e3⟩ := h.2 i x f hx hf
  exact ⟨b, e1, o, e2, e _ _ e3 fun _ z => by cases z⟩⟩
theorem sch_ext {K : PySem.W.Frag} {C : Addr} {H H' : Hp} {p : Addr} {fs : List Fld} (h : SchAt K C H p fs) (e : LamX.ExtN H H') : SchAt K C H' p fs := by
  obtain ⟨dx, a, c, h1, ⟨b, o, e1, e2, e3⟩, h3⟩ := h.ob
  have h1' := e _ _ h1 fun _ z => by cases z
  refine ⟨⟨dx, a, c, h1', ⟨b, o, e1, e2, e _ _ e3 fun _ z => by cases z⟩, dp_ext e h3⟩, fun dx' a' c' h' => ?_⟩
  rw [h1'] at h'
  injection h' with h'
  injection h' with _ _ h'
  rw [← sch_inj h']
  obtain ⟨ca, xs, k1, k2, k3⟩ := h.ch dx a c h1
  exact ⟨ca, xs, k1, e _ _ k2 (fun _ z => by cases z), fz_ext k3 e⟩
end Hr

set_option Elab.async false
set_option linter.all false
set_option maxRecDepth 100000
set_option maxHeartbeats 4000000
/-! errors without arguments; errors that are made and not raised; their fields; isinstance of an error that is held -/
namespace Hr
open PySem PySem.Spec PyProof.Rows L2
section
variable {X : Cx} {x : Str} {e : Expr} {es : List Expr} {ta : TA} {p pos : Pos} {C fI : Addr} {k : Nat} {fd : FuncData} {ps : List Str} {sp : Sp}
/-- C() as what is raised -/
theorem pmk_xc0 (T : XcC X.K C) (iC : PySem.W.findIn X.K (.ref C) "__init__" = some (some (.ref fI))) (tI : PySem.W.typeIn X.K (.ref fI) = some (.type "function")) (F1 : FnOk X.prog X.w X.K X.mg X.base CX0 k fI fd ps sp) (hr : Room (k + 1) X.A) (hb : Binds X.K fd ps []) (hg : Gl X x) (hm : X.mg x = some (.ref C))
    (hdb : (x == ("__debug__" : Str)) = false := by decide) : L2N.PMk X (.Call (.Name x p) [] [] pos) (tXmk C sp tNil) := by
  intro pins s σ H Q I h
  obtain ⟨hz, q1⟩ := h
  exact wpAny_Call_Name_kw (ld_glob I hg hm (PySem.W.callWith_K0 I.kIn T.kp (call_xc T iC tI F1 hr hb I .nil hz q1)) hdb)
/-- an error that is made and not raised -/
def tXc (C : Addr) (sp : Sp) (ta : TA) : TE := fun σ H Q => ta σ H fun vs H1 => vs.length ≤ 1000 ∧ ∀ a, H1 a = none → sp (.ref a :: vs) (upd H1 a (exo a C none)) (fun v H2 => v = .non ∧ Q (.ref a) H2) (fun _ _ _ => False)
theorem run_xc {pins : List (Addr × Obj)} {σ : L2.St} {H1 : Hp} {Q : VK} {s1 : Shared} {us : List Value} {vs : List V} (T : XcC X.K C) (iC : PySem.W.findIn X.K (.ref C) "__init__" = some (some (.ref fI))) (tI : PySem.W.typeIn X.K (.ref fI) = some (.type "function"))
    (F1 : FnOk X.prog X.w X.K X.mg X.base CX0 k fI fd ps sp) (hr : Room (k + 1) X.A) (hb : Binds X.K fd ps []) (I1 : Inv X pins σ H1 s1) (r1 : Vals vs us) (hz : vs.length ≤ 1000)
    (q1 : ∀ a, H1 a = none → sp (.ref a :: vs) (upd H1 a (exo a C none)) (fun v H2 => v = .non ∧ Q (.ref a) H2) (fun _ _ _ => False)) :
    wpAny (model X.prog X.w) X.A (call (.ref C) us) (EP X pins σ Q) X.xe s1 := by
  obtain ⟨B, newId, initId, bmB, f1, _, q3, _⟩ := T.fac
  obtain ⟨nm, N, qn, bs, bm, hdct, sn, sub, ab, col, dd, k0, k1, k2, k3, k5, hC, hT⟩ := PySem.W.excInit_of I1.kIn q3
  obtain ⟨hp, g, dr, tk, os⟩ := s1
  have old : ∀ b o, hp.get? b = some o → ((hp.push (PySem.W.kdv_tup us)).push (PySem.HandSPX.excO C hp.objs.size)).get? b = some o := fun b o z => Heap.get?_push_of_some _ (Heap.get?_push_of_some _ z)
  have at1 : ((hp.push (PySem.W.kdv_tup us)).push (PySem.HandSPX.excO C hp.objs.size)).get? (hp.objs.size + 1) = some (PySem.HandSPX.excO C hp.objs.size) := by heap_get
  have le1 : hp.objs.size ≤ hp.objs.size + 1 := Nat.le_succ _
  have hq := q1 (hp.objs.size + 1) (I1.hok.fresh le1)
  have I2 := I1.laid (t' := tk) (a := hp.objs.size + 1) (o := exo (hp.objs.size + 1) C none) old le1 (exo_ok at1)
  have r2 : Vals (V.ref (hp.objs.size + 1) :: vs) (Value.ref (hp.objs.size + 1) :: us) := .cons rfl r1
  have hl : (Value.ref (hp.objs.size + 1) :: us ++ []).length = ps.length := by
    rw [List.append_nil, ← r2.length]
    exact F1.len _ _ _ _ hq
  have b2 := hb _ (Value.ref (hp.objs.size + 1) :: us) I2.kIn hl
  rw [List.append_nil] at b2
  have hus : us.length ≤ sizeLine := by
    rw [← Paired.length r1, sizeLine_eq]
    omega
  refine wpAny_call (PySem.HandSPX.call_own f1 hT hC (PySem.W.looks_findIn I1.kIn iC) (fun self => PySem.W.bind_fn I1.kIn self tI) hus (codeAny_mono (F1.run _ X.stack _ _ ⟨Value.ref (hp.objs.size + 1) :: us, []⟩ _ _ _ (fun _ _ _ => False) (hr.make C us []) (I2.env0.make C us []) b2 r2 hq) fun r s' hq' => ?_))
  cases r with
  | error er => exact (show False from hq').elim
  | ok fl =>
    cases fl with
    | ret u =>
      obtain ⟨v, H2, os2, bare2, un2, hok2, rv, ev, q2⟩ := hq'
      subst ev
      obtain ⟨h2, g2, d2, t2, os'⟩ := s'
      obtain rfl : os' = os := os2
      exact ⟨rv, .ref (hp.objs.size + 1), H2, I2.call (h' := h2) (g' := g2) (d' := d2) (t' := t2) (ch := []) un2 hok2 bare2 (fun b z => absurd z (by simp)), rfl, q2⟩
    | next => exact False.elim hq'
    | brk => exact False.elim hq'
    | cont => exact False.elim hq'
theorem pe_xc (T : XcC X.K C) (iC : PySem.W.findIn X.K (.ref C) "__init__" = some (some (.ref fI))) (tI : PySem.W.typeIn X.K (.ref fI) = some (.type "function")) (F1 : FnOk X.prog X.w X.K X.mg X.base CX0 k fI fd ps sp) (hr : Room (k + 1) X.A) (hb : Binds X.K fd ps []) (hg : Gl X x) (hm : X.mg x = some (.ref C)) (ha : PA X (e :: es) ta)
    (hdb : (x == ("__debug__" : Str)) = false := by decide) (he : starEach (e :: es) X.env = (false, eval e X.env) :: starEach es X.env := by rfl) (hpl : (backTo pos (starEach es X.env)).any (·.1) = false := by rfl) :
    PE X (.Call (.Name x p) (e :: es) [] pos) (tXc C sp ta) := by
  refine ⟨fun pins s σ H Q I h => wpAny_Call_Name_kw (ld_glob I hg hm (PySem.W.callWith_K (h₀ := X.base) I.ok.mod.kin T.kp (thn (ha.run pos pins s σ H _ I h) fun us s1 ⟨vs, H1, I1, r1, hz, q1⟩ => ⟨I1.kIn, ?_⟩) he hpl) hdb)⟩
  exact run_xc T iC tI F1 hr hb I1 r1 hz q1
end
/-- e.n, e an error in the heap -/
def tXfO (K : PySem.W.Frag) (n : Str) (te : TE) : TE := fun σ H Q => te σ H fun x H1 => ∃ (a C d : Addr) (fs : List (Str × V)) (v : V), x = .ref a ∧ XcC K C ∧ PySem.W.findIn K (.ref C) n = some none ∧ H1 a = some (exo a C (some d)) ∧ H1 d = some (exd d fs) ∧ fs.lookup n = some v ∧ Q v H1
theorem pe_xfO {X : Cx} {e : Expr} {te : TE} {pos : Pos} {n : Str} (he : PE X e te) (hb : attributeBase e n X.env (eval e X.env) = eval e X.env := by rfl) : PE X (.Attribute e n pos) (tXfO X.K n te) := by
  refine ⟨fun pins s σ H Q I h => attr_of hb (thn (he.run pins s σ H _ I h) fun u s1 hh => ?_)⟩
  obtain ⟨x, H1, I1, rx, a, C, d, fs, v, ex, T, no, ea, ed, l, q⟩ := hh
  subst ex
  obtain rfl : u = Value.ref a := rx
  obtain ⟨t1, ho⟩ := exo_at I1.hok ea
  obtain ⟨mA, hns, hr⟩ := exd_at I1.hok ed
  obtain ⟨od, hod, hl⟩ := lookIn_ns hns
  obtain ⟨u, hu, ru⟩ := RelO.some_of (v := v) (o := mA n) (by rw [← l]; exact hr n)
  have J : PySem.W.InstAt s1.heap a _ C (some od) := ⟨ho, rfl, rfl, hod⟩
  exact HandSPX.exc_get I1.kIn J T.ga T.gg T.sub (PySem.W.findObj_own T.hd no rfl (by rw [hl, hu])) (handed_of ru) ⟨v, H1, I1.tok _, ru, q⟩
/-! ### isinstance of an error that has fields -/
section
open PySem.W PySem.Calls
variable {prog : Program} {w : World} {A : Around} {E : Value → Shared → Prop} {s : Shared} {K : PySem.W.Frag} {x D : Addr} {ox : Obj} {od : Option Obj}
theorem findObj_dataX {C : Addr} {name : Str} {a g : Value} (hc : (clsIn K C).isSome = true) (ha : findIn K (.ref C) name = some (some a)) (hg : specialIn K a "__get__" = some (some g)) (ht : takesIn K a = some true) : findObj K C od name = some (.bind g a) := by
  obtain ⟨cd, hc⟩ := Option.isSome_iff_exists.mp hc
  unfold findObj
  rw [hc, Option.bind_some, ha, Option.bind_some]
  simp [hg, ht]
theorem class_of_err {Q : Option Value → Shared → Prop} (T : ExcC K D) (X : K.In s.heap) (I : InstAt s.heap x ox D od) (h : Q (some (.ref D)) { s with toks := s.toks + 1 }) : wpAny (model prog w) A (getAttr? (.ref x) "__class__") Q E s := by
  have hf : findObj K D od "__class__" = some (.bind (.builtin "getset_descriptor.__get__") (.builtin "object.__class__")) := findObj_dataX (by obtain ⟨cd, hc, _⟩ := any_some T.hd; rw [hc]; rfl) T.ha T.hn T.ht
  obtain ⟨hp, g, d, t, os⟩ := s
  have L0 := I.type (M := model prog w)
  have L1 := looks_findIn (M := model prog w) X T.hg
  have L2 := looks_findIn (M := model prog w) X T.hk
  have L3 := looks_find (M := model prog w) X I hf
  have sub : Looks (model prog w) hp (isInstance (.ref x) (.type "BaseException")) true := L0.andThen (looks_subIn X T.hs)
  have e2 : (Value.builtin "BaseException.__getattribute__" == Value.builtin "object.__getattribute__") = false := by decide +kernel
  have e1 : (onTheHeap (Value.ref D) && Value.builtin "BaseException.__getattribute__" == Value.builtin "object.__getattribute__") = false := by rw [e2]; rfl
  unfold getAttr? getAttrBy? getAttrBy
  refine wpAny_bind (wpAny_mkText (wpAny_bind (wpAny_attempt (wpAny_holding (wpAny_bind (L0.at (wpAny_bind (L1.at ?_))))))))
  show wpAny _ _ (if (onTheHeap (Value.ref D) && Value.builtin "BaseException.__getattribute__" == Value.builtin "object.__getattribute__") = true then _ else _) _ _ _
  rw [e1, if_neg Bool.false_ne_true]
  unfold getAttrByItsOwn hookBefore
  refine wpAny_bind ?_
  rw [if_pos (show onTheHeap (Value.ref D) = true from rfl)]
  refine L2.at (wpAny_bind (wpAny_attempt (wpAny_holding ?_)))
  unfold callGetattribute
  rw [show (false && onTheHeap (Value.builtin "BaseException.__getattribute__")) = false from rfl, if_neg Bool.false_ne_true]
  unfold boundAndCalled
  rw [PySem.F.excAttr_ValueError.ga.bind (.ref x)]
  refine wpAny_bind (wpAny_pure ?_)
  show wpAny _ _ (call (.builtin "BaseException.__getattribute__") [.ref x, .str "__class__" t]) _ _ _
  refine wpAny_call (codeAny_call_builtin PySem.F.excAttr_ValueError.ga.plain PySem.F.entry_bexc_ga ?_)
  refine @check_slot (model prog w) _ _ ⟨hp, g, d, t + 1, os⟩ "BaseException.__getattribute__" "BaseException" "__getattribute__" (.ref x) [.str "__class__" t] [] _ (by decide +kernel) (by decide +kernel) sub (PySem.F.args_bexc_ga (.ref x) (.str "__class__" t)) ?_
  unfold Builtin.«object.__getattribute__»
  refine wpAny_bind (wpAny_of_eq (a := ((Value.ref x : Value), [Value.str "__class__" t])) (by first | rfl | (simp only [slotArgs]; rfl)) ?_)
  refine wpAny_bind (wpAny_pure (wpAny_bind (L0.at (wpAny_bind (L3.at ?_)))))
  show wpAny _ _ (holding [Value.builtin "object.__class__"] (call (.builtin "getset_descriptor.__get__") [.builtin "object.__class__", .ref x, .ref D]) >>= ret) _ _ _
  refine wpAny_bind (wpAny_holding (wpAny_call (class_get (s := ⟨hp, g, d, t + 1, os⟩) (ox := ox) (od := od) X I T.hm (wpAny_pure ?_))))
  show wpAny _ _ (handedOut (.ref D)) _ _ _
  rw [handedOut_of (v := .ref D) rfl]
  first
    | exact wpAny_pure (wpAny_pure h)
    | exact wpAny_pure h
    | exact wpAny_pure (wpAny_bind (wpAny_pure (wpAny_pure h)))
theorem kit_err (T : ExcC K D) : KitX K (.ref x) (.ref D) (fun h => InstAt h x ox D od) where
  ty := fun _ _ _ I => I.type
  it := fun _ _ X _ => by
    obtain ⟨cd, hc, _⟩ := any_some T.hd
    unfold clsIn at hc
    split at hc
    · rename_i c' d' cd' sl' ho
      intro A' Q' E' s' kk qq
      unfold isType loadHead
      exact wpAny_bind (wpAny_loadPart (kk _ _ (X _ _ ho)) (wpAny_pure qq))
    · cases hc
  ne := (handS_kitx_exc (x := x) (ox := ox) T.hg T.hk T.hs T.hd T.ha T.hn T.ht T.hm).ne
  ca := fun X I k => class_of_err T X I k
end
/-- isinstance(e, c), e the error at a with its dict at d -/
def rIsA (K : PySem.W.Frag) (D a d : Addr) : List V → Hp → VK → Prop := fun xs H Q => ∃ (c : V) (cv : Value) (b : Bool) (fs : List (Str × V)), xs = [.ref a, c] ∧ ExcC K D ∧ H d = some (.xd fs) ∧ ClsV c cv ∧ PySem.W.kitOne K (.ref D) cv = some b ∧ Q (.bl b) H
theorem call_isA {X : Cx} {a D d : Addr} (R : ErrAt X a D d) : CallR X (.builtin "isinstance") (rIsA X.K D a d) := by
  intro pins s σ H xs us Q I r h
  obtain ⟨c, cv, b, fs, rfl, C, hd, kc, e, q⟩ := h
  obtain ⟨u1, u2, rfl, r1, r2⟩ := vals2 r
  cases (show u1 = Value.ref a from r1)
  have e2 := kc.eq r2
  subst e2
  obtain ⟨oe, hp, hz, vs, hdt⟩ := R.pin
  obtain ⟨hg, _⟩ := I.pin (a, oe) (List.mem_append_left _ hp)
  obtain ⟨mA, hns, hr⟩ := (show ObjOk X.prog X.w H s.heap d (.xd fs) from I.hok d _ hd)
  obtain ⟨od, ho, hl⟩ := lookIn_ns hns
  have J : PySem.W.InstAt s.heap a oe D (some od) := ⟨hg, hz.1, by unfold PySem.W.notCls; rw [hdt] <;> rfl, by rw [hz.2.1]; exact ho⟩
  exact PySem.W.kia_one (kit_err (ox := oe) (od := some od) C) I.kIn J e (fun z => nomatch z) fun tk => ⟨.bl b, H, I.tok tk, rfl, q⟩
theorem call_isAK {X : Cx} {K : PySem.W.Frag} {a D d : Addr} (R : ErrAt X a D d) (e : X.K = K := by rfl) : CallR X (.builtin "isinstance") (rIsA K D a d) := e ▸ call_isA R
/-- f(e, ..) in a try, f a def that may raise: what is raised is told at the call -/
def tCallW (sp : Sp) (t : TA) (W : WX) : TE := fun σ H Q => t σ H fun vs H1 => ∃ E : XK, (∀ cls d H', E cls d H' → W cls d σ H') ∧ sp vs H1 Q E
theorem pe_callW {Z : Cx} {k : Nat} {f : Addr} {fd : FuncData} {ps : List Str} {sp : Sp} {x : Str} {q pos : Pos} {e : Expr} {es : List Expr} {t : TA} {W : WX} {pn : List (Addr × Obj)} {xe : Value → Shared → Prop} (F : FnOk Z.prog Z.w Z.K Z.mg Z.base (L2N.CX Z.prog Z.w) k f fd ps sp) (hr : Room k Z.A) (tk : L2N.Takes (Z.tr pn xe) W)
    (hg : Gl (Z.tr pn xe) x) (hm : Z.mg x = some (.ref f)) (hk : PySem.W.keepIn Z.K (.ref f) = true) (hb : Binds Z.K fd ps []) (ha : PA (Z.tr pn xe) (e :: es) t) (hdb : (x == ("__debug__" : Str)) = false := by decide) (he : starEach (e :: es) Z.env = (false, eval e Z.env) :: starEach es Z.env := by rfl) (hpl : (backTo pos (starEach es Z.env)).any (·.1) = false := by rfl) :
    PE (Z.tr pn xe) (.Call (.Name x q) (e :: es) [] pos) (tCallW sp t W) := by
  refine ⟨fun pins s σ H Q I h => wpAny_Call_Name_kw (ld_glob (X := Z.tr pn xe) I hg hm (PySem.W.callWith_K (h₀ := Z.base) I.ok.mod.kin hk (thn (ha.run pos pins s σ H _ I h) fun us s1 ⟨vs, H1, I1, r, E, hW, q⟩ => ⟨I1.kIn, ?_⟩) he hpl) hdb)⟩
  have hl : us.length = ps.length := by rw [← r.length]; exact F.len _ _ _ _ q
  have b := hb s1 us I1.kIn (by rw [List.append_nil]; exact hl)
  rw [List.append_nil] at b
  refine wpAny_call (codeAny_mono (F.run Z.A Z.stack s1 H1 ⟨us, []⟩ us vs Q E hr I1.env0 b r q) fun r s' hq => ?_)
  cases r with
  | error e => exact tk e s' (L2N.XE.of_call I1 (fun cls d H' h => hW cls d H' h) hq)
  | ok fl =>
    cases fl with
    | ret u => exact I1.after hq
    | next => exact False.elim hq
    | brk => exact False.elim hq
    | cont => exact False.elim hq
theorem pe_xfOK {X : Cx} {K : PySem.W.Frag} {e : Expr} {te : TE} {pos : Pos} {n : Str} (he : PE X e te) (hb : attributeBase e n X.env (eval e X.env) = eval e X.env := by rfl) (hK : X.K = K := by rfl) : PE X (.Attribute e n pos) (tXfO K n te) := hK ▸ pe_xfO he hb
end Hr

set_option Elab.async false
set_option linter.all false
set_option maxRecDepth 100000
set_option maxHeartbeats 4000000
/-! lambdas that are kept as values, with or without one default; a comprehension that hands each of them on -/
namespace Hr
open PySem PySem.Spec PyProof.Rows L2 LamX
/-- a lambda's object, known and tracked -/
abbrev LamO (f : Addr) (ob : Obj) : HO := .frz ob (.own f)
/-- what stood in (H0, h0) is kept by a run from (H, h) whose frames fs are new or of fr -/
theorem un_on {fr fs : List Addr} {h0 h h' : Heap} {H0 H H' : Hp} (g : Un fr [] H0 H h0 h) (u : Un fs [] H H' h h') (h1 : ∀ b ∈ fs, b ∈ fr ∨ h0.get? b = none) : Un fr [] H0 H' h0 h' := by
  have out : ∀ {b o}, h0.get? b = some o → b ∉ fr → b ∉ fs := fun {b o} e n z => (h1 b z).elim n fun q => by rw [e] at q; cases q
  refine ⟨fun b o e n hb _ => ?_, fun b o e n hb _ => ?_, fun b o e n _ => ?_, fun b o e _ => ?_, fun b xs e => u.tups b xs (g.tups b xs e), fun b o v e => u.frzs b o v (g.frzs b o v e), fun b ps e => ?_⟩
  · exact u.keep b o (g.keep b o e n hb (by simp)) (g.free b o e n (by simp)) (out e hb) (by simp)
  · obtain ⟨sl, e1⟩ := g.slot b o e n hb (by simp)
    obtain ⟨sl2, e2⟩ := u.any e1 (g.free b o e n (by simp)) (by simp)
    exact ⟨sl2, e2⟩
  · obtain ⟨o', e1⟩ := g.there b o e (by simp)
    exact u.free b o' e1 (g.free b o e n (by simp)) (by simp)
  · obtain ⟨o', e1⟩ := g.there b o e (by simp)
    exact u.there b o' e1 (by simp)
  · obtain ⟨m1, e1⟩ := g.tbls b ps e
    obtain ⟨m2, e2⟩ := u.tbls b _ e1
    exact ⟨m1 ++ m2, by rw [e2, Array.append_assoc]⟩
/-- what a call of the lambda at f promises, from (H0, h0) on -/
structure IsThk (P : Program) (w : World) (K : PySem.W.Frag) (mg : Str → Option Value) (base : Heap) (j : Nat) (fr : List Addr) (h0 : Heap) (H0 : Hp) (f c' : Addr) (q : Str) (tl : XK → Hp → VK → Prop) : Prop where
  fn : ∃ ob, H0 f = some (LamO f ob) ∧ ∀ h : Heap, h.get? f = some ob → PySem.W.FnAt f h
  call : ∀ (A : Around) (outer : List Env) (s : Shared) (H : Hp) (Q : VK) (E : XK), Un fr [] H0 H h0 s.heap → Room j A → Env0 P w K mg base A outer s H → H c' = some (CodeO c' q) → tl E H Q → codeAny (model P w) A (.call (.ref f) ⟨[], []⟩) (CR (L2N.CX P w) outer P w H s Q E) s
theorem IsThk.at {P : Program} {w : World} {K : PySem.W.Frag} {mg : Str → Option Value} {base : Heap} {j : Nat} {fr : List Addr} {h0 h : Heap} {H0 H : Hp} {f c' : Addr} {q : Str} {tl : XK → Hp → VK → Prop} (th : IsThk P w K mg base j fr h0 H0 f c' q tl) (u : Un fr [] H0 H h0 h) (ok : HOk P w H h) : PySem.W.FnAt f h := by
  obtain ⟨ob, e, g⟩ := th.fn
  exact g h (ok f _ (u.frzs _ _ _ e)).1
/-- the context of a def that has the lambda -/
structure EntU (fr : List Addr) (h0 : Heap) (H0 : Hp) (Z : Cx) : Prop where
  un : Un fr [] H0 Z.H_0 h0 Z.s_0.heap
  fs : ∀ b ∈ Z.fs, b ∈ fr ∨ h0.get? b = none
  ex : Z.ex = []
theorem EntU.at {fr : List Addr} {h0 : Heap} {H0 H : Hp} {Z : Cx} {h : Heap} (en : EntU fr h0 H0 Z) (u : Un Z.fs Z.ex Z.H_0 H Z.s_0.heap h) : Un fr [] H0 H h0 h := by
  rw [en.ex] at u
  exact un_on en.un u en.fs
section
variable {Z : Cx} {j k i : Nat} {fr : List Addr} {h0 : Heap} {H0 : Hp} {f c' g : Addr} {q a x : Str} {tl : XK → Hp → VK → Prop} {W : WX} {pn : List (Addr × Obj)} {xe : Value → Shared → Prop} {p p1 p2 pos : Pos}
/-- a(), a the lambda -/
theorem pe_thunkU (th : IsThk Z.prog Z.w Z.K Z.mg Z.base j fr h0 H0 f c' q tl) (en : EntU fr h0 H0 Z) (hr : Room j Z.A) (tk : L2N.Takes (Z.tr pn xe) W) (hN : Z.N[i]? = some a) (hv : Vis Z.env.scope a) (hd : (a == ("__debug__" : Str)) = false := by decide) (hcd : (a == ("__classdict__" : Str)) = false := by decide) :
    PE (Z.tr pn xe) (.Call (.Name a p1) [] [] p2) (tThk f c' q i tl W) := by
  refine ⟨fun pinsZ sZ σZ HZ Q IZ h => ?_⟩
  obtain ⟨hs, hc, E, hW, ht⟩ := h
  refine wpAny_Call_Name_kw (thn ((pe_var (X := Z.tr pn xe) (pos := p1) (i := i) hN hv hd hcd).run pinsZ sZ σZ HZ (fun v H1 => v = .ref f ∧ H1 = HZ) IZ ⟨.ref f, hs, rfl, rfl⟩) fun u s1 ⟨v, H1, I1, r1, ev, eH⟩ => ?_)
  subst ev
  rw [eH] at I1
  obtain rfl : u = Value.ref f := r1
  have un := en.at I1.base
  refine PySem.W.callWith_F0 (th.at un I1.hok) (wpAny_call (codeAny_mono (th.call Z.A Z.stack s1 HZ Q E un hr I1.env0 hc ht) fun r s' hq => ?_))
  cases r with
  | error e => exact tk e s' (L2N.XE.of_call I1 (fun cls d H' h => hW cls d H' h) hq)
  | ok fl =>
    cases fl with
    | ret u => exact I1.after hq
    | next => exact False.elim hq
    | brk => exact False.elim hq
    | cont => exact False.elim hq
end
/-- a def that is handed the lambda; TT: what it makes of the lambda's reading -/
structure FnU (P : Program) (w : World) (K : PySem.W.Frag) (mg : Str → Option Value) (base : Heap) (k j : Nat) (g : Addr) (TT : (XK → Hp → VK → Prop) → Hp → VK → Prop) : Prop where
  run : ∀ {fr : List Addr} {h0 : Heap} {H0 : Hp} {f c' : Addr} {q : Str} {tl : XK → Hp → VK → Prop}, IsThk P w K mg base j fr h0 H0 f c' q tl → ∀ (A : Around) (outer : List Env) (s : Shared) (H : Hp) (Q : VK), Room k A → Env0 P w K mg base A outer s H → Un fr [] H0 H h0 s.heap → (∀ b ∈ frs outer, b ∈ fr ∨ h0.get? b = none) → H c' = some (CodeO c' q) → TT tl H Q →
    codeAny (model P w) A (.call (.ref g) ⟨[.ref f], []⟩) (CR CX0 outer P w H s Q E0) s
theorem Fun.okU {P : Program} {w : World} {K : PySem.W.Frag} {mg : Str → Option Value} {base : Heap} {x qual a : Str} {st : Stmt} {g : Addr} {fd : FuncData} {N : List Str} {k j : Nat} {TT : (XK → Hp → VK → Prop) → Hp → VK → Prop} (F : Fun K x qual st g fd) (S : FnScope N [a] (defScope st)) (hb : Binds K fd [a] [])
    (body : ∀ (cdv : Value) (A : Around) (outer : List Env) (s : Shared) (H : Hp) (Q : VK) {fr : List Addr} {h0 : Heap} {H0 : Hp} {f c' : Addr} {q : Str} {tl : XK → Hp → VK → Prop}, IsThk P w K mg base j fr h0 H0 f c' q tl → Room k (A.deeper (envOfC qual (defScope st) s.heap.objs.size g cdv)) → EntU fr h0 H0 (cxOf CX0 P w K mg base N qual (defScope st) g cdv A outer s H E0).nox → H c' = some (CodeO c' q) → TT tl H Q →
      ∃ t, PSs (cxOf CX0 P w K mg base N qual (defScope st) g cdv A outer s H E0).nox (defBody st) t ∧ t { nx := fun _ H' => Q .non H', rt := Q } (start N [.ref f]) H) : FnU P w K mg base (k + 1) j g TT := by
  obtain ⟨oc, od, kV, doc, pm, an, cdv, ct, osl, rfl, lk, hcd⟩ := F.ex
  refine ⟨fun {fr h0 H0 f c' q tl} th A outer s H Q hr e0 un h1 hc ht => ?_⟩
  have kin : K.In s.heap := e0.mod.kin.keeps fun b o e => (e0.bs b o e).1
  have bd := hb s [.ref f] kin rfl
  refine run_ofS (us := [.ref f]) (vs := [.ref f]) lk hcd S hr e0 bd (.cons rfl .nil) rfl fun hr' => ?_
  obtain ⟨t, h, hq⟩ := body cdv A outer s H Q th hr' ⟨un, h1, rfl⟩ hc ht
  exact ⟨t, h.nox, hq⟩
section
variable {Z : Cx} {j k i : Nat} {fr : List Addr} {h0 : Heap} {H0 : Hp} {f c' g : Addr} {q a x : Str} {tl : XK → Hp → VK → Prop} {p p1 p2 pos : Pos} {TT : (XK → Hp → VK → Prop) → Hp → VK → Prop}
/-- x(a), a the lambda: it is handed on -/
theorem pe_passU (G : FnU Z.prog Z.w Z.K Z.mg Z.base k j g TT) (th : IsThk Z.prog Z.w Z.K Z.mg Z.base j fr h0 H0 f c' q tl) (en : EntU fr h0 H0 Z) (hs : Z.stack = Z.env :: Z.outer) (hf : Z.env.frame = some Z.env.locals) (hr : Room k Z.A) (hg : Gl Z x) (hm : Z.mg x = some (.ref g)) (hk : PySem.W.keepIn Z.K (.ref g) = true)
    (hN : Z.N[i]? = some a) (hv : Vis Z.env.scope a) (hd : (a == ("__debug__" : Str)) = false := by decide) (hcd : (a == ("__classdict__" : Str)) = false := by decide) (hdb : (x == ("__debug__" : Str)) = false := by decide)
    (he : starEach [.Name a p1] Z.env = (false, eval (.Name a p1) Z.env) :: starEach [] Z.env := by rfl) (hpl : (backTo pos (starEach [] Z.env)).any (·.1) = false := by rfl) :
    PE Z (.Call (.Name x p) [.Name a p1] [] pos) (tPass f c' q i tl TT) := by
  refine ⟨fun pinsZ sZ σZ HZ Q IZ h => ?_⟩
  obtain ⟨hsl, hc, ht⟩ := h
  have ha : PA Z [.Name a p1] (tCons (tVar i) tNil) := pa_cons (pe_var hN hv hd hcd) pa_nil
  refine wpAny_Call_Name_kw (ld_glob IZ hg hm (PySem.W.callWith_K (h₀ := Z.base) IZ.ok.mod.kin hk (thn (ha.run pos pinsZ sZ σZ HZ (fun vs H1 => vs = [V.ref f] ∧ H1 = HZ) IZ ⟨.ref f, hsl, rfl, rfl⟩) fun us s1 ⟨vs, H1, I1, r1, ev, eH⟩ => ⟨I1.kIn, ?_⟩) he hpl) hdb)
  subst ev
  rw [eH] at I1
  rw [Vals.ref1 r1]
  have un := en.at I1.base
  have there : ∀ {b o}, h0.get? b = some o → b < Z.s_0.heap.objs.size := fun {b o} e => by
    obtain ⟨o', e1⟩ := en.un.there b o e (by simp)
    exact Heap.lt_size e1
  have h1 : ∀ b ∈ frs Z.stack, b ∈ fr ∨ h0.get? b = none := fun b hb => by
    rw [hs] at hb
    unfold frs at hb
    rw [List.filterMap_cons, hf] at hb
    rcases List.mem_cons.mp hb with rfl | hb
    · right
      cases e : h0.get? Z.env.locals with
      | none => rfl
      | some o => exact absurd (there e) (Nat.not_lt.mpr I1.ok.above)
    · exact en.fs b hb
  show wpAny _ _ (call (.ref g) [.ref f]) _ _ _
  refine wpAny_call (codeAny_mono (G.run th Z.A Z.stack s1 HZ Q hr I1.env0 un h1 hc ht) fun r s' hq => ?_)
  cases r with
  | error e => exact (show False from hq).elim
  | ok fl =>
    cases fl with
    | ret u => exact I1.after hq
    | next => exact False.elim hq
    | brk => exact False.elim hq
    | cont => exact False.elim hq
end
/-! ### the lambda's own body -/
/-- names of a lambda: its own (not among the maker's), captured ones and globals -/
structure LamN (N : List Str) (sc scope : Scope) : Prop where
  kind : scope.kind = .function
  co : scope.isCoroutine = false
  gen : scope.isGenerator = false
  cel : ∀ y ∈ scope.names, y.2 ≠ .cell
  loc : ∀ y ∈ scope.names, y.2 = .local → y.1 ∉ N
  free : ∀ y ∈ scope.names, y.2 = .free → sc.names.lookup y.1 = some .cell ∨ sc.names.lookup y.1 = some .free
def lamNB (N : List Str) (sc scope : Scope) : Bool :=
  decide (scope.kind = .function) && !scope.isCoroutine && !scope.isGenerator && scope.names.all fun y => !decide (y.2 = .cell) && (!decide (y.2 = .local) || !N.contains y.1) && (!decide (y.2 = .free) || decide (sc.names.lookup y.1 = some .cell) || decide (sc.names.lookup y.1 = some .free))
theorem lamN_by {N : List Str} {sc scope : Scope} (h : lamNB N sc scope = true) : LamN N sc scope := by
  unfold lamNB at h
  simp only [Bool.and_eq_true, Bool.or_eq_true, Bool.not_eq_true', decide_eq_true_eq, decide_eq_false_iff_not, List.all_eq_true] at h
  obtain ⟨⟨⟨h1, h2⟩, h3⟩, h4⟩ := h
  refine ⟨h1, h2, h3, fun y hy => (h4 y hy).1.1, fun y hy e z => ?_, fun y hy e => ?_⟩
  · rcases (h4 y hy).1.2 with q | q
    · exact q e
    · rw [List.contains_eq_mem] at q
      simp [z] at q
  · rcases (h4 y hy).2 with (q | q) | q
    · exact absurd e q
    · exact .inl q
    · exact .inr q
theorem LamN.has {X : Cx} {scope : Scope} (L : LamN X.N X.env.scope scope) (ok : X.Ok) : ∀ y ∈ scope.names, y.2 = .free → ∃ c, X.env.cells.lookup y.1 = some c := fun y hy e => (L.free y hy e).elim (fun k => ok.has _ (.inl k)) fun k => ok.has _ (.inr k)
section
variable {X : Cx} {pins : List (Addr × Obj)} {σ : L2.St} {H HZ H0 : Hp} {s s1 s0 : Shared}
theorem lam_startU {A : Around} {outer : List Env} {E : XK} {scope : Scope} {f c' : Addr} {g₁ : Heap} {tk : Nat} {mm : Str → Option Value} (J : Inv X pins σ H s) (L : LamN X.N X.env.scope scope) (e0 : Env0 X.prog X.w X.K X.mg X.base A outer s1 HZ) (nh : A.handled = none)
    (u : Un (frs X.stack) [] H HZ s.heap s1.heap) (ns : g₁.Ns s1.heap.objs.size mm) (kp : ∀ b o, s1.heap.get? b = some o → g₁.get? b = some o) :
    Inv (lamCx X A outer s1 HZ E scope f c') [] σ HZ { s1 with heap := g₁, toks := tk } := by
  have old : ∀ {y c}, (cloFrom X.env.cells scope.names []).lookup y = some c → X.env.cells.lookup y = some c := fun {y c} e => by
    rcases cloFrom_mem (PySem.mem_of_lookup e) with z | ⟨z1, z2⟩
    · cases z
    · obtain ⟨d, ed⟩ := L.has J.ok _ z1 rfl
      have ed : X.env.cells.lookup y = some d := ed
      rw [z2, ed]
      rfl
  have has : ∀ {y}, scope.names.lookup y = some .free → ∃ c, (cloFrom X.env.cells scope.names []).lookup y = some c := fun {y} e => mem_lookup (cloFrom_has (cells := X.env.cells) (acc := []) (show (y, NameKind.free) ∈ scope.names from PySem.mem_of_lookup e))
  have cell : ∀ {y c v}, (cloFrom X.env.cells scope.names []).lookup y = some c → s.heap.IsCell c v → g₁.IsCell c v := fun {y c v} e ⟨o, ho, ed⟩ => by
    obtain ⟨sl, q⟩ := u.any ho (J.freeC y c (old e)) (by simp)
    exact ⟨_, kp _ _ q, ed⟩
  have nx : ∀ b : Addr, b ∉ (lamCx X A outer s1 HZ E scope f c').ex := fun b z => absurd (show b ∈ ([] : List Addr) from z) (by simp)
  have ok : (lamCx X A outer s1 HZ E scope f c').Ok := by
    refine ⟨e0.mod, L.kind, rfl, rfl, Nat.le_refl _, fun y z c e1 e2 => J.ok.inj y z c (old e1) (old e2), fun y hy => ?_, fun y c z _ => Bool.noConfusion (show false = true from z), fun _ => nh, Around.frames_deeper e0.frames, .inr ⟨rfl, rfl⟩, fun b z => absurd z (nx b), e0.bs, e0.bsz, fun b _ _ => nx b, fun b z => absurd z (nx b), e0.funs, e0.frf⟩
    rcases (show scope.names.lookup y = some .cell ∨ scope.names.lookup y = some .free from hy) with z | z
    · exact absurd rfl (L.cel _ (PySem.mem_of_lookup z))
    · exact has z
  refine ⟨ok, rfl, e0.bare, Un.kept kp, ⟨mm, ns, fun i y v e1 e2 e3 => ?_⟩, fun y c e => ?_, e0.hok.fresh (Nat.le_refl _), fun y c e => ?_, fun z hz => absurd (show z ∈ ([] : List (Addr × Obj)) ++ [] from hz) (by simp), e0.hok.kept kp, J.len⟩
  · rcases (show Vis scope y from e3) with z | z | z
    · exact absurd (List.mem_of_getElem? e1) (L.loc _ (PySem.mem_of_lookup z) rfl)
    · exact absurd rfl (L.cel _ (PySem.mem_of_lookup z))
    · have lf := L.free _ (PySem.mem_of_lookup z) rfl
      obtain ⟨m, _, hl⟩ := J.loc
      obtain ⟨v', r, q⟩ := hl i y v e1 e2 (lf.elim (fun k => .inr (.inl k)) fun k => .inr (.inr k))
      obtain ⟨c, ec⟩ := has z
      refine ⟨v', r, .inr ⟨.inr z, c, ec, ?_⟩⟩
      rcases q with ⟨k, _⟩ | ⟨_, d, ed, hd⟩
      · exfalso
        have k : X.env.scope.names.lookup y = some .local := k
        rcases lf with z | z <;> rw [show X.env.scope.names.lookup y = _ from z] at k <;> cases k
      · rw [old ec] at ed
        cases ed
        exact cell ec hd
  · obtain ⟨v, z⟩ := J.cell y c (old e)
    exact ⟨v, cell e z⟩
  · obtain ⟨v, o, ho, _⟩ := J.cell y c (old e)
    exact u.free c o ho (J.freeC y c (old e)) (by simp)
/-- what the call binds: nothing, or one default, 0 -/
def BindQ (params : Arguments) (body : Expr) (scope : Scope) (dt : Option Addr) (dV : Value) : Prop :=
  match dt with
  | none => ∀ (q : Str) (cl : List (Str × Addr)) (doc pm cv ctv : Value), bindArgs (PySem.W.kdv_fn "<lambda>" q params (.expr body) scope cl dV doc pm cv ctv) ⟨[], []⟩ = pure []
  | some T0 => dV = .ref T0 ∧ ∀ (q : Str) (cl : List (Str × Addr)) (doc pm cv ctv : Value) (t : Tok), ∃ (k : Option (Array Value) → Sem (List (Str × Value))) (y : Str), bindArgs (PySem.W.kdv_fn "<lambda>" q params (.expr body) scope cl dV doc pm cv ctv) ⟨[], []⟩ = seqItems? dV >>= k ∧ k (some #[.int 0 t]) = pure [(y, .int 0 t)] ∧ scope.names.lookup y = some .local
/-- the default's tuple -/
def DfT (dt : Option Addr) (H : Hp) : Prop := ∀ T0, dt = some T0 → H T0 = some (.tup [.int 0])
theorem lam_thunkU {k : Nat} {f c' : Addr} {pm ctv doc dV : Value} {dt : Option Addr} {params : Arguments} {body : Expr} {scope : Scope} {t : XK → TE} (I : Inv X pins σ H0 s0) (L : LamN X.N X.env.scope scope) (hb : BindQ params body scope dt dV) (hdt : DfT dt H0)
    (hob : H0 f = some (LamO f (PySem.W.kdv_obj "<lambda>" (X.env.qual ++ "<lambda>") params (.expr body) scope (cloFrom X.env.cells scope.names []) dV doc pm c' ctv)))
    (hbody : ∀ (A : Around) (outer : List Env) (s : Shared) (H : Hp) (E : XK), Room k (A.deeper (lamEnv X scope s.heap.objs.size f c')) → PE (lamX X A outer s H E scope f c') body (t E)) :
    IsThk X.prog X.w X.K X.mg X.base (k + 1) (frs X.stack) s0.heap H0 f c' (X.env.qual ++ "<lambda>") (fun E H Q => t E σ H Q) := by
  refine ⟨⟨_, hob, fun h e => ⟨_, _, _, _, e⟩⟩, fun A outer s H Q E un hr e0 hc ht => ?_⟩
  obtain ⟨⟨oc, vs, tk, hoc, hdc, hvc⟩, _, _⟩ := e0.hok c' _ hc
  have lim : s.heap.NoLimit := e0.mod.nolimit.keeps fun b o e => (e0.bs b o e).1
  obtain ⟨binds, bt, hl⟩ : ∃ binds, BindsTo s (PySem.W.kdv_fn "<lambda>" (X.env.qual ++ "<lambda>") params (.expr body) scope (cloFrom X.env.cells scope.names []) dV doc pm (.ref c') ctv) ⟨[], []⟩ binds ∧ ∀ y ∈ binds, scope.names.lookup y.1 = some .local := by
    cases dt with
    | none => exact ⟨[], BindsTo.of_eq (hb _ _ _ _ _ _), fun y hy => absurd hy (by simp)⟩
    | some T0 =>
      obtain ⟨rfl, hb⟩ := hb
      obtain ⟨_, its, r, ob, e1, _, n, e2⟩ := e0.hok T0 _ (un.tups _ _ (hdt T0 rfl))
      cases r with
      | @cons _ u _ _ r1 r2 =>
        cases r2
        obtain ⟨tt, rfl⟩ := r1
        obtain ⟨kk, y, h1, h2, h3⟩ := hb (X.env.qual ++ "<lambda>") (cloFrom X.env.cells scope.names []) doc pm (.ref c') ctv tt
        exact ⟨_, BindsTo.of_defaults rfl e1 e2 h1 h2, fun z hz => by rw [List.mem_singleton.mp hz]; exact h3⟩
  refine PySem.W.kla_callFunE hr.depth (e0.hok f _ (un.frzs _ _ _ hob)).1 rfl L.co L.gen rfl ⟨c', oc, vs, tk, rfl, hoc, hdc, hvc⟩ (bt _ _ _ _ (wpAny_newFunctionEnv L.cel hl (fun h₁ hns hsb => ⟨lim.fresh _ hsb, ?_⟩) L.kind))
  show codeAny _ _ (.expr body (lamEnv X scope s.heap.objs.size f c')) _ _
  have kp : ∀ b o, s.heap.get? b = some o → h₁.get? b = some o := fun b o e => hsb.extBut b o (Nat.ne_of_lt (Heap.lt_size e)) (Heap.get?_push_of_some _ e)
  have J := (lam_startU (E := E) (f := f) (c' := c') (tk := s.toks + binds.length) I L e0 hr.hd un hns kp).toTry (fun e s' => wpAny (model X.prog X.w) (A.deeper (lamEnv X scope s.heap.objs.size f c')) (leaving (lamEnv X scope s.heap.objs.size f c') e) (fun _ s'' => L2N.CX X.prog X.w outer H s E e s'') (fun e' s'' => L2N.CX X.prog X.w outer H s E e' s'') s')
  refine PySem.W.kla_codeExpr (wpAny_mono ((hbody A outer s H E (hr.deeper _)).run [] _ _ H Q J ht) (fun v s' hq => ?_) fun e s' hq => hq)
  obtain ⟨w', H', J', rv, qq⟩ := hq
  exact ⟨w', H', J'.os, J'.bare, J'.base, J'.hok, rv, qq⟩
/-- a lambda of the context X stands at f; t: the reading of its body -/
def ThkAt (X : Cx) (k : Nat) (t : XK → TE) (H : Hp) (f : Addr) : Prop := ∃ (c' : Addr) (ob : Obj) (dt : Option Addr), H f = some (LamO f ob) ∧ H c' = some (CodeO c' (X.env.qual ++ "<lambda>")) ∧ DfT dt H ∧
  ∀ (pins : List (Addr × Obj)) (σ : L2.St) (H0 : Hp) (s0 : Shared), Inv X pins σ H0 s0 → H0 f = some (LamO f ob) → DfT dt H0 → IsThk X.prog X.w X.K X.mg X.base (k + 1) (frs X.stack) s0.heap H0 f c' (X.env.qual ++ "<lambda>") (fun E H Q => t E σ H Q)
theorem ThkAt.ext {k : Nat} {t : XK → TE} {f : Addr} {H H' : Hp} (h : ThkAt X k t H f) (e : ExtN H H') : ThkAt X k t H' f := by
  obtain ⟨c', ob, dt, h1, h2, h3, h4⟩ := h
  exact ⟨c', ob, dt, e _ _ h1 (fun _ z => by cases z), e _ _ h2 codeO_ne, fun T0 z => e _ _ (h3 T0 z) (fun _ z => by cases z), h4⟩
theorem ThkAt.same {k : Nat} {t : XK → TE} {f : Addr} {H H' : Hp} (h : ThkAt X k t H f) (e : Same H H') : ThkAt X k t H' f := h.ext (ExtN.of e)
/-- the lambda is made and tracked -/
theorem lam_makeU {T : List (Addr × Str)} {c P : Addr} {params : Arguments} {body : Expr} {scope : Scope} {pos : Pos} {dV : Value} {E : Value → Shared → Prop} {Q : Value → Shared → Prop} (I : Inv X pins σ H s) (TB : TabB X.base X.mg c P) (hcode : X.env.code = .ref c)
    (hm : (P, X.env.qual ++ "<lambda>") ∈ T) (hu : ∀ p ∈ T, p.1 = P → p.2 = X.env.qual ++ "<lambda>") (hT : Tabs T H) (hfree : ∀ y ∈ scope.names, y.2 = .free → ∃ c, X.env.cells.lookup y.1 = some c)
    (h : ∀ (f c' : Addr) (pm ctv doc : Value) (H1 : Hp) (s' : Shared), Inv X pins σ H1 s' → ExtN H H1 → Tabs T H1 →
      H1 f = some (LamO f (PySem.W.kdv_obj "<lambda>" (X.env.qual ++ "<lambda>") params (.expr body) scope (cloFrom X.env.cells scope.names []) dV doc pm c' ctv)) → H1 c' = some (CodeO c' (X.env.qual ++ "<lambda>")) → Q (.ref f) s') :
    wpAny (model X.prog X.w) X.A (makeTail "<lambda>" (X.env.qual ++ "<lambda>") params (.expr body) scope X.env dV .none none pos pos.line) Q E s := by
  obtain ⟨ps, hP, ht, ha⟩ := hT _ hm
  have bP : s.heap.BuiltinsAt X.mg P := TB.bm.keeps I.bk
  have hP' : s.heap.get? P = some { cls := .none, data := .fields ps } := I.hok P _ hP
  cases hc : codeAmong pos ps.toList with
  | none =>
    refine PySem.W.kdv_makeTail (mg := X.mg) (c := c) (P := P) (ps := ps) (closure_ok hfree) I.ok.glob (I.mod.glob.keeps I.bk) hcode (TB.code.keeps I.bk) hP' ht hc TB.gP bP fun c' ctv doc h' tk hx hge hlt hrec htb => ?_
    obtain ⟨c2, oc, vs, t, e2, hoc, hd, hv⟩ := hrec
    cases e2
    have nC : H c' = none := I.hok.fresh hge
    have I1 := inv_table (t' := tk) (more := #[rawInt pos.line, rawInt pos.col, .ref c']) (h' := h') I hP (fun b o hb e => hx b o hb e) htb hge ⟨oc, vs, t, hoc, hd, hv⟩
    have hE : ExtN H (upd (upd H P (.tbl (ps ++ #[rawInt pos.line, rawInt pos.col, .ref c']))) c' (CodeO c' (X.env.qual ++ "<lambda>"))) := fun b o e n => by
      rw [upd_ne (ne_of_none e nC), upd_ne (fun z => n ps (Option.some.inj (e.symm.trans (by rw [z]; exact hP))))]
      exact e
    have eL : (ps ++ #[rawInt pos.line, rawInt pos.col, .ref c']).toList = ps.toList ++ [rawInt pos.line, rawInt pos.col, .ref c'] := by simp
    have T1 : Tabs T (upd (upd H P (.tbl (ps ++ #[rawInt pos.line, rawInt pos.col, .ref c']))) c' (CodeO c' (X.env.qual ++ "<lambda>"))) := fun p hp => by
      by_cases hb : p.1 = P
      · rw [hu p hp hb, hb]
        refine ⟨_, by rw [upd_ne (ne_of_none hP nC), upd_same], by rw [eL]; exact PySem.TriplesOk_snoc _ _ _ _ ht, fun p' cv hcv => ?_⟩
        rw [eL] at hcv
        rcases among_app _ ht hcv with z | z
        · obtain ⟨c0, e1, e2⟩ := ha p' cv z
          exact ⟨c0, e1, hE _ _ e2 codeO_ne⟩
        · exact ⟨c', z, upd_same⟩
      · obtain ⟨ps', a1, a2, a3⟩ := hT p hp
        refine ⟨ps', by rw [upd_ne (ne_of_none a1 nC), upd_ne hb]; exact a1, a2, fun p' cv hcv => ?_⟩
        obtain ⟨c0, e1, e2⟩ := a3 p' cv hcv
        exact ⟨c0, e1, hE _ _ e2 codeO_ne⟩
    have hC1 : upd (upd H P (.tbl (ps ++ #[rawInt pos.line, rawInt pos.col, .ref c']))) c' (CodeO c' (X.env.qual ++ "<lambda>")) c' = some (CodeO c' (X.env.qual ++ "<lambda>")) := upd_same
    generalize upd (upd H P (.tbl (ps ++ #[rawInt pos.line, rawInt pos.col, .ref c']))) c' (CodeO c' (X.env.qual ++ "<lambda>")) = H1 at I1 hE T1 hC1
    have nf : H1 h'.objs.size = none := I1.hok.fresh (Nat.le_refl _)
    have I2 := I1.laid (a := h'.objs.size) (o := LamO h'.objs.size (PySem.W.kdv_obj "<lambda>" (X.env.qual ++ "<lambda>") params (.expr body) scope (cloFrom X.env.cells scope.names []) dV doc ((X.mg "__name__").getD .none) c' ctv)) (t' := tk) (fun b u e => Heap.get?_push_of_some _ e) (Nat.le_refl _) ⟨Heap.get?_push_size _ rfl, _, Heap.get?_push_size _ rfl⟩
    have sm := same_new (o := LamO h'.objs.size (PySem.W.kdv_obj "<lambda>" (X.env.qual ++ "<lambda>") params (.expr body) scope (cloFrom X.env.cells scope.names []) dV doc ((X.mg "__name__").getD .none) c' ctv)) nf
    exact h _ c' _ ctv doc _ _ I2 (hE.trans (ExtN.of sm)) (T1.ext sm) upd_same (sm _ _ hC1)
  | some cv =>
    obtain ⟨c', e, hco⟩ := ha pos cv hc
    subst e
    refine PySem.W.kdv_makeTailHit (mg := X.mg) (c := c) (P := P) (ps := ps) (closure_ok hfree) I.ok.glob (I.mod.glob.keeps I.bk) hcode (TB.code.keeps I.bk) hP' ht hc bP fun ctv doc h' tk hx hsz => ?_
    have I0 : Inv X pins σ H { s with heap := h', toks := tk } := I.kept hx
    have nf : H h'.objs.size = none := I0.hok.fresh (Nat.le_refl _)
    have I1 := I0.laid (a := h'.objs.size) (o := LamO h'.objs.size (PySem.W.kdv_obj "<lambda>" (X.env.qual ++ "<lambda>") params (.expr body) scope (cloFrom X.env.cells scope.names []) dV doc ((X.mg "__name__").getD .none) c' ctv)) (t' := tk) (fun b u e => Heap.get?_push_of_some _ e) (Nat.le_refl _) ⟨Heap.get?_push_size _ rfl, _, Heap.get?_push_size _ rfl⟩
    have sm := same_new (o := LamO h'.objs.size (PySem.W.kdv_obj "<lambda>" (X.env.qual ++ "<lambda>") params (.expr body) scope (cloFrom X.env.cells scope.names []) dV doc ((X.mg "__name__").getD .none) c' ctv)) nf
    exact h _ c' _ ctv doc _ _ I1 (ExtN.of sm) (hT.ext sm) upd_same (sm _ _ hco)
/-- a lambda as a value -/
def tMkL (T : List (Addr × Str)) (X : Cx) (k : Nat) (t : XK → TE) : TE := fun _ H Q => Tabs T H ∧ ∀ H1 f, ExtN H H1 → Tabs T H1 → ThkAt X k t H1 f → Q (.ref f) H1
theorem lam_thk {k : Nat} {f c' : Addr} {pm ctv doc dV : Value} {dt : Option Addr} {params : Arguments} {body : Expr} {scope : Scope} {t : XK → TE} (L : LamN X.N X.env.scope scope) (hb : BindQ params body scope dt dV) (hdt : DfT dt H)
    (hob : H f = some (LamO f (PySem.W.kdv_obj "<lambda>" (X.env.qual ++ "<lambda>") params (.expr body) scope (cloFrom X.env.cells scope.names []) dV doc pm c' ctv))) (hco : H c' = some (CodeO c' (X.env.qual ++ "<lambda>")))
    (hbody : ∀ (A : Around) (outer : List Env) (s : Shared) (H : Hp) (E : XK) (f c' : Addr), Room k (A.deeper (lamEnv X scope s.heap.objs.size f c')) → PE (lamX X A outer s H E scope f c') body (t E)) : ThkAt X k t H f :=
  ⟨c', _, dt, hob, hco, hdt, fun pins σ H0 s0 I ho hd => lam_thunkU I L hb hd ho fun A outer s H E hr => hbody A outer s H E f c' hr⟩
theorem lam_ev0 {T : List (Addr × Str)} {c P : Addr} {k : Nat} {params : Arguments} {body : Expr} {scope : Scope} {t : XK → TE} {pos : Pos} {E : Value → Shared → Prop} {Q : Value → Shared → Prop} (I : Inv X pins σ H s) (TB : TabB X.base X.mg c P) (hcode : X.env.code = .ref c) (hmT : (P, X.env.qual ++ "<lambda>") ∈ T) (hu : ∀ p ∈ T, p.1 = P → p.2 = X.env.qual ++ "<lambda>") (L : LamN X.N X.env.scope scope) (hdef : defaultsOf params X.env = ([], []))
    (hb : BindQ params body scope none .none)
    (hbody : ∀ (A : Around) (outer : List Env) (s : Shared) (H : Hp) (E : XK) (f c' : Addr), Room k (A.deeper (lamEnv X scope s.heap.objs.size f c')) → PE (lamX X A outer s H E scope f c') body (t E)) (hT : Tabs T H)
    (h : ∀ H1 f s', Inv X pins σ H1 s' → ExtN H H1 → Tabs T H1 → ThkAt X k t H1 f → Q (.ref f) s') : wpAny (model X.prog X.w) X.A (eval (.Lambda params body scope pos) X.env) Q E s := by
  refine PySem.W.kla_eval hdef ?_
  rw [makeFunction_eq]
  simp only [List.zip_nil_right, List.filterMap_nil, List.isEmpty_nil, if_true, pure_bind]
  exact lam_makeU I TB hcode hmT hu hT (L.has I.ok) fun f c' pm ctv doc H1 s' I1 eN T1 ho hc => h H1 f s' I1 eN T1 (lam_thk L hb (fun _ z => by cases z) ho hc hbody)
theorem pe_lamV {T : List (Addr × Str)} {c P : Addr} {k : Nat} {params : Arguments} {body : Expr} {scope : Scope} {t : XK → TE} {pos : Pos} (TB : TabB X.base X.mg c P) (hcode : X.env.code = .ref c) (hmT : (P, X.env.qual ++ "<lambda>") ∈ T) (hu : ∀ p ∈ T, p.1 = P → p.2 = X.env.qual ++ "<lambda>") (L : LamN X.N X.env.scope scope) (hdef : defaultsOf params X.env = ([], []))
    (hb : BindQ params body scope none .none)
    (hbody : ∀ (A : Around) (outer : List Env) (s : Shared) (H : Hp) (E : XK) (f c' : Addr), Room k (A.deeper (lamEnv X scope s.heap.objs.size f c')) → PE (lamX X A outer s H E scope f c') body (t E)) :
    PE X (.Lambda params body scope pos) (tMkL T X k t) :=
  ⟨fun pins s σ H Q I h => lam_ev0 I TB hcode hmT hu L hdef hb hbody h.1 fun H1 f s' I1 eN T1 th => ⟨.ref f, H1, I1, rfl, h.2 H1 f eN T1 th⟩⟩
/-- lambda y=0: body -/
theorem pe_lamVD {T : List (Addr × Str)} {c P : Addr} {k : Nat} {params : Arguments} {body : Expr} {scope : Scope} {t : XK → TE} {j : Nat} {p0 pos : Pos} (TB : TabB X.base X.mg c P) (hcode : X.env.code = .ref c) (hmT : (P, X.env.qual ++ "<lambda>") ∈ T) (hu : ∀ p ∈ T, p.1 = P → p.2 = X.env.qual ++ "<lambda>") (L : LamN X.N X.env.scope scope) (hd : params.defaults = [.Constant (.int 0) j p0]) (hkd : params.kw_defaults = [])
    (hb : ∀ T0, BindQ params body scope (some T0) (.ref T0))
    (hbody : ∀ (A : Around) (outer : List Env) (s : Shared) (H : Hp) (E : XK) (f c' : Addr), Room k (A.deeper (lamEnv X scope s.heap.objs.size f c')) → PE (lamX X A outer s H E scope f c') body (t E)) :
    PE X (.Lambda params body scope pos) (tMkL T X k t) := by
  refine ⟨fun pins s σ H Q I h => PySem.W.kdv_lam (by rw [hd]; rfl) hkd ?_⟩
  rw [hd]
  refine PySem.W.kdv_all1 (thn (pe_int.run pins s σ H (fun v H1 => v = .int 0 ∧ H1 = H) I ⟨rfl, rfl⟩) fun u s1 ⟨v, H1, I1, r1, ev, eH⟩ => PySem.W.kdv_all0 ?_)
  subst ev
  rw [eH] at I1
  rw [makeFunction_eq]
  simp only [List.zip_nil_right, List.filterMap_nil, List.isEmpty_nil, List.isEmpty_cons, Bool.false_eq_true, if_true, if_false, pure_bind]
  refine wpAny_bind (wpAny_newTextTuple ?_)
  have nt : H s1.heap.objs.size = none := I1.hok.fresh (Nat.le_refl _)
  have I2 := I1.laid (a := s1.heap.objs.size) (o := .tup [.int 0]) (t' := s1.toks) (h' := s1.heap.push { cls := .type "tuple", data := .seq [u].toArray }) (fun b u e => Heap.get?_push_of_some _ e) (Nat.le_refl _) ⟨by show 1 ≤ sizeLine; decide, [u], .cons r1 .nil, ⟨_, Heap.get?_push_size _ rfl, rfl, _, rfl⟩⟩
  have sm := same_new (o := .tup [.int 0]) nt
  refine lam_makeU I2 TB hcode hmT hu (h.1.ext sm) (L.has I2.ok) fun f c' pm ctv doc H1 s' I1 eN T1 ho hc => ⟨.ref f, H1, I1, rfl, h.2 H1 f ((ExtN.of sm).trans eN) T1 (lam_thk L (hb _) (fun T0 z => ?_) ho hc hbody)⟩
  cases z
  exact eN _ _ upd_same (fun _ z => by cases z)
/-- x(lambda: body) -/
theorem pe_lamU {T : List (Addr × Str)} {TT : (XK → Hp → VK → Prop) → Hp → VK → Prop} {x : Str} {g c P : Addr} {k m : Nat} {params : Arguments} {body : Expr} {scope : Scope} {t : XK → TE} {p lpos pos : Pos} (G : FnU X.prog X.w X.K X.mg X.base m (k + 1) g TT) (hg : Gl X x) (hm : X.mg x = some (.ref g)) (hk : PySem.W.keepIn X.K (.ref g) = true)
    (TB : TabB X.base X.mg c P) (hcode : X.env.code = .ref c) (hmT : (P, X.env.qual ++ "<lambda>") ∈ T) (hu : ∀ p ∈ T, p.1 = P → p.2 = X.env.qual ++ "<lambda>") (hr : Room m X.A) (L : LamN X.N X.env.scope scope) (hdef : defaultsOf params X.env = ([], [])) (hb : BindQ params body scope none .none)
    (hbody : ∀ (A : Around) (outer : List Env) (s : Shared) (H : Hp) (E : XK) (f c' : Addr), Room k (A.deeper (lamEnv X scope s.heap.objs.size f c')) → PE (lamX X A outer s H E scope f c') body (t E))
    (hdb : (x == ("__debug__" : Str)) = false := by decide) : PE X (.Call (.Name x p) [.Lambda params body scope lpos] [] pos) (tLam T TT t) := by
  refine ⟨fun pins s σ H Q I h => ?_⟩
  obtain ⟨hT, h⟩ := h
  refine wpAny_Call_Name_kw (ld_glob I hg hm (PySem.W.callWith_K (h₀ := X.base) I.ok.mod.kin hk ?_ (by rfl) (by rfl)) hdb)
  show wpAny _ _ (spliced ((false, eval (.Lambda params body scope lpos) X.env) :: backTo pos (starEach [] X.env))) _ _ s
  refine Calls.spliced_cons (lam_ev0 I TB hcode hmT hu L hdef hb hbody hT fun H1 f s' I1 eN T1 th => Calls.spliced_nil ⟨I1.kIn, ?_⟩)
  obtain ⟨c', ob, dt, h1, h2, h3, h4⟩ := th
  refine wpAny_call (codeAny_mono (G.run (h4 pins σ H1 s' I1 h1 h3) X.A X.stack s' H1 Q hr I1.env0 Un.refl (fun b hb => .inl hb) h2 (h H1 eN T1)) fun r s2 hq => ?_)
  cases r with
  | error e => exact (show False from hq).elim
  | ok fl =>
    cases fl with
    | ret u => exact I1.after hq
    | next => exact False.elim hq
    | brk => exact False.elim hq
    | cont => exact False.elim hq
/-- x(a) in a comprehension's block, a a lambda of the def -/
def tAsk (X : Cx) (k : Nat) (TT : (XK → Hp → VK → Prop) → Hp → VK → Prop) (i : Nat) (σ0 : L2.St) : TE := fun σ2 H Q => ∃ (f : Addr) (t : XK → TE), σ2[i]? = some (some (.ref f)) ∧ ThkAt X k t H f ∧ TT (fun E H' Q' => t E σ0 H' Q') H Q
theorem pe_ask {TT : (XK → Hp → VK → Prop) → Hp → VK → Prop} {x a : Str} {g : Addr} {k m i : Nat} {scope : Scope} {C : Addr} {cl : List (Str × Addr)} {fp : List Addr} {p p1 pos : Pos} (I : Inv X pins σ H s) (hfp : ∀ b ∈ fp, FpOk X pins H b) (G : FnU X.prog X.w X.K X.mg X.base m (k + 1) g TT) (hr : Room m X.A) (hm : X.mg x = some (.ref g)) (hk : PySem.W.keepIn X.K (.ref g) = true) (hg : Gl (X.blk s H scope (compEnvC scope cl C X.env) fp) x)
    (hN : X.N[i]? = some a) (hv : Vis (compEnvC scope cl C X.env).scope a) (hd : (a == ("__debug__" : Str)) = false := by decide) (hcd : (a == ("__classdict__" : Str)) = false := by decide) (hdb : (x == ("__debug__" : Str)) = false := by decide) :
    PE (X.blk s H scope (compEnvC scope cl C X.env) fp) (.Call (.Name x p) [.Name a p1] [] pos) (tAsk X k TT i σ) := by
  refine ⟨fun pinsZ sZ σZ HZ Q IZ h => ?_⟩
  obtain ⟨f, t, hsl, th, ht⟩ := h
  have ha : PA (X.blk s H scope (compEnvC scope cl C X.env) fp) [.Name a p1] (tCons (tVar i) tNil) := pa_cons (pe_var hN hv hd hcd) pa_nil
  refine wpAny_Call_Name_kw (ld_glob IZ hg hm (PySem.W.callWith_K (h₀ := X.base) IZ.ok.mod.kin hk (thn (ha.run pos pinsZ sZ σZ HZ (fun vs H1 => vs = [V.ref f] ∧ H1 = HZ) IZ ⟨.ref f, hsl, rfl, rfl⟩) fun us s1 ⟨vs, H1, I1, r1, ev, eH⟩ => ⟨I1.kIn, ?_⟩) (by rfl) (by rfl)) hdb)
  subst ev
  rw [eH] at I1
  rw [Vals.ref1 r1]
  have J : Inv X pins σ HZ s1 := I.call' (ch := fp) I1.os I1.base I1.hok I1.bare fun b hb => ⟨(hfp b hb).2.2.2.1, (hfp b hb).2.1, (hfp b hb).2.2.2.2.1, (hfp b hb).2.2.2.2.2⟩
  obtain ⟨c', ob, dt, h1, h2, h3, h4⟩ := th
  show wpAny _ _ (call (.ref g) [.ref f]) _ _ _
  refine wpAny_call (codeAny_mono (G.run (h4 pins σ HZ s1 J h1 h3) X.A X.stack s1 HZ Q hr I1.env0 Un.refl (fun b hb => .inl hb) h2 ht) fun r s' hq => ?_)
  cases r with
  | error e => exact (show False from hq).elim
  | ok fl =>
    cases fl with
    | ret u => exact I1.after hq
    | next => exact False.elim hq
    | brk => exact False.elim hq
    | cont => exact False.elim hq
end
end Hr

set_option Elab.async false
set_option linter.all false
set_option maxRecDepth 100000
set_option maxHeartbeats 4000000
/-! a comprehension whose element leans on the def's own context -/
namespace Hr
open PySem PySem.Spec PyProof.Rows L2 LamX
section
variable {X : Cx}
theorem pe_lcI {elt tg iter : Expr} {scope : Scope} {own : List (Str × Nat)} {pos : Pos} {wi : TI} {g : TG} {te : L2.St → TE} (hc : X.calm = true) (hN : X.N.Nodup) (hi : PI X tg iter wi) (ok : BlkOk X.N X.env.scope scope own)
    (hg : ∀ (u : Shared) (G : Hp) (C : Addr) (cl : List (Str × Addr)) (fq : List Addr), PG (X.blk u G scope (compEnvC scope cl C X.env) fq) tg g)
    (he : ∀ (pins : List (Addr × Obj)) (σ : L2.St) (u : Shared) (G : Hp) (C : Addr) (cl : List (Str × Addr)) (fq : List Addr), Inv X pins σ G u → (∀ b ∈ fq, FpOk X pins G b) → PE (X.blk u G scope (compEnvC scope cl C X.env) fq) elt (te σ))
    (hs : ∀ x, foldedSetIterable iter X.env x = pure x := by intro _; rfl) :
    PE X (.ListComp elt [⟨tg, iter, [], 0⟩] scope pos) (fun σ H Q => tLc wi g tYes (te σ) (own.map (·.2)) σ H Q) := by
  refine ⟨fun pins s σ H Q J0 q0 => ?_⟩
  rw [eval_ListComp]
  have cap : ∀ y ∈ scope.names, y.2 = .free → ∃ c, X.env.cells.lookup y.1 = some c := fun y hy e => (ok.free y hy e).elim (fun k => J0.ok.has _ (.inl k)) fun k => J0.ok.has _ (.inr k)
  refine wpAny_comprehension_free (use := none) rfl hs (closure_ok cap) ok.kind (fun y hy e => by rw [ok.uniq y hy, e]) (thn (hi.run pins s σ H _ J0 q0) fun xv sA hA => thn hA fun iv sB hB => ?_)
  obtain ⟨it, fq, tn, J, GB, rfl, JB, T, tB, fB, qB⟩ := hB
  refine wpAny_newObj_type (newEnv_comp ?_) (by show 0 ≤ sizeLine; decide)
  obtain ⟨L, eL⟩ : ∃ L, L = sB.heap.objs.size := ⟨_, rfl⟩
  have nL : GB L = none := JB.hok.fresh (Nat.le_of_eq eL.symm)
  obtain ⟨W, ⟨m0, w0⟩, turn⟩ := qB L nL
  obtain ⟨sC, esC⟩ : ∃ sC : Shared, sC = { sB with heap := sB.heap.push { cls := .type "list", data := .seq ([] : List Value).toArray } } := ⟨_, rfl⟩
  have hC : sC.heap = sB.heap.push { cls := .type "list", data := .seq ([] : List Value).toArray } := by rw [esC]
  have upC : ∀ b o, sB.heap.get? b = some o → sC.heap.get? b = some o := fun b o e => by rw [hC]; exact Heap.get?_push_of_some _ e
  have JC : Inv X pins σ (upd GB L (.lst [])) sC := by
    rw [esC]
    refine JB.laid (t' := sB.toks) (fun b o e => Heap.get?_push_of_some _ e) (Nat.le_of_eq eL.symm) ⟨Nat.zero_le _, [], 0, .nil, ?_⟩
    rw [eL]
    exact Heap.get?_push_size _ rfl
  have low : ∀ b ∈ fq, b < sB.heap.objs.size := fun b hb => by
    obtain ⟨o, e, _⟩ := T.obj _ _ tB b hb
    exact Heap.lt_size e
  have fC : ∀ b ∈ fq, FpOk X pins (upd GB L (.lst [])) b ∧ b < sC.heap.objs.size := fun b hb => by
    refine ⟨⟨?_, (fB b hb).2⟩, by rw [hC, Heap.size_push]; exact Nat.lt_succ_of_lt (low b hb)⟩
    rw [upd_ne (by rw [eL]; exact Nat.ne_of_lt (low b hb))]
    exact (fB b hb).1
  have tC : tn 0 sC.heap := T.keep _ _ _ tB fun b _ o e => upC b o e
  have JD := block_start JC ok hN fC
  obtain ⟨cl, ecl⟩ : ∃ cl, cl = cellsFrom (sC.heap.objs.size + 1) scope.names (cloFrom X.env.cells scope.names []) := ⟨_, rfl⟩
  obtain ⟨GC, eGC⟩ : ∃ GC, GC = upd GB L (.lst []) := ⟨_, rfl⟩
  rw [← ecl] at JD
  rw [← eGC] at JD JC fC w0
  have rg := hg sC GC sC.heap.objs.size cl fq
  have re := he pins σ sC GC sC.heap.objs.size cl fq JC fun b hb => (fC b hb).1
  have goal : codeAny (model X.prog X.w) X.A (.compStart (.ListComp elt [⟨tg, iter, [], 0⟩] scope pos) 0 (.ref it) (.ref L) (compEnvC scope cl sC.heap.objs.size X.env)) (compPost (model X.prog X.w) X.A X.xe none (EP X pins σ Q) (.ref L) sC.heap.objs.size) { sC with heap := pushCells (sC.heap.push { cls := .type "dict", data := .dict #[] }) scope.names } := ?_
  · rw [ecl, eL, esC] at goal
    exact goal
  obtain ⟨ce, ece⟩ : ∃ ce, ce = compEnvC scope cl sC.heap.objs.size X.env := ⟨_, rfl⟩
  rw [← ece] at JD rg re
  rw [← ece]
  have lce : ce.locals = sC.heap.objs.size := by rw [ece]; rfl
  obtain ⟨sD, esD⟩ : ∃ sD : Shared, sD = { sC with heap := pushCells (sC.heap.push { cls := .type "dict", data := .dict #[] }) scope.names } := ⟨_, rfl⟩
  rw [← esD] at JD
  rw [← esD]
  have tD : tn 0 sD.heap := T.keep _ _ _ tC fun b _ o e => by rw [esD]; exact pushCells_keeps _ _ _ _ (Heap.get?_push_of_some _ e)
  have at_ : ∀ {σ' : L2.St} {G' : Hp} {s' : Shared}, Inv (X.blk sC GC scope ce fq) [] σ' G' s' → (∀ b ∈ fq, G' b = none) → ∀ b ∈ fq, FpOk (X.blk sC GC scope ce fq) [] G' b := fun {σ' G' s'} K' z b hb =>
    ⟨z b hb, (K'.ok.exf b hb).1, K'.ok.exfs b hb, .inl hb, fun y c e => (K'.ok.exf b hb).2 y c e, fun r hr => absurd (show r ∈ ([] : List (Addr × Obj)) ++ [] from hr) (by simp)⟩
  have run : codeAny (model X.prog X.w) X.A (.compLoop (.ListComp elt [⟨tg, iter, [], 0⟩] scope pos) 0 (.ref it) (.ref L) ce) (compPost (model X.prog X.w) X.A X.xe none (EP X pins σ Q) (.ref L) sC.heap.objs.size) sD := by
    refine compLoop_any (fun n u => ∃ i G, Inv (X.blk sC GC scope ce fq) [] (wipe σ (own.map (·.2))) G u ∧ tn i u.heap ∧ (∀ b ∈ fq, G b = none) ∧ W i n G) ?_ m0 ⟨0, GC, JD, tD, fun b hb => (fC b hb).1.1, w0⟩
    rintro n u1 ⟨i, G1, K1, t1, z1, w1⟩
    rcases turn i n G1 w1 with ⟨stop, qq⟩ | ⟨go, Nx, hNx, step⟩
    · refine thnF (T.done (X.blk sC GC scope ce fq) rfl rfl rfl hc i [] u1 _ G1 (fun _ _ => False) K1 (at_ K1 z1) t1 stop) fun r u2 ⟨er, K2⟩ => ?_
      rw [er]
      have K3 : Inv X pins σ G1 u2 := JC.call' (ch := fq) K2.os K2.base K2.hok K2.bare fun b hb => ⟨(fC b hb).1.2.2.2.1, (fC b hb).1.2.1, (fC b hb).1.2.2.2.2.1, (fC b hb).1.2.2.2.2.2⟩
      have nC : G1 sC.heap.objs.size = none := by rw [← lce]; exact K2.free
      obtain ⟨m, hn, _⟩ := K2.loc
      have hn : u2.heap.Ns sC.heap.objs.size m := by rw [← lce]; exact hn
      obtain ⟨f0, f1, f2, f3, f4, f5⟩ := JC.fpOk (Nat.le_refl _) nC
      exact ⟨m, hn, fun h'' sb => ⟨.ref L, G1, K3.turned (t' := u2.toks) (fun b o hb e => (sb.2 b hb).trans e) f0 f1 f3 f4 f5, rfl, qq⟩⟩
    · refine thnF (T.item (X.blk sC GC scope ce fq) rfl rfl rfl hc i [] u1 _ G1 (fun _ _ => False) K1 (at_ K1 z1) t1 go) fun r u2 ⟨v, er, h2⟩ => ?_
      rw [er]
      refine thnF h2 fun _ u3 ⟨x, G3, K3, r3, y3, t3, z3⟩ => ?_
      refine thnF (rg.run _ u3 _ G3 x v _ (K3.pinned (at_ K3 z3) (T.obj _ _ t3)) r3 (step x G3 y3)) fun _ u4 ⟨σ4, G4, K4, hw4, q4⟩ => ?_
      refine thnF ((pts_nil (X := X.blk sC GC scope ce fq)).run _ u4 σ4 G4 (fun b G => b = true ∧ G = G4) K4 ⟨rfl, rfl⟩) fun b u5 ⟨G5, K5, eb, eG⟩ => ?_
      rw [eG] at K5
      rw [eb, if_pos rfl]
      have q4 : te σ σ4 G4 fun y G6 => ∃ acc, G6 L = some (.lst acc) ∧ acc.length < sizeLine ∧ Nx (upd G6 L (.lst (acc ++ [y]))) := q4
      refine thnF (re.run _ u5 σ4 G4 _ K5 q4) fun z u6 ⟨yv, G6, K6, r6, acc, hL6, hz6, nx⟩ => ?_
      refine app_ok (X := X.blk sC GC scope ce fq) K6 hL6 hz6 r6 fun u7 K7 => ?_
      obtain ⟨m', hm, w'⟩ := hNx _ nx
      have pin' : ∀ b ∈ fq, ∀ o, u3.heap.get? b = some o → u7.heap.get? b = some o ∧ upd G6 L (.lst (acc ++ [yv])) b = none := fun b hb o e =>
        let z := K7.pin (b, o) (List.mem_append_right _ (List.mem_append_right _ (mem_pinsAt hb e)))
        ⟨z.1, z.2.1⟩
      refine ⟨m', hm, i + 1, _, (K7.unpinned (pins := [])).weak (by rw [← hw4, wipe_length]) (fun j v e => ?_), T.keep _ _ _ t3 fun b hb o e => (pin' b hb o e).1, fun b hb => ?_, w'⟩
      · rw [← hw4] at e
        exact (wipe_some e).1
      · obtain ⟨o, e, _⟩ := T.obj _ _ t3 b hb
        exact (pin' b hb o e).2
  exact codeAny_compStart_list run (T.self X.A 0 _ _ _ tD run)
end
end Hr

set_option Elab.async false
set_option linter.all false
set_option maxRecDepth 100000
set_option maxHeartbeats 4000000
/-! the same in the law -/
namespace Hr
open PySem PySem.Spec PyProof.Rows L2 LamX
section
variable {X : Cx} {c PL : Addr} {k m : Nat} {params : Arguments} {body : Expr} {scope : Scope} {t : XK → TE} {p lpos pos : Pos}
/-- x(lambda: body) -/
theorem pe_lamLU {TT : (XK → Hp → VK → Prop) → Hp → VK → Prop} {x : Str} {g : Addr} (G : FnU X.prog X.w X.K X.mg X.base m (k + 1) g TT) (hg : Gl X x) (hm : X.mg x = some (.ref g)) (hk : PySem.W.keepIn X.K (.ref g) = true)
    (TB : TabB X.base X.mg c PL) (hcode : X.env.code = .ref c) (hq : X.env.qual = ("law" : Str) ++ ".<locals>.") (hr : Room m X.A) (L : LamN X.N X.env.scope scope) (hdef : defaultsOf params X.env = ([], [])) (hb : BindQ params body scope none .none)
    (hbody : ∀ (A : Around) (outer : List Env) (s : Shared) (H : Hp) (E : XK) (f c' : Addr), Room k (A.deeper (lamEnv X scope s.heap.objs.size f c')) → PE (lamX X A outer s H E scope f c') body (t E))
    (hdb : (x == ("__debug__" : Str)) = false := by decide) : PE X (.Call (.Name x p) [.Lambda params body scope lpos] [] pos) (tLam (tabT PL) TT t) :=
  pe_lamU G hg hm hk TB hcode (by rw [hq]; exact List.mem_singleton.mpr rfl) (fun p hp _ => by rw [List.mem_singleton.mp hp, hq]) hr L hdef hb hbody hdb
/-- lambda: body -/
theorem pe_lamVL (TB : TabB X.base X.mg c PL) (hcode : X.env.code = .ref c) (hq : X.env.qual = ("law" : Str) ++ ".<locals>.") (L : LamN X.N X.env.scope scope) (hdef : defaultsOf params X.env = ([], [])) (hb : BindQ params body scope none .none)
    (hbody : ∀ (A : Around) (outer : List Env) (s : Shared) (H : Hp) (E : XK) (f c' : Addr), Room k (A.deeper (lamEnv X scope s.heap.objs.size f c')) → PE (lamX X A outer s H E scope f c') body (t E)) :
    PE X (.Lambda params body scope pos) (tMkL (tabT PL) X k t) :=
  pe_lamV TB hcode (by rw [hq]; exact List.mem_singleton.mpr rfl) (fun p hp _ => by rw [List.mem_singleton.mp hp, hq]) L hdef hb hbody
/-- lambda y=0: body -/
theorem pe_lamDL {j : Nat} {p0 : Pos} (TB : TabB X.base X.mg c PL) (hcode : X.env.code = .ref c) (hq : X.env.qual = ("law" : Str) ++ ".<locals>.") (L : LamN X.N X.env.scope scope) (hd : params.defaults = [.Constant (.int 0) j p0]) (hkd : params.kw_defaults = []) (hb : ∀ T0, BindQ params body scope (some T0) (.ref T0))
    (hbody : ∀ (A : Around) (outer : List Env) (s : Shared) (H : Hp) (E : XK) (f c' : Addr), Room k (A.deeper (lamEnv X scope s.heap.objs.size f c')) → PE (lamX X A outer s H E scope f c') body (t E)) :
    PE X (.Lambda params body scope pos) (tMkL (tabT PL) X k t) :=
  pe_lamVD TB hcode (by rw [hq]; exact List.mem_singleton.mpr rfl) (fun p hp _ => by rw [List.mem_singleton.mp hp, hq]) L hd hkd hb hbody
end
theorem dl_ext {H H' : Hp} {S : List Addr} (e : ExtN H H') : ExtN (dl H S) H' := fun a o h n => e a o (dl_some h).2 n
end Hr

set_option Elab.async false
set_option linter.all false
set_option maxRecDepth 100000
set_option maxHeartbeats 4000000
/-! list + list, where the lists may only be read -/
namespace Hr
open PySem PySem.Spec PyProof.Rows L2
def rCatL (K : PySem.W.Frag) : R2 := fun x y H Q => ∃ l b xs zs, x = .ref l ∧ y = .ref b ∧ SqL K H l xs ∧ SqL K H b zs ∧ xs.length + zs.length ≤ 1000 ∧ ∀ p, H p = none → Q (.ref p) (upd H p (.lst (xs ++ zs)))
theorem op_catL {X : Cx} : OpR X (binaryOp .Add) (rCatL X.K) := by
  intro pins s σ H x y v u Q I rx ry h
  obtain ⟨l, b, xs, zs, rfl, rfl, hH, hB, hz, q⟩ := h
  cases rx
  cases ry
  obtain ⟨its, r, ⟨⟨c1, d1, da1, sl1⟩, n1, ho1, hc1, hd1, hs1⟩, z1⟩ := I.list hH
  obtain ⟨jts, r', ⟨⟨c2, d2, da2, sl2⟩, n2, ho2, hc2, hd2, hs2⟩, z2⟩ := I.list hB
  simp only at hc1 hs1 hc2 hs2
  subst hc1 hs1 hc2 hs2
  have hl := r.length
  have hl' := r'.length
  have hsz : its.length + jts.length ≤ sizeLine := Nat.le_trans (show its.length + jts.length ≤ 1000 by omega) (by decide)
  refine concat_meets ⟨_, ho1, rfl⟩ ⟨_, ho2, rfl⟩ noFill_list_add seq_list_add PySem.F.slot_list_add PySem.F.entry_list_add (PySem.F.args_list_add_2 _ _) (list_addW l b its.toArray jts.toArray n1 n2 d1 d2 sl1 sl2 (by simpa using hsz)) ⟨ho1, ho2, ?_⟩
  have ea : its.toArray ++ jts.toArray = (its ++ jts).toArray := by simp
  rw [ea]
  exact ⟨.ref _, _, I.lnew (t' := s.toks) (r.append r') (by rw [List.length_append]; omega), rfl, q _ I.fresh⟩
theorem op_catLK {X : Cx} {K : PySem.W.Frag} (e : X.K = K := by rfl) : OpR X (binaryOp .Add) (rCatL K) := e ▸ op_catL
end Hr

set_option Elab.async false
set_option linter.all false
set_option maxRecDepth 100000
set_option maxHeartbeats 4000000
/-! methods with a keyword-only default; o.m(e, .., k = v) -/
namespace Hr
open PySem PySem.Spec PyProof.Rows L2
/-- a def with one keyword-only default and no other -/
theorem funK_mk {K : PySem.W.Frag} {x qual y : Str} {st : Stmt} {f D : Addr} {oc doc pm cdv ct u : Value} {od an : Option Addr} {osl : Array (Option Value)} {v : V}
    (l : K.lookup f = some ⟨oc, od, .func (PySem.W.fnOf x qual (defArgs st) (defBody st) (defScope st) .none (.ref D) doc pm an cdv ct), osl⟩)
    (c : PySem.W.codeIn K cdv qual = true) (k : PySem.W.keepIn K (.ref f) = true) (hq : PySem.W.nsIn K D y = some (some u)) (r : RelV v u) :
    FunD K x qual (defArgs st) (defBody st) (defScope st) [] [(y, v)] f (PySem.W.fnOf x qual (defArgs st) (defBody st) (defScope st) .none (.ref D) doc pm an cdv ct) :=
  ⟨⟨oc, od, .none, .ref D, doc, pm, an, cdv, ct, osl, rfl, l, c, .inl ⟨rfl, rfl⟩, .inr ⟨D, rfl, fun q hq' => by rw [List.mem_singleton.mp hq']; exact ⟨u, hq, r⟩⟩⟩, k⟩
def tMethN (C : Addr) (m : Str) (n k : Nat) (sp : Sp) (gV : List V → List V → List V) (E : XK) (ta : TE) (t tk : TA) : TE := fun σ H Q => ta σ H fun x H1 => ∃ a dx fs, x = .ref a ∧ H1 a = some (.ins C dx fs) ∧ fs.lookup m = none ∧
  t σ H1 fun vs H2 => tk σ H2 fun zs H3 => vs.length = n ∧ zs.length = k ∧ sp (gV (x :: vs) zs) H3 Q E
section
variable {X : Cx} {CX : CXT} {k n : Nat} {f C : Addr} {fd : FuncData} {ps ks : List Str} {sp : Sp} {E : XK} {m : Str} {pos apos : Pos} {o e : Expr} {es : List Expr} {kws : List Keyword} {ta : TE} {t tk : TA} {g : List Value → List Value → List Value} {gV : List V → List V → List V}
theorem pe_methN {pl : Sem Bool} (he : PE X o ta) (c : Cls X.K C) (hm : Meth X.K C m f) (F : FnOk X.prog X.w X.K X.mg X.base CX k f fd ps sp) (hr : Room k X.A) (hb : KBn X.K fd ps (n + 1) ks g gV) (hx : Passes CX X E) (ha : PA X (e :: es) t) (hkw : PK X kws tk)
    (hall : (backToKw pos (keywordEach kws X.env)).all (·.1.isSome) = true := by rfl) (hks : (backToKw pos (keywordEach kws X.env)).filterMap (·.1) = ks := by rfl)
    (hst : starEach (e :: es) X.env = (false, eval e X.env) :: starEach es X.env := by rfl) (hpl : ((backTo pos (starEach (e :: es) X.env)).any (·.1) || (backToKw pos (keywordEach kws X.env)).any (·.1.isNone)) = false := by rfl)
    (ht : eval (.Call (.Attribute o m apos) (e :: es) kws pos) X.env = (do
      let ov ← eval o X.env
      standAt apos.atName
      let (f, first) ← holding [ov] (getMethod ov m pl)
      callWith pos f first (backTo pos (starEach (e :: es) X.env)) (backToKw pos (keywordEach kws X.env))) := by rfl) :
    PE X (.Call (.Attribute o m apos) (e :: es) kws pos) (tMethN C m n ks.length sp gV E ta t tk) := by
  refine ⟨fun pins s σ H Q I h => ?_⟩
  refine PySem.W.methodCall_KW (pl := pl) (thn (he.run pins s σ H _ I h) fun u s1 ⟨x, H1, I1, rx, a, dx, fs, ex, ea, l, q⟩ => ?_) ht
  subst ex
  obtain rfl : u = Value.ref a := rx
  refine getmeth_ok I1 ea c hm l ?_
  refine PySem.W.callWith_KW (first := [.ref a]) (h₀ := X.base) I.ok.mod.kin hm.kp hall (thn (ha.run pos pins s1 σ H1 _ I1 q) fun us s2 ⟨vs, H2, I2, r, q2⟩ => ?_) hpl hst
  refine thn (hkw.run pos pins s2 σ H2 _ I2 q2) fun ws s3 ⟨zs, H3, I3, rz, l1, l2, q3⟩ => ⟨I3.kIn, ?_⟩
  rw [hks]
  exact run_fnN (us := .ref a :: us) (vs := .ref a :: vs) F hr hb hx I3 (.cons rfl r) rz (by rw [List.length_cons, l1]) l2 q3
end
/-- as okN, with errors -/
theorem okNR {P : Program} {w : World} {K : PySem.W.Frag} {mg : Str → Option Value} {base : Heap} {x qual : Str} {params : Arguments} {body : List Stmt} {scope : Scope} {dvs : List V} {kws : List (Str × V)} {f : Addr} {fd : FuncData} {N ps : List Str} {k : Nat} {sp : Sp} (F : FunD K x qual params body scope dvs kws f fd) (S : FnScope N ps scope) (len : ∀ vs H Q E, sp vs H Q E → vs.length = ps.length)
    (hbody : ∀ (cdv : Value) (A : Around) (outer : List Env) (s : Shared) (H : Hp) (vs : List V) (Q : VK) (E : XK), Room k (A.deeper (envOfC qual scope s.heap.objs.size f cdv)) → L2N.Takes (cxOf (L2N.CX P w) P w K mg base N qual scope f cdv A outer s H E) (fun cls d _ H' => E cls d H') → sp vs H Q E →
      ∃ t, PSs (cxOf (L2N.CX P w) P w K mg base N qual scope f cdv A outer s H E) body t ∧ t { nx := fun _ H' => Q .non H', rt := Q } (start N vs) H) : FnOk P w K mg base (L2N.CX P w) (k + 1) f fd ps sp := F.ok S len fun cdv A outer s H vs Q E hr hsp => hbody cdv A outer s H vs Q E hr (L2N.takes_of rfl rfl rfl rfl) hsp
/-- tuple(s) of a list (the new object known) or of a tuple (itself) -/
def rTupFA (K : PySem.W.Frag) : List V → Hp → VK → Prop := fun xs H Q => rTupF K xs H Q ∨ ∃ p ys, xs = [.ref p] ∧ SqT K H p ys ∧ Q (.ref p) H
theorem call_tupFAK {X : Cx} {K : PySem.W.Frag} (e : X.K = K := by rfl) : CallR X (.type "tuple") (rTupFA K) := by
  subst e
  intro pins s σ H xs us Q I r h
  rcases h with h | ⟨p, ys, rfl, h1, h2⟩
  · exact call_tupF pins s σ H xs us Q I r h
  · exact call_tuple_ofK (K := X.K) rfl pins s σ H [.ref p] us Q I r ⟨p, ys, rfl, .inr ⟨h1, h2⟩⟩
end Hr

set_option Elab.async false
set_option linter.all false
set_option maxRecDepth 100000
set_option maxHeartbeats 4000000
/-! o.m(k = v, ..) without positional values; x == y by the class's own def -/
namespace Hr
open PySem PySem.Spec PyProof.Rows L2
def rot3 {α : Type} : List α → List α
  | [a, b, c] => [b, a, c]
  | l => l
theorem rot3_rel {vs : List V} {us : List Value} (r : Vals vs us) : Vals (rot3 vs) (rot3 us) := by
  cases r with
  | nil => exact .nil
  | cons a r =>
    cases r with
    | nil => exact .cons a .nil
    | cons b r =>
      cases r with
      | nil => exact .cons a (.cons b .nil)
      | cons c r =>
        cases r with
        | nil => exact .cons b (.cons a (.cons c .nil))
        | cons d r => exact .cons a (.cons b (.cons c (.cons d r)))
section
variable {X : Cx} {CX : CXT} {k : Nat} {f C : Addr} {fd : FuncData} {ps ks : List Str} {sp : Sp} {E : XK} {m : Str} {pos apos : Pos} {o : Expr} {kws : List Keyword} {ta : TE} {tk : TA} {g : List Value → List Value → List Value} {gV : List V → List V → List V}
theorem pe_methN0 {pl : Sem Bool} (he : PE X o ta) (c : Cls X.K C) (hm : Meth X.K C m f) (F : FnOk X.prog X.w X.K X.mg X.base CX k f fd ps sp) (hr : Room k X.A) (hb : KBn X.K fd ps 1 ks g gV) (hx : Passes CX X E) (hkw : PK X kws tk)
    (hall : (backToKw pos (keywordEach kws X.env)).all (·.1.isSome) = true := by rfl) (hks : (backToKw pos (keywordEach kws X.env)).filterMap (·.1) = ks := by rfl)
    (hpl : ((backTo pos (starEach [] X.env)).any (·.1) || (backToKw pos (keywordEach kws X.env)).any (·.1.isNone)) = false := by rfl)
    (ht : eval (.Call (.Attribute o m apos) [] kws pos) X.env = (do
      let ov ← eval o X.env
      standAt apos.atName
      let (f, first) ← holding [ov] (getMethod ov m pl)
      callWith pos f first (backTo pos (starEach [] X.env)) (backToKw pos (keywordEach kws X.env))) := by rfl) :
    PE X (.Call (.Attribute o m apos) [] kws pos) (tMethN C m 0 ks.length sp gV E ta tNil tk) := by
  refine ⟨fun pins s σ H Q I h => ?_⟩
  refine PySem.W.methodCall_KW (pl := pl) (thn (he.run pins s σ H _ I h) fun u s1 ⟨x, H1, I1, rx, a, dx, fs, ex, ea, l, q⟩ => ?_) ht
  subst ex
  obtain rfl : u = Value.ref a := rx
  refine getmeth_ok I1 ea c hm l ?_
  refine PySem.W.callWith_KW0 (first := [.ref a]) (h₀ := X.base) I.ok.mod.kin hm.kp hall ?_ hpl
  refine thn (hkw.run pos pins s1 σ H1 _ I1 q) fun ws s3 ⟨zs, H3, I3, rz, l1, l2, q3⟩ => ⟨I3.kIn, ?_⟩
  rw [hks]
  exact run_fnN (us := [.ref a]) (vs := [.ref a]) F hr hb hx I3 (.cons rfl .nil) rz rfl l2 q3
end
section
variable {X : Cx} {CX : CXT} {n : Nat} {f C : Addr} {fd : FuncData} {ps : List Str} {sp : Sp} {E : XK}
/-- x op y of two instances of the class at C, whose own def answers -/
def rOwnE (C : Addr) (sp : Sp) (E : XK) : R2 := fun x y H Q => ∃ a dx fs b dy gs, x = .ref a ∧ y = .ref b ∧ H a = some (.ins C dx fs) ∧ H b = some (.ins C dy gs) ∧ sp [x, y] H Q E
theorem op_ownE {op : CmpOp} (hop : ∀ a b, compareOp op a b = richCompare op a b) (m : Meth X.K C (cmpInfo op).2.1 f) (F : FnOk X.prog X.w X.K X.mg X.base CX n f fd ps sp) (hb : Binds X.K fd ps []) (hr : Room n X.A) (hx : Passes CX X E) : OpR X (compareOp op) (rOwnE C sp E) := by
  intro pins s σ H x y v u Q I rx ry h
  obtain ⟨a, dx, fs, b, dy, gs, rfl, rfl, ha, hb', q⟩ := h
  cases (show v = Value.ref a from rx)
  cases (show u = Value.ref b from ry)
  obtain ⟨mA, J, _⟩ := ins_get I.hok ha
  obtain ⟨mB, J', _⟩ := ins_get I.hok hb'
  obtain ⟨od, J, _⟩ := J.look
  obtain ⟨od', J', _⟩ := J'.look
  obtain ⟨mm, hF⟩ := I.fr
  rw [hop]
  refine PySem.W.cmp_K (op := op) (tb := .ref C) hr.units0 hF I.ok.mod.kin J J'.type (by simp [PySem.W.notFirst]) m.at_ m.fn ?_
  have hl := F.len _ _ _ _ q
  have r2 : Vals [V.ref a, V.ref b] [Value.ref a, Value.ref b] := .cons rfl (.cons rfl .nil)
  refine wpAny_call (codeAny_mono (F.run X.A X.stack s H ⟨[.ref a, .ref b], []⟩ [.ref a, .ref b] [.ref a, .ref b] _ E hr I.env0 (by
    have := hb s [.ref a, .ref b] I.kIn (by simpa using hl)
    simpa using this) r2 q) fun r s' hq => ?_)
  cases r with
  | error e => exact hx pins σ H s e s' I hq
  | ok fl =>
    cases fl with
    | ret w =>
      obtain ⟨z, H', I', rz, qz⟩ := I.after hq
      exact SlX.cmpback rz ⟨z, H', I', rz, qz⟩
    | next => exact False.elim hq
    | brk => exact False.elim hq
    | cont => exact False.elim hq
end
/-- a, b, .. = a tuple or a list of that length -/
def gSeq (K : PySem.W.Frag) (n : Nat) (t : TGs) : TG := fun v σ H Q => ∃ a xs, v = .ref a ∧ (SqT K H a xs ∨ SqL K H a xs) ∧ xs.length = n ∧ t xs σ H Q
theorem pg_seqK {X : Cx} {K : PySem.W.Frag} {pos : Pos} {es : List Expr} {k : Nat} {t : TGs} {n : Nat} (hc : X.calm = true) (h : PGs X es t) (e : X.K = K := by rfl)
    (hn : (assignEach es X.env).length = n := by rfl) (hst : (assignEach es X.env).findIdx? (·.1) = none := by rfl) : PG X (.Tuple es k pos) (gSeq K n t) := by
  subst e
  refine ⟨fun pins s σ H v u Q I r hw => ?_⟩
  obtain ⟨a, xs, e1, hq, hl, hw⟩ := hw
  rcases hq with hq | hq
  · exact (pg_tup hc h hn hst).run pins s σ H v u Q I r ⟨a, xs, e1, hq, hl, hw⟩
  · exact (pg_lst hc h hn hst).run pins s σ H v u Q I r ⟨a, xs, e1, hq, hl, hw⟩
end Hr

set_option Elab.async false
set_option linter.all false
set_option maxRecDepth 100000
set_option maxHeartbeats 4000000
/-! texts cut at a sign, with a limit; a dict of the module whose keys are texts and whose values are numbers -/
namespace Hr
open PySem PySem.Spec PyProof.Rows L2 PySem.StrLaws PySem.Builtin PySem.Builtin.Str
/-! ### split with a limit -/
theorem tight_lim (s sub : Str) (hi limit lo : Nat) : ∀ (m cur : Nat) (st : Array Nat × Nat), ChainG s sub hi lo st.fst.toList st.snd → (st.fst.size < limit → ∀ k, st.snd ≤ k → k < cur → ¬ At s sub hi k) → st.fst.size ≤ limit → 1 ≤ sub.length →
    ChainG s sub hi lo (forIn (List.range' cur m) st (occBody s sub hi limit)).run.fst.toList (forIn (List.range' cur m) st (occBody s sub hi limit)).run.snd ∧
    (forIn (List.range' cur m) st (occBody s sub hi limit)).run.fst.size ≤ limit ∧
    ((forIn (List.range' cur m) st (occBody s sub hi limit)).run.fst.size < limit → ∀ k, (forIn (List.range' cur m) st (occBody s sub hi limit)).run.snd ≤ k → k < cur + m → ¬ At s sub hi k)
  | 0, cur, st, h, hn, hl, _ => ⟨h, hl, hn⟩
  | m + 1, cur, st, h, hn, hl, hw => by
    rw [List.range'_succ, List.forIn_cons]
    unfold occBody
    rw [show cur + (m + 1) = (cur + 1) + m by omega]
    by_cases hc : ((st.fst.size < limit ∧ st.snd ≤ cur) ∧ cur + sub.length ≤ hi) ∧ subAt s sub cur = true
    · rw [if_pos hc]
      refine tight_lim s sub hi limit lo m (cur + 1) (st.fst.push cur, cur + sub.length) ?_ (fun _ k h1 h2 => ?_) ?_ hw
      · show ChainG s sub hi lo (st.fst.push cur).toList (cur + sub.length)
        rw [Array.toList_push]
        exact chainG_snoc h hc.1.1.2 ⟨hc.1.2, hc.2⟩ (hn hc.1.1.1)
      · have h1' : cur + sub.length ≤ k := h1
        omega
      · show (st.fst.push cur).size ≤ limit
        rw [Array.size_push]
        have := hc.1.1.1
        omega
    · rw [if_neg hc]
      refine tight_lim s sub hi limit lo m (cur + 1) (st.fst, st.snd) h (fun hs k h1 h2 hA => ?_) hl hw
      by_cases hk : k < cur
      · exact hn hs k h1 hk hA
      · have ek : k = cur := by omega
        subst ek
        exact hc ⟨⟨⟨hs, h1⟩, hA.1⟩, hA.2⟩
theorem occ_lim (x y : Str) (limit : Nat) (hw : 1 ≤ y.length) : ∃ f, ChainG x y x.length 0 (occurrences x y 0 x.length limit) f ∧ (occurrences x y 0 x.length limit).length ≤ limit ∧ ((occurrences x y 0 x.length limit).length < limit → ∀ k, f ≤ k → ¬ At x y x.length k) := by
  rw [occ_eq]
  obtain ⟨k1, k2, k3⟩ := tight_lim x y x.length limit 0 (x.length + 1 - 0) 0 ((#[] : Array Nat), 0) rfl (fun _ k _ h => by omega) (Nat.zero_le _) hw
  refine ⟨_, k1, k2, fun hl k hk hA => k3 hl k hk ?_ hA⟩
  have := hA.1
  omega
/-- cut at a sign, at most n times -/
def spN (c : Nat) : Nat → List Nat → List (List Nat)
  | 0, l => [l]
  | n + 1, l => match TL.par [c] [] l with
    | none => [l]
    | some (a, b) => a :: spN c n b
theorem par_at' {c : Nat} {L : List Nat} {a d : Nat} (had : a ≤ d) (hd : d < L.length) (h : TL.pre [c] (L.drop d) = true) (hn : ∀ k, a ≤ k → k < d → TL.pre [c] (L.drop k) = false) : TL.par [c] [] (L.drop a) = some ((L.drop a).take (d - a), L.drop (d + 1)) := by
  have run := TL.par_run [c] L (d - a) a [] (by omega) (fun k h1 h2 => hn k h1 (by omega))
  rw [List.nil_append, show a + (d - a) = d by omega, TL.par_at (by simp) h] at run
  exact run
theorem par_no {c : Nat} {L : List Nat} {a : Nat} (ha : a ≤ L.length) (hn : ∀ k, a ≤ k → TL.pre [c] (L.drop k) = false) : TL.par [c] [] (L.drop a) = none := by
  have run := TL.par_run [c] L (L.length - a) a [] (by omega) (fun k h1 h2 => hn k h1)
  rw [show a + (L.length - a) = L.length by omega, List.drop_length] at run
  exact run
theorem parts_spN {x y : Str} {c : Nat} (hy : TL.tl y = [c]) : ∀ (n : Nat) (cuts : List Nat) (a f : Nat), a ≤ (TL.tl x).length → ChainG x y x.length a cuts f → cuts.length ≤ n → (cuts.length < n → ∀ k, f ≤ k → ¬ At x y x.length k) →
    (partsFrom x y.length a cuts).map TL.tl = spN c n ((TL.tl x).drop a)
  | n, [], a, f, ha, h, hl, hn => by
    have e : f = a := h
    subst e
    have e1 : (partsFrom x y.length f []).map TL.tl = [(TL.tl x).drop f] := by
      show [TL.tl (strSub x f x.length)] = _
      rw [TL.tl_strSub_end]
    rw [e1]
    cases n with
    | zero => rfl
    | succ n =>
      have hne : TL.tl y ≠ [] := by rw [hy]; simp
      unfold spN
      rw [par_no ha fun k hk => by have := TL.no_at hne (hn (Nat.succ_pos _) k hk); rwa [hy] at this]
  | 0, d :: r, a, f, ha, h, hl, hn => by simp at hl
  | n + 1, d :: r, a, f, ha, h, hl, hn => by
    obtain ⟨h1, h2, h3, h4⟩ := h
    have hne : TL.tl y ≠ [] := by rw [hy]; simp
    have hx := TL.len_tl x
    have hyl : y.length = 1 := by rw [TL.len_tl y, hy]; rfl
    have hd : d + y.length ≤ x.length := h2.1
    have ih := parts_spN hy n r (d + y.length) f (by omega) h4 (by simpa using hl) (fun z => hn (by simpa using z))
    unfold spN
    rw [par_at' (d := d) h1 (by omega) (by have := (TL.at_iff hne d).mp h2; rwa [hy] at this) (fun k k1 k2 => by have := TL.no_at hne (h3 k k1 k2); rwa [hy] at this)]
    show TL.tl (strSub x a d) :: (partsFrom x y.length (d + y.length) r).map TL.tl = _
    rw [ih, TL.tl_strSub, hyl]
theorem splitMax_spN {x y : Str} {c n : Nat} (hy : TL.tl y = [c]) (hk : y.cps.all (· < 256) = true) : (Txt.splitMax x y (n : Int)).map TL.tl = spN c n (TL.tl x) := by
  have hyl : y.length = 1 := by rw [TL.len_tl y, hy]; rfl
  obtain ⟨f, g, hm, hn⟩ := occ_lim x y n (by omega)
  have key := parts_spN hy n _ 0 f (Nat.zero_le _) g hm hn
  rw [List.drop_zero] at key
  have lim : limitOf x (n : Int) = n := by
    unfold limitOf
    rw [if_neg (by omega)]
    omega
  have none_case : occurrences x y 0 x.length n = [] → [x].map TL.tl = spN c n (TL.tl x) := fun ho => by
    rw [ho] at key
    rw [← key]
    show [TL.tl x] = [TL.tl (strSub x 0 x.length)]
    rw [sub_whole]
  unfold Txt.splitMax
  rw [lim]
  by_cases h1 : (decide (x.length < y.length) || decide (strKind x < strKind y)) = true
  · rw [if_pos h1]
    have hlt : x.length < y.length := by
      simp only [Bool.or_eq_true, decide_eq_true_eq] at h1
      rcases h1 with h | h
      · exact h
      · exact absurd h (TL.kind_ok hk)
    refine none_case ?_
    cases ho : occurrences x y 0 x.length n with
    | nil => rfl
    | cons d r =>
      rw [ho] at g
      have hc : d + y.length ≤ x.length := g.2.1.1
      omega
  · rw [if_neg h1]
    by_cases h2 : (occurrences x y 0 x.length n).isEmpty = true
    · rw [if_pos h2]
      exact none_case (List.isEmpty_iff.mp h2)
    · rw [if_neg h2, partsBetween_eq]
      exact key
/-! ### a dict of the module -/
def entK (e : DictEntry) : Option (Str × Int × Int) := match e.key, e.val with
  | .str x _, .int i _ => some (x, e.hash, i)
  | _, _ => none
def tabK (P : Params) (l : List (Str × Int)) : List (Option (Str × Int × Int)) := l.map fun p => some (p.1, PyData.keyHash P p.1, p.2)
/-- at d stands the written dict of l -/
structure KTab (K : PySem.W.Frag) (w : World) (d : Addr) (l : List (Str × Int)) : Prop where
  ex : ∃ es n, KDict K w d es n ∧ es.toList.map entK = tabK w.params l
theorem keysLit_of {P : Params} : ∀ {es : List DictEntry} {l : List (Str × Int)}, es.map entK = tabK P l → PySem.W.KeysLit P es
  | [], _, _ => trivial
  | e :: r, [], h => by cases h
  | e :: r, p :: ps, h => by
    have h1 : entK e :: r.map entK = some (p.1, PyData.keyHash P p.1, p.2) :: tabK P ps := h
    injection h1 with h2 h3
    refine ⟨?_, keysLit_of h3⟩
    obtain ⟨h, k, v⟩ := e
    unfold entK at h2
    cases k <;> cases v <;> try (cases h2; done)
    cases h2
    exact ⟨_, _, rfl, rfl⟩
theorem ktab_of {K : PySem.W.Frag} {w : World} {d : Addr} {es : Array DictEntry} {n : Nat} {l : List (Str × Int)} (h : K.lookup d = some ⟨.type "dict", none, .dict es n, #[]⟩) (e : es.toList.map entK = tabK w.params l) (s : (d == sysModules) = false) : KTab K w d l :=
  ⟨⟨es, n, ⟨h, keysLit_of e, s⟩, e⟩⟩
theorem tab_find {P : Params} (z : Str) : ∀ {es : List DictEntry} {l : List (Str × Int)}, es.map entK = tabK P l → (∀ e ∈ es, e.refKey = false) ∧ match l.lookup z with
    | none => es.find? (·.key.isStr z) = none
    | some i => ∃ e t, es.find? (·.key.isStr z) = some e ∧ e.val = .int i t
  | [], [], _ => ⟨(fun _ h => nomatch h), rfl⟩
  | [], _ :: _, h => by cases h
  | e :: r, [], h => by cases h
  | e :: r, p :: ps, h => by
    have h1 : entK e :: r.map entK = some (p.1, PyData.keyHash P p.1, p.2) :: tabK P ps := h
    injection h1 with h2 h3
    obtain ⟨i1, i2⟩ := tab_find z h3
    obtain ⟨h, k, v⟩ := e
    unfold entK at h2
    cases k <;> cases v <;> try (cases h2; done)
    rename_i x t i u
    have e1 : x = p.1 := by injection h2 with h2; injection h2
    have e2 : i = p.2 := by injection h2 with h2; injection h2 with _ h2; injection h2
    obtain ⟨p1, p2⟩ := p
    refine ⟨fun e he => ?_, ?_⟩
    · rcases List.mem_cons.mp he with rfl | he
      · rfl
      · exact i1 e he
    · by_cases c : z = p1
      · have e3 : ((p1, p2) :: ps).lookup z = some p2 := by rw [List.lookup_cons, beq_iff_eq.mpr c]
        rw [e3]
        refine ⟨_, u, List.find?_cons_of_pos ?_, by rw [e2]⟩
        show (x == z) = true
        rw [e1, c]
        exact beq_self_eq_true _
      · have e3 : ((p1, p2) :: ps).lookup z = ps.lookup z := by rw [List.lookup_cons, beq_eq_false_iff_ne.mpr c]
        rw [e3, List.find?_cons_of_neg]
        · exact i2
        · show ¬ (x == z) = true
          rw [e1]
          exact fun q => c (beq_iff_eq.mp q).symm
theorem KTab.at_ {K : PySem.W.Frag} {w : World} {d : Addr} {l : List (Str × Int)} (h : KTab K w d l) (z : Str) : match l.lookup z with
    | none => PySem.W.nsIn K d z = some none
    | some i => ∃ t, PySem.W.nsIn K d z = some (some (.int i t)) := by
  obtain ⟨es, n, D, e⟩ := h.ex
  obtain ⟨k1, k2⟩ := tab_find z e
  unfold PySem.W.nsIn
  rw [D.at_]
  cases q : l.lookup z with
  | none =>
    rw [q] at k2
    dsimp only at k2 ⊢
    rw [k2]
    dsimp only
    rw [if_neg]
    intro z
    obtain ⟨x, hx, hr⟩ := List.any_eq_true.mp z
    rw [k1 x hx] at hr
    cases hr
  | some i =>
    rw [q] at k2
    obtain ⟨e, t, f1, f2⟩ := k2
    refine ⟨t, ?_⟩
    dsimp only
    rw [f1, ← f2]
def rInTab (K : PySem.W.Frag) (w : World) (neg : Bool) : R2 := fun x y H Q => ∃ (z : Str) (d : Addr) (l : List (Str × Int)), x = .str z ∧ y = .ref d ∧ KTab K w d l ∧ Q (.bl (if neg then !(l.lookup z).isSome else (l.lookup z).isSome)) H
theorem op_inTab {X : Cx} : OpR X (compareOp .In) (rInTab X.K X.w false) := by
  intro pins s σ H x y v u Q I rx ry h
  obtain ⟨z, d, l, rfl, rfl, T, q⟩ := h
  obtain ⟨es, n, D, _⟩ := T.ex
  have k := T.at_ z
  cases e : l.lookup z with
  | none =>
    rw [e] at k q
    exact op_in_kd D pins s σ H (.str z) (.ref d) v u Q I rx ry ⟨z, none, rfl, rfl, k, q⟩
  | some i =>
    rw [e] at k q
    obtain ⟨t, k⟩ := k
    exact op_in_kd D pins s σ H (.str z) (.ref d) v u Q I rx ry ⟨z, some (.int i t), rfl, rfl, k, q⟩
theorem op_notInTab {X : Cx} : OpR X (compareOp .NotIn) (rInTab X.K X.w true) := by
  intro pins s σ H x y v u Q I rx ry h
  obtain ⟨z, d, l, rfl, rfl, T, q⟩ := h
  obtain ⟨es, n, D, _⟩ := T.ex
  have k := T.at_ z
  cases e : l.lookup z with
  | none =>
    rw [e] at k q
    exact op_notIn_kd D pins s σ H (.str z) (.ref d) v u Q I rx ry ⟨z, none, rfl, rfl, k, q⟩
  | some i =>
    rw [e] at k q
    obtain ⟨t, k⟩ := k
    exact op_notIn_kd D pins s σ H (.str z) (.ref d) v u Q I rx ry ⟨z, some (.int i t), rfl, rfl, k, q⟩
def rIxTab (K : PySem.W.Frag) (w : World) : R2 := fun x y H Q => ∃ (z : Str) (d : Addr) (l : List (Str × Int)) (i : Int), x = .ref d ∧ y = .str z ∧ KTab K w d l ∧ l.lookup z = some i ∧ Q (.int i) H
theorem ix_tab {X : Cx} : IxR X (rIxTab X.K X.w) := by
  intro a b pins s σ H x y v u Q I rx ry h hs
  obtain ⟨z, d, l, i, rfl, rfl, T, hl, q⟩ := h
  obtain ⟨es, n, D, _⟩ := T.ex
  have k := T.at_ z
  rw [hl] at k
  obtain ⟨t, k⟩ := k
  exact ix_kdict a b pins s σ H (.ref d) (.str z) v u Q I rx ry ⟨d, z, .int i, rfl, rfl, ⟨es, n, .int i t, D.at_, D.lit, k, ⟨t, rfl⟩⟩, q⟩ hs
end Hr

set_option Elab.async false
set_option linter.all false
set_option maxRecDepth 100000
set_option maxHeartbeats 4000000
/-! len(x), repr(x), x == y, x != y, x in [..] of an instance whose class brings the defs -/
namespace Hr
open PySem PySem.Spec PyProof.Rows L2
section
variable {X : Cx} {CX : CXT} {n : Nat} {f C : Addr} {fd : FuncData} {ps : List Str} {sp : Sp} {E : XK} {pins : List (Addr × Obj)} {σ : L2.St} {H : Hp} {s : Shared}
/-- a def, called inside a builtin -/
theorem own_run {A : Around} {us : List Value} {vs : List V} {Q : VK} (F : FnOk X.prog X.w X.K X.mg X.base CX n f fd ps sp) (hb : Binds X.K fd ps []) (hx : Passes CX X E) (sb : Sub X n A) (I : Inv X pins σ H s) (r : Vals vs us) (h : sp vs H Q E) :
    wpAny (model X.prog X.w) A (call (.ref f) us) (EP X pins σ Q) X.xe s := by
  have e0 : Env0 X.prog X.w X.K X.mg X.base A X.stack s H := by
    have e := I.env0
    exact ⟨by rw [sb.fr]; exact e.frames, e.mod, e.bs, e.bsz, e.funs, e.frf, e.hok, e.bare⟩
  have hl := F.len _ _ _ _ h
  refine wpAny_call (codeAny_mono (F.run A X.stack s H ⟨us, []⟩ us vs _ E sb.room e0 (by
    have := hb s us I.kIn (by have e := r.length; simp only [List.append_nil]; omega)
    simpa using this) r h) fun r s' hq => ?_)
  cases r with
  | error e => exact hx pins σ H s e s' I hq
  | ok fl =>
    cases fl with
    | ret w => exact I.after hq
    | next => exact False.elim hq
    | brk => exact False.elim hq
    | cont => exact False.elim hq
/-- len(x) -/
def rLenO (C : Addr) (sp : Sp) (E : XK) : List V → Hp → VK → Prop := fun xs H Q => ∃ a dx fs, xs = [.ref a] ∧ H a = some (.ins C dx fs) ∧ sp [.ref a] H (fun z H' => ∃ k : Nat, z = .int k ∧ k ≤ sizeLine ∧ Q (.int k) H') E
theorem call_lenO (m : Meth X.K C "__len__" f) (F : FnOk X.prog X.w X.K X.mg X.base CX n f fd ps sp) (hr : Room (n + 1) X.A) (hb : Binds X.K fd ps []) (hx : Passes CX X E) : CallR X (.builtin "len") (rLenO C sp E) := by
  intro pins s σ H xs us Q I r h
  obtain ⟨a, dx, fs, rfl, ha, q⟩ := h
  obtain ⟨u, rfl, ru⟩ := vals1 r
  obtain rfl : u = Value.ref a := ru
  obtain ⟨mA, J, _⟩ := ins_get I.hok ha
  obtain ⟨od, J, _⟩ := J.look
  obtain ⟨mm, hF⟩ := I.fr
  have hs : sizeLine = 16777216 := sizeLine_eq
  refine PySem.W.len_K hF I.ok.mod.kin J m.at_ m.fn (wpAny_mono (own_run (us := [.ref a]) (vs := [.ref a]) F hb hx ⟨hr.in1, rfl⟩ I (.cons rfl .nil) q) (fun v s' z => ?_) fun _ _ y => y)
  obtain ⟨z, H', I', rz, k, rfl, hk, qz⟩ := z
  obtain ⟨t, e⟩ := (show ∃ t, v = Value.int k t from rz)
  cases e
  exact ⟨by omega, .int k, H', I'.tok _, ⟨_, rfl⟩, qz⟩
/-- repr(x) -/
def rReprO (C : Addr) (sp : Sp) (E : XK) : List V → Hp → VK → Prop := fun xs H Q => ∃ a dx fs, xs = [.ref a] ∧ H a = some (.ins C dx fs) ∧ sp [.ref a] H (fun z H' => ∃ k : Str, z = .str k ∧ Q (.str k) H') E
theorem call_reprO (m : Meth X.K C "__repr__" f) (F : FnOk X.prog X.w X.K X.mg X.base CX n f fd ps sp) (hr : Room (n + 1) X.A) (hb : Binds X.K fd ps []) (hx : Passes CX X E) : CallR X (.builtin "repr") (rReprO C sp E) := by
  intro pins s σ H xs us Q I r h
  obtain ⟨a, dx, fs, rfl, ha, q⟩ := h
  obtain ⟨u, rfl, ru⟩ := vals1 r
  obtain rfl : u = Value.ref a := ru
  obtain ⟨mA, J, _⟩ := ins_get I.hok ha
  obtain ⟨od, J, _⟩ := J.look
  obtain ⟨mm, hF⟩ := I.fr
  refine PySem.W.repr_K hr.in1.units0 hF I.ok.mod.kin J m.at_ m.fn (wpAny_mono (own_run (us := [.ref a]) (vs := [.ref a]) F hb hx ⟨hr.in1, rfl⟩ I (.cons rfl .nil) q) (fun v s' z => ?_) fun _ _ y => y)
  obtain ⟨z, H', I', rz, k, rfl, qz⟩ := z
  obtain ⟨t, e⟩ := (show ∃ t, v = Value.str k t from rz)
  cases e
  exact ⟨.str k, H', I', ⟨_, rfl⟩, qz⟩
/-- values of other kinds -/
inductive Alien (K : PySem.W.Frag) (H : Hp) : V → String → Prop where
  | non : Alien K H .non "NoneType"
  | str (x : Str) : Alien K H (.str x) "str"
  | int (i : Int) : Alien K H (.int i) "int"
  | lst {a : Addr} {xs : List V} (h : SqL K H a xs) : Alien K H (.ref a) "list"
theorem alien_ty {x : V} {u : Value} {T : String} (I : Inv X pins σ H s) (r : RelV x u) (h : Alien X.K H x T) : s.TypeIs u T := by
  cases h with
  | non => cases (show u = Value.none from r); rfl
  | str x => obtain ⟨t, rfl⟩ := (show ∃ t, u = Value.str x t from r); exact typeIs_str _ _ _
  | int i => obtain ⟨t, rfl⟩ := (show ∃ t, u = Value.int i t from r); exact typeIs_int _ _ _
  | lst h =>
    cases r
    obtain ⟨its, _, pl, _⟩ := I.list h
    exact pl.isList.typeIs
theorem looks_ty {M : Model} {u : Value} {T : String} (h : s.TypeIs u T) : PySem.W.Looks M s.heap (typeOf u) (.type T) := fun A Q E s' k q => wpAny_typeOf (by
  cases u with
  | ref a => obtain ⟨o, ho, hc⟩ := h; exact ⟨o, k _ _ ho, hc⟩
  | _ => exact h) q
theorem alien_sub {x : V} {T : String} {K : PySem.W.Frag} (h : Alien K H x T) : PySem.W.subIn K (.type T) (.ref C) = some false := by
  cases h with
  | non => exact HN.sub_none
  | str x => have e : fastBuiltinMro "str" = some [.type "str", .type "object"] := by decide +kernel
             show (fastBuiltinMro "str").map (·.contains (.ref C)) = some false; rw [e]; first | rfl | simp
  | int i => have e : fastBuiltinMro "int" = some [.type "int", .type "object"] := by decide +kernel
             show (fastBuiltinMro "int").map (·.contains (.ref C)) = some false; rw [e]; first | rfl | simp
  | lst h => have e : fastBuiltinMro "list" = some [.type "list", .type "object"] := by decide +kernel
             show (fastBuiltinMro "list").map (·.contains (.ref C)) = some false; rw [e]; first | rfl | simp
/-- x == y, x an instance, y of another kind -/
def rEqAl (K : PySem.W.Frag) (C : Addr) (sp : Sp) (E : XK) : R2 := fun x y H Q => ∃ a dx fs T, x = .ref a ∧ H a = some (.ins C dx fs) ∧ Alien K H y T ∧ sp [x, y] H Q E
theorem op_eqAl (m : Meth X.K C "__eq__" f) (F : FnOk X.prog X.w X.K X.mg X.base CX n f fd ps sp) (hr : Room n X.A) (hb : Binds X.K fd ps []) (hx : Passes CX X E) : OpR X (compareOp .Eq) (rEqAl X.K C sp E) := by
  intro pins s σ H x y v u Q I rx ry h
  obtain ⟨a, dx, fs, T, rfl, ha, al, q⟩ := h
  obtain rfl : v = Value.ref a := rx
  obtain ⟨mA, J, _⟩ := ins_get I.hok ha
  obtain ⟨od, J, _⟩ := J.look
  obtain ⟨mm, hF⟩ := I.fr
  have tb : PySem.W.Looks (model X.prog X.w) s.heap (typeOf u) (.type T) := looks_ty (alien_ty I ry al)
  refine PySem.W.cmp_K (op := .Eq) (tb := .type T) hr.units0 hF I.ok.mod.kin J tb (by unfold PySem.W.notFirst; rw [alien_sub al]; simp) m.at_ m.fn ?_
  refine wpAny_mono (own_run (us := [.ref a, u]) (vs := [.ref a, y]) F hb hx ⟨hr, rfl⟩ I (.cons rfl (.cons ry .nil)) q) (fun v s' z => ?_) fun _ _ y => y
  obtain ⟨z, H', I', rz, qz⟩ := z
  exact SlX.cmpback rz ⟨z, H', I', rz, qz⟩
/-- x != y of two instances of the class at C, by its == -/
def rNeO (C : Addr) (sp : Sp) (E : XK) : R2 := fun x y H Q => ∃ a dx fs b dy gs, x = .ref a ∧ y = .ref b ∧ H a = some (.ins C dx fs) ∧ H b = some (.ins C dy gs) ∧ sp [x, y] H (fun z H' => ∃ r, z = .bl r ∧ Q (.bl (!r)) H') E
theorem op_neO (m : Meth X.K C "__eq__" f) (hn : PySem.W.findIn X.K (.ref C) "__ne__" = some (some (.builtin "object.__ne__"))) (hm : PySem.W.mroIn X.K C (.type "object") = some true) (F : FnOk X.prog X.w X.K X.mg X.base CX n f fd ps sp) (hr : Room (n + 1) X.A) (hb : Binds X.K fd ps []) (hx : Passes CX X E) : OpR X (compareOp .NotEq) (rNeO C sp E) := by
  intro pins s σ H x y v u Q I rx ry h
  obtain ⟨a, dx, fs, b, dy, gs, rfl, rfl, ha, hb', q⟩ := h
  obtain rfl : v = Value.ref a := rx
  obtain rfl : u = Value.ref b := ry
  obtain ⟨mA, J, _⟩ := ins_get I.hok ha
  obtain ⟨mB, J', _⟩ := ins_get I.hok hb'
  obtain ⟨od, J, _⟩ := J.look
  obtain ⟨od', J', _⟩ := J'.look
  have run : wpAny (model X.prog X.w) X.A.in1 (call (.ref f) [.ref a, .ref b]) (fun v s' => ∃ r, v = .bool r ∧ EP X pins σ Q (.bool (!r)) s') X.xe s :=
    wpAny_mono (own_run (us := [.ref a, .ref b]) (vs := [.ref a, .ref b]) F hb hx ⟨hr.in1, rfl⟩ I (.cons rfl (.cons rfl .nil)) q) (fun v s' z => by
      obtain ⟨z, H', I', rz, r, rfl, qz⟩ := z
      cases (show v = Value.bool r from rz)
      exact ⟨r, rfl, .bl (!r), H', I', rfl, qz⟩) fun _ _ y => y
  have one : wpAny (model X.prog X.w) X.A (tryCompare (.ref a) "__ne__" (.ref b)) (fun r s' => ∃ v, r = some v ∧ EP X pins σ Q v s') X.xe s := by
    unfold tryCompare
    refine wpAny_bind (m := callSpecialIfBound? (.ref a) "__ne__" [.ref b]) ?_
    simp only [callSpecialIfBound?, bindSpecialIfBound?]
    refine wpAny_holding (wpAny_bind (wpAny_bind (wpAny_bind (J.type.here ((PySem.W.looks_findIn I.kIn hn).here ?_)))))
    refine wpAny_bind (wpAny_askSetting (wpAny_ite ?_))
    have body : wpAny (model X.prog X.w) X.A (call (.builtin "object.__ne__") [.ref a, .ref b]) (fun v s' => (∃ r, v = .bool r) ∧ EP X pins σ Q v s') X.xe s := by
      refine wpAny_call (codeAny_call_builtin PySem.F.cmp_object.ne.plain PySem.F.cmpEntry_ne (PySem.W.check_slot PySem.F.cmpKind_ne PySem.F.cmpSplit_ne (J.type.andThen (PySem.W.looks_mroIn I.kIn hm)) (PySem.F.cmpArgs_ne _ _) ?_))
      unfold Builtin.«object.__ne__»
      refine wpAny_bind (m := slotArgs "__ne__" 1 _) (wpAny_pure ?_)
      refine wpAny_bind (m := cRoomFor _ _) (wpAny_cRoomFor hr.in1.units0 ?_)
      refine wpAny_bind (m := callSpecialIfBound? (.ref a) (Str.ofString "__eq__") _) (PySem.W.ifBound_K I.kIn J m.at_ m.fn (wpAny_mono run (fun v s' z => ?_) fun _ _ y => y))
      obtain ⟨r, rfl, z⟩ := z
      exact wpAny_bind (m := truthy (.bool r)) (wpAny_truthy_bool (wpAny_pure ⟨⟨_, rfl⟩, z⟩))
    have fin : wpAny (model X.prog X.w) X.A (call (.builtin "object.__ne__") ([.ref a] ++ [.ref b]) >>= fun v => pure (some v)) (fun r s' => ∃ r', r = some (.bool r') ∧ EP X pins σ Q (.bool r') s') X.xe s := wpAny_bind (wpAny_mono body (fun v s' h' => by
      obtain ⟨⟨r, rfl⟩, h'⟩ := h'
      exact wpAny_pure ⟨r, rfl, h'⟩) fun _ _ h' => h')
    have fin2 : wpAny (model X.prog X.w) X.A (call (.builtin "object.__ne__") ([.ref a] ++ [.ref b]) >>= fun v => pure (some v)) (fun r s' => wpAny (model X.prog X.w) X.A (match r with | some .notImplemented | none => pure none | some v => pure (some v)) (fun r s' => ∃ v, r = some v ∧ EP X pins σ Q v s') X.xe s') X.xe s := wpAny_mono fin (fun r s' h' => by
      obtain ⟨r, rfl, h'⟩ := h'
      exact wpAny_pure ⟨_, rfl, h'⟩) fun _ _ h' => h'
    split
    · exact wpAny_bind (wpAny_of_eq (PySem.F.cmp_object.ne.bind _) (wpAny_pure (by exact fin2)))
    · exact wpAny_tryCatch (wpAny_bind (wpAny_of_eq (PySem.F.cmp_object.ne.bind _) (wpAny_pure (by exact fin2))))
  show wpAny _ _ (compareOp .NotEq (.ref a) (.ref b)) _ _ _
  unfold compareOp
  unfold richCompare
  simp only [oneThing_ref]
  refine wpAny_holding (wpAny_bind (wpAny_cRoomFor hr.units0 ?_))
  refine wpAny_bind (J.type.here (wpAny_bind (J'.type.here ?_)))
  split
  · rename_i q; simp at q
  · refine wpAny_bind (wpAny_pure ?_)
    simp only [Bool.false_eq_true, if_false]
    refine wpAny_bind (wpAny_mono one (fun r s' z => ?_) fun _ _ e => e)
    obtain ⟨v, rfl, hq⟩ := z
    exact wpAny_pure hq
/-- what is asked of a class whose instances are compared with values of other kinds -/
structure OwnC (K : PySem.W.Frag) (C : Addr) : Prop where
  ob : PySem.W.mroIn K C (.type "object") = some true
  ne : PySem.W.findIn K (.ref C) "__ne__" = some (some (.builtin "object.__ne__"))
  mn : PySem.W.mroIn K C (.type "NoneType") = some false
  ms : PySem.W.mroIn K C (.type "str") = some false
  mi : PySem.W.mroIn K C (.type "int") = some false
  ml : PySem.W.mroIn K C (.type "list") = some false
  kc : ((PySem.W.clsIn K C).isSome && PySem.W.typeIn K (.ref C) == some (.type "type")) = true
theorem OwnC.mro {x : V} {T : String} {K : PySem.W.Frag} {H : Hp} (c : OwnC K C) (h : Alien K H x T) : PySem.W.mroIn K C (.type T) = some false := by
  cases h with
  | non => exact c.mn
  | str => exact c.ms
  | int => exact c.mi
  | lst => exact c.ml
theorem str_ins_0 (b : Str) (u : Tok) (l dx : Addr) : Meets (Builtin.«str.__eq__» ⟨[.str b u, .ref l], []⟩) (fun _ R s => s.heap.get? l = some (PySem.W.instObj C dx) ∧ R (.ok (.ret .notImplemented)) s) :=
  .of_wp fun prog w A R s h => by obtain ⟨hp, g, d, tk, os⟩ := s; obtain ⟨hl, h⟩ := h; wp_walk using PySem.AutoSeq1.wpAny_loadPart' hl, wpAny_load hl; exact ⟨_, rfl, h⟩
theorem int_ins_0 (b : Int) (u : Tok) (l dx : Addr) : Meets (Builtin.«int.__eq__» ⟨[.int b u, .ref l], []⟩) (fun _ R s => s.heap.get? l = some (PySem.W.instObj C dx) ∧ R (.ok (.ret .notImplemented)) s) :=
  .of_wp fun prog w A R s h => by obtain ⟨hp, g, d, tk, os⟩ := s; obtain ⟨hl, h⟩ := h; wp_walk using PySem.AutoSeq1.wpAny_loadPart' hl, wpAny_load hl; exact ⟨_, rfl, h⟩
theorem isInst_no {M : Model} {A : Around} {E : Value → Shared → Prop} {Q : Bool → Shared → Prop} {K : PySem.W.Frag} {x : Addr} {ox : Obj} {od : Option Obj} {T : String} (X : K.In s.heap) (I : PySem.W.InstAt s.heap x ox C od) (hm : PySem.W.mroIn K C (.type T) = some false) (q : Q false s) : wpAny M A (isInstance (.ref x) (.type T)) Q E s := by
  have L : PySem.W.Looks M s.heap (isInstance (.ref x) (.type T)) false := I.type.andThen (PySem.W.looks_mroIn X hm)
  exact L.here q
theorem list_decl {prog : Program} {w : World} {A : Around} {E : Value → Shared → Prop} {Q : Fin → Shared → Prop} {K : PySem.W.Frag} {x l : Addr} {ox : Obj} {od : Option Obj} (X : K.In s.heap) (I : PySem.W.InstAt s.heap x ox C od) (hm : PySem.W.mroIn K C (.type "list") = some false) (q : Q (.done (.ret .notImplemented)) s) :
    wpAny (model prog w) A (Builtin.«list.__eq__» ⟨[.ref l, .ref x], []⟩) Q E s := by
  show wpAny _ _ (slotArgs "__eq__" 1 ⟨[.ref l, .ref x], []⟩ >>= _) _ _ _
  refine wpAny_bind (m := slotArgs "__eq__" 1 _) (wpAny_pure ?_)
  refine wpAny_bind (m := isInstance (.ref x) (.type "list")) (isInst_no X I hm ?_)
  exact wpAny_pure q
theorem alien_decl {A : Around} {Ex : Value → Shared → Prop} {x : V} {u : Value} {T : String} {a dx : Addr} {fs : List (Str × V)} {Q : Option Value → Shared → Prop} (I : Inv X pins σ H s) (r : RelV x u) (al : Alien X.K H x T) (c : OwnC X.K C) (ha : H a = some (.ins C dx fs)) (q : Q none s) :
    wpAny (model X.prog X.w) A (tryCompare u "__eq__" (.ref a)) Q Ex s := by
  obtain ⟨mA, J, _⟩ := ins_get I.hok ha
  obtain ⟨od, J, _⟩ := J.look
  have ty := alien_ty I r al
  cases al with
  | non =>
    cases (show u = Value.none from r)
    exact wpAny_tryCompare_declines ty PySem.F.slot_NoneType_eq (call_gives PySem.F.slot_NoneType_eq ty PySem.F.entry_NoneType_eq (PySem.F.args_NoneType_eq_2 _ _) (PySem.SeqAt.NoneType___eq___none_ref_0 a) ⟨rfl, q⟩)
  | str x =>
    obtain ⟨t, rfl⟩ := (show ∃ t, u = Value.str x t from r)
    exact wpAny_tryCompare_declines ty PySem.F.slot_str_eq (call_meets PySem.F.slot_str_eq ty PySem.F.entry_str_eq (PySem.F.args_str_eq_2 _ _) (str_ins_0 x t a dx) ⟨J.at_, rfl, q⟩)
  | int i =>
    obtain ⟨t, rfl⟩ := (show ∃ t, u = Value.int i t from r)
    exact wpAny_tryCompare_declines ty PySem.F.slot_int_eq (call_meets PySem.F.slot_int_eq ty PySem.F.entry_int_eq (PySem.F.args_int_eq_2 _ _) (int_ins_0 i t a dx) ⟨J.at_, rfl, q⟩)
  | lst h =>
    cases r
    exact wpAny_tryCompare_declines ty PySem.F.slot_list_eq (wpAny_call (codeAny_call_builtin PySem.F.slot_list_eq.plain PySem.F.entry_list_eq (PySem.F.slot_list_eq.check _ _ _ _ _ _ _ _ ty (PySem.F.args_list_eq_2 _ _) (list_decl I.kIn J c.ml ⟨rfl, q⟩))))
/-- y == x: the other side declines, the instance's own def answers -/
theorem rc_alien {A : Around} {x : V} {u : Value} {T : String} {a dx : Addr} {fs : List (Str × V)} {Q : VK} (I : Inv X pins σ H s) (r : RelV x u) (al : Alien X.K H x T) (c : OwnC X.K C) (ha : H a = some (.ins C dx fs)) (m : Meth X.K C "__eq__" f) (F : FnOk X.prog X.w X.K X.mg X.base CX n f fd ps sp) (sb : Sub X n A) (hb : Binds X.K fd ps []) (hx : Passes CX X E)
    (q : sp [.ref a, x] H Q E) : wpAny (model X.prog X.w) A (richCompare .Eq u (.ref a)) (EP X pins σ Q) X.xe s := by
  obtain ⟨mA, J, _⟩ := ins_get I.hok ha
  obtain ⟨od, J, _⟩ := J.look
  have ty := alien_ty I r al
  have one : wpAny (model X.prog X.w) A (tryCompare u "__eq__" (.ref a)) (fun r s' => r = none ∧ s' = s) X.xe s := alien_decl I r al c ha ⟨rfl, rfl⟩
  have two : wpAny (model X.prog X.w) A (tryCompare (.ref a) "__eq__" u) (fun r s' => ∃ v, r = some v ∧ EP X pins σ Q v s') X.xe s := by
    unfold tryCompare
    refine wpAny_bind (PySem.W.ifBound_K I.kIn J m.at_ m.fn (wpAny_mono (own_run (us := [.ref a, u]) (vs := [.ref a, x]) F hb hx sb I (.cons rfl (.cons r .nil)) q) (fun v s' hv => ?_) fun _ _ e => e))
    obtain ⟨z, H', I', rz, qz⟩ := hv
    have h := SlX.cmpback rz (show EP X pins σ Q v s' from ⟨z, H', I', rz, qz⟩)
    cases v <;> first | exact h.elim | exact wpAny_pure ⟨_, rfl, h⟩
  have o1 : oneThing? .Eq u (.ref a) = none := ty.oneThing_none _ _
  simp only [richCompare, cmpInfo_Eq, o1]
  refine wpAny_holding (wpAny_bind (wpAny_cRoomFor sb.room.units0 ?_))
  refine wpAny_bind (wpAny_typeOf ty ?_)
  refine wpAny_bind (J.type.here ?_)
  split
  · refine wpAny_bind ((PySem.W.looks_mroIn I.kIn (c.mro al)).here ?_)
    simp only [Bool.false_eq_true, if_false, Bool.not_false, if_true]
    refine wpAny_bind (m := tryCompare u _ (.ref a)) (wpAny_mono one (fun r s1 z => ?_) fun _ _ e => e)
    obtain ⟨z1, z2⟩ := z
    subst z1
    subst z2
    refine wpAny_bind (m := tryCompare (.ref a) _ u) (wpAny_mono two (fun r s2 z => ?_) fun _ _ e => e)
    obtain ⟨v, rfl, z⟩ := z
    exact wpAny_pure z
  · rename_i q
    exact absurd (by simp) q
theorem eqBool_alien {A : Around} {x : V} {u : Value} {T : String} {a dx : Addr} {fs : List (Str × V)} (I : Inv X pins σ H s) (r : RelV x u) (al : Alien X.K H x T) (na : x ≠ .ref a) (c : OwnC X.K C) (ha : H a = some (.ins C dx fs)) (m : Meth X.K C "__eq__" f) (F : FnOk X.prog X.w X.K X.mg X.base CX n f fd ps sp) (sb : Sub X n A) (hb : Binds X.K fd ps []) (hx : Passes CX X E)
    {Q : Bool → Hp → Prop} (q : sp [.ref a, x] H (fun z H' => ∃ b, z = .bl b ∧ Q b H') E) : wpAny (model X.prog X.w) A (eqBool u (.ref a)) (TP X pins σ Q) X.xe s := by
  have nu : (u == Value.ref a) = false := by
    cases al with
    | non => cases (show u = Value.none from r); rfl
    | str x => obtain ⟨t, rfl⟩ := (show ∃ t, u = Value.str x t from r); rfl
    | int i => obtain ⟨t, rfl⟩ := (show ∃ t, u = Value.int i t from r); rfl
    | lst h =>
      cases r
      exact beq_eq_false_iff_ne.mpr fun e => na (by cases e; rfl)
  unfold eqBool
  refine wpAny_holding ?_
  refine wpAny_ite_split (fun hab => by rw [nu] at hab; cases hab) (fun _ => ?_)
  have main : wpAny (model X.prog X.w) A (richCompare .Eq u (.ref a)) (fun v s' => ∃ b, v = .bool b ∧ TP X pins σ Q b s') X.xe s := wpAny_mono (rc_alien I r al c ha m F sb hb hx q) (fun v s' z => by
    obtain ⟨z, H', I', rz, b, rfl, qz⟩ := z
    cases (show v = Value.bool b from rz)
    exact ⟨b, rfl, H', I', qz⟩) fun _ _ y => y
  have fin : ∀ v s', (∃ b, v = .bool b ∧ TP X pins σ Q b s') → wpAny (model X.prog X.w) A (truthOfDropped v) (TP X pins σ Q) X.xe s' := fun v s' z => by
    obtain ⟨b, rfl, z⟩ := z
    exact wpAny_truthy_bool z
  cases al with
  | non =>
    cases (show u = Value.none from r)
    exact wpAny_bind (wpAny_mono main fin fun _ _ y => y)
  | str x =>
    obtain ⟨t, rfl⟩ := (show ∃ t, u = Value.str x t from r)
    exact wpAny_bind (wpAny_mono main fin fun _ _ y => y)
  | int i =>
    obtain ⟨t, rfl⟩ := (show ∃ t, u = Value.int i t from r)
    exact wpAny_bind (wpAny_mono main fin fun _ _ y => y)
  | lst h =>
    cases r
    exact wpAny_bind (wpAny_mono main fin fun _ _ y => y)
/-- what `x in [..]` says, item by item -/
def goIn (K : PySem.W.Frag) (a : Addr) (sp : Sp) (E : XK) (H : Hp) (Q : VK) : List V → Prop
  | [] => Q (.bl false) H
  | z :: zs => (z = .ref a ∧ Q (.bl true) H) ∨ (z ≠ .ref a ∧ ∃ T, Alien K H z T ∧ sp [.ref a, z] H (fun r H' => ∃ b, r = .bl b ∧ b = false ∧ H' = H ∧ goIn K a sp E H Q zs) E)
def rInO (K : PySem.W.Frag) (C : Addr) (sp : Sp) (E : XK) : R2 := fun x y H Q => ∃ a dx fs p xs, x = .ref a ∧ H a = some (.ins C dx fs) ∧ y = .ref p ∧ SqL K H p xs ∧ goIn K a sp E H Q xs
theorem in_loopO {A : Around} {R : Result → Shared → Prop} {a dx p : Addr} {fs : List (Str × V)} {xs : List V} {Q : VK} (c : OwnC X.K C) (ha : H a = some (.ins C dx fs)) (hp : SqL X.K H p xs) (m : Meth X.K C "__eq__" f) (F : FnOk X.prog X.w X.K X.mg X.base CX n f fd ps sp) (sb : Sub X (n + 1) A) (hb : Binds X.K fd ps []) (hx : Passes CX X E)
    (fin : ∀ b s', Inv X pins σ H s' → Q (.bl b) H → R (.ok (.ret (.bool b))) s') (err : ∀ e s', X.xe e s' → R (.error e) s') :
    ∀ (k i : Nat) (s : Shared), xs.length - i = k → Inv X pins σ H s → goIn X.K a sp E H Q (xs.drop i) →
      wpAny (model X.prog X.w) A.in1 (Builtin.«list.__contains__.loop» ⟨[.ref p, .ref a, rawInt i], []⟩) (GQ.FinOf X.prog X.w A R) (fun e s' => R (.error e) s') s := by
  intro k
  induction k with
  | zero =>
    intro i s hk I g
    obtain ⟨its, rv, pl, hz⟩ := I.list hp
    have hl := rv.length
    rw [List.drop_of_length_le (by omega)] at g
    have hR := fin false s I g
    obtain ⟨⟨cls, dd, data, sl⟩, ho, hc, n', hd⟩ := pl.isList
    simp only at hc hd
    subst hc hd
    obtain ⟨hp', g', d, tk, os⟩ := s
    wp_walk using PySem.AutoSeq1.wpAny_loadPart' ho
    have hi : its.toArray[((i : Nat) : Int).toNat]? = none := by simp; omega
    rw [hi]
    wp_walk
    exact hR
  | succ k ih =>
    intro i s hk I g
    obtain ⟨its, rv, pl, hz⟩ := I.list hp
    have hl := rv.length
    have hlt : i < xs.length := by omega
    have hlt2 : i < its.length := by omega
    rw [List.drop_eq_getElem_cons hlt] at g
    have hxi := List.getElem?_eq_getElem hlt
    generalize xs[i] = z at hxi g
    obtain ⟨u, hu, ru⟩ := rv.get hxi
    obtain ⟨⟨cls, dd, data, sl⟩, ho, hc, n', hd⟩ := pl.isList
    simp only at hc hd
    subst hc hd
    have hi : its.toArray[((i : Nat) : Int).toNat]? = some u := by simpa using hu
    have hcc : ((i : Int) + 1) = ((i + 1 : Nat) : Int) := by omega
    have turn : wpAny (model X.prog X.w) A.in1 (eqBool u (.ref a)) (fun b s' => Inv X pins σ H s' ∧ if b then Q (.bl true) H else goIn X.K a sp E H Q (xs.drop (i + 1))) (fun e s' => R (.error e) s') s := by
      rcases g with ⟨rfl, q⟩ | ⟨nz, T, al, q⟩
      · cases ru
        exact SeqAt.EqAt.same (A := A.in1) (s := s) (.ref a) X.prog X.w _ _ ⟨I, q⟩
      · refine wpAny_mono (eqBool_alien (Q := fun b H' => b = false ∧ H' = H ∧ goIn X.K a sp E H Q (xs.drop (i + 1))) I ru al nz c ha m F sb.in1 hb hx q) (fun b s' z => ?_) fun e s' z => err e s' z
        obtain ⟨H', I', rfl, rfl, z⟩ := z
        exact ⟨I', z⟩
    obtain ⟨hp', g', d, tk, os⟩ := s
    wp_walk using PySem.AutoSeq1.wpAny_loadPart' ho
    rw [hi]
    refine wpAny_bind (wpAny_mono turn (fun b s2 z => ?_) fun _ _ x => x)
    obtain ⟨I2, z⟩ := z
    cases b with
    | true =>
      have hR := fin true s2 I2 z
      obtain ⟨hp2, g2, d2, tk2, os2⟩ := s2
      wp_walk
      exact hR
    | false =>
      have hrec := ih (i + 1) s2 (by omega) I2 z
      obtain ⟨hp2, g2, d2, tk2, os2⟩ := s2
      wp_walk
      rw [hcc]
      exact ⟨plainId_quiet PySem.MeetsSeq.plain_contains_loop _, codeAny_builtin PySem.MeetsSeq.entry_contains_loop (by
        rw [Around.under_plainId PySem.MeetsSeq.plain_contains_loop _]
        exact hrec)⟩
theorem op_inO (c : OwnC X.K C) (m : Meth X.K C "__eq__" f) (F : FnOk X.prog X.w X.K X.mg X.base CX n f fd ps sp) (hr : Room (n + 1) X.A) (hb : Binds X.K fd ps []) (hx : Passes CX X E) : OpR X (compareOp .In) (rInO X.K C sp E) := by
  intro pins s σ H x y v u Q I rx ry h
  obtain ⟨a, dx, fs, p, xs, rfl, ha, rfl, hp, g⟩ := h
  obtain rfl : v = Value.ref a := rx
  obtain rfl : u = Value.ref p := ry
  obtain ⟨its, rv, pl, hz⟩ := I.list hp
  have ty : s.TypeIs (.ref p) "list" := pl.isList.typeIs
  show wpAny _ X.A (do return Value.bool (← contains (.ref p) (.ref a))) _ _ s
  refine wpAny_bind (wpAny_contains_slot ty PySem.F.slot_list_contains (wpAny_mono (Q := fun v s' => ∃ b, v = .bool b ∧ EP X pins σ Q (.bool b) s') ?_ (fun v s' hv => ?_) fun _ _ e => e))
  · refine wpAny_call (codeAny_call_builtin PySem.F.slot_list_contains.plain PySem.F.entry_list_contains (PySem.F.slot_list_contains.check _ _ _ _ _ _ _ _ ty (PySem.F.args_list_contains_2 _ _) ?_))
    have main := in_loopO (A := X.A) (R := fun r s' => match r with | .ok (.ret v) => (∃ b, v = .bool b ∧ EP X pins σ Q (.bool b) s') | .ok _ => False | .error e => X.xe e s') c ha hp m F ⟨hr, rfl⟩ hb hx (fun b s' I' q => ⟨b, rfl, .bl b, H, I', rfl, q⟩) (fun _ _ y => y) xs.length 0 s rfl I (by simpa using g)
    show wpAny _ _ (slotArgs "__contains__" 1 ⟨[.ref p, .ref a], []⟩ >>= _) _ _ _
    refine wpAny_bind (m := slotArgs "__contains__" 1 _) (wpAny_pure ?_)
    refine wpAny_pure ⟨plainId_quiet PySem.MeetsSeq.plain_contains_loop _, codeAny_builtin PySem.MeetsSeq.entry_contains_loop (by
        rw [Around.under_plainId PySem.MeetsSeq.plain_contains_loop _]
        exact main)⟩
  · obtain ⟨b, rfl, hq⟩ := hv
    exact wpAny_truthy_bool (wpAny_pure hq)
end
/-- f(k = v, ..): a def with a default that is not needed -/
theorem FunD.kwb {K : PySem.W.Frag} {x qual : Str} {params : Arguments} {body : List Stmt} {scope : Scope} {dvs : List V} {kws : List (Str × V)} {f : Addr} {fd : FuncData} {ps ks : List Str} (F : FunD K x qual params body scope dvs kws f fd) (n : Nat) (hd : dvs ≠ [])
    (h : ∀ (T : Addr) (kV doc pm : Value) (an : Option Addr) (cdv ct : Value) (us ws its : List Value), us.length = n → ws.length = ks.length → its.length = dvs.length →
      ∃ k, bindArgs (PySem.W.fnOf x qual params body scope (.ref T) kV doc pm an cdv ct) ⟨us, ks.zip ws⟩ = seqItems? (.ref T) >>= k ∧ k (some its.toArray) = pure (ps.zip (us ++ ws))) : KBn K fd ps n ks (fun us ws => us ++ ws) (fun vs zs => vs ++ zs) := by
  obtain ⟨_, _, _, kV, doc, pm, an, cdv, ct, _, e, _, _, hD, _⟩ := F.ex
  refine ⟨fun s us ws X l1 l2 => ?_, fun r1 r2 => r1.append r2⟩
  rcases hD with ⟨z, _⟩ | ⟨_, T, _, its, _, z, lT, oT, rT⟩
  · exact absurd z hd
  · subst z
    subst e
    obtain ⟨k, e1, e2⟩ := h T kV doc pm an cdv ct us ws its l1 l2 rT.length.symm
    exact BindsTo.of_looks fun M => by rw [e1]; exact looks_items X lT oT (.of_pure e2)
/-- a comprehension over a list or a tuple, what is made told by the heap -/
theorem lc_dat_seq {K : PySem.W.Frag} {g : TG} {tt : TT} {te : TE} {vs : List Nat} {σ : L2.St} {H1 : Hp} {Q : VK} {i : Nat} {a : Addr} {xs : List V} (hv : σ[i]? = some (some (.ref a))) (h : SqL K H1 a xs ∨ SqT K H1 a xs) (S : List Addr) (P : Nat → V → Hp → Prop) (hP : ∀ i y H H', Same H H' → P i y H → P i y H') (hn : xs.length < 100000)
    (hs : ∀ D (i : Nat) x H (Qe : V → Hp → Prop) (Z : Hp → Prop), H1 D = none → i < xs.length → xs[i]? = some x → Same H1 H → Same (dl H1 S) (dl H (D :: S)) → (∃ xs, H D = some (.lst xs)) → (∀ y H4, Same H H4 → P i y (dl H4 (D :: S)) → Qe y H4) → g x (wipe σ vs) H fun σ2 H2 => wipe σ2 vs = wipe σ vs ∧ tt σ2 H2 fun bb H3 => if bb = true then te σ2 H3 Qe else Z H3)
    (hd : ∀ D H ys, H1 D = none → Same H1 H → ys.length = xs.length → H D = some (.lst ys) → (∀ (i : Nat) y, ys[i]? = some y → P i y (dl H (D :: S))) → Q (.ref D) H) : tLc (iSeq K (tVar i)) g tt te vs σ H1 Q :=
  seq_var hv h fun J G w hG => fun D hD => lc_dat w S hD P hP hG hn (fun i x H H' Qe Z hi sm sd hd3 hq hy => by
    obtain ⟨rfl, hx⟩ := hy
    exact hs D i x H' Qe Z hD hi hx sm sd hd3 hq) fun H ys sm hl hD3 hp => hd D H ys hD sm hl hD3 hp
end Hr

set_option Elab.async false
set_option linter.all false
set_option maxRecDepth 100000
set_option maxHeartbeats 4000000
/-! equality of plain data -/
namespace Hr
open PySem PySem.Spec PyProof.Rows L2
/-- texts, whole numbers, and lists and tuples of such, less than n deep -/
def Nc : Nat → PyData → Prop
  | 0, _ => False
  | _ + 1, .str _ => True
  | _ + 1, .int _ => True
  | n + 1, .list ds => ∀ d ∈ ds, Nc n d
  | n + 1, .tuple ds => ∀ d ∈ ds, Nc n d
  | _ + 1, _ => False
theorem nc_all {n : Nat} (ih : ∀ d e, Nc n d → Nc n e → PyData.eqv d e = true → d = e) : ∀ ds es : List PyData, (∀ d ∈ ds, Nc n d) → (∀ d ∈ es, Nc n d) → PyData.eqvAll ds es = true → ds = es
  | [], [], _, _, _ => rfl
  | [], y :: m, _, _, h => by simp [PyData.eqvAll] at h
  | x :: l, [], _, _, h => by simp [PyData.eqvAll] at h
  | x :: l, y :: m, hd, he, h => by
    simp only [PyData.eqvAll, Bool.and_eq_true] at h
    rw [ih x y (hd x List.mem_cons_self) (he y List.mem_cons_self) h.1, nc_all ih l m (fun d h => hd d (List.mem_cons_of_mem _ h)) (fun d h => he d (List.mem_cons_of_mem _ h)) h.2]
theorem nc_eq : ∀ (n : Nat) (d e : PyData), Nc n d → Nc n e → PyData.eqv d e = true → d = e
  | 0, _, _, h, _, _ => h.elim
  | n + 1, d, e, hd, he, h => by
    cases d with
    | none => exact hd.elim
    | bool _ => exact hd.elim
    | dict _ => exact hd.elim
    | int i =>
      cases e with
      | int j => simp only [PyData.eqv, beq_iff_eq] at h; rw [h]
      | bool _ => exact he.elim
      | _ => simp [PyData.eqv] at h
    | str i =>
      cases e with
      | str j => simp only [PyData.eqv, beq_iff_eq] at h; rw [h]
      | _ => simp [PyData.eqv] at h
    | list ds =>
      cases e with
      | list es => simp only [PyData.eqv] at h; rw [nc_all (nc_eq n) ds es hd he h]
      | _ => simp [PyData.eqv] at h
    | tuple ds =>
      cases e with
      | tuple es => simp only [PyData.eqv] at h; rw [nc_all (nc_eq n) ds es hd he h]
      | _ => simp [PyData.eqv] at h
theorem nc_eqv {n m : Nat} {d e : PyData} {p : Prop} [Decidable p] (hd : Nc n d) (he : Nc n e) (dd : deep m d = true) (h : d = e ↔ p) : PyData.eqv d e = decide p := by
  by_cases c : p
  · rw [decide_eq_true c, ← h.mpr c]
    exact eqv_same dd
  · rw [decide_eq_false c]
    exact Bool.eq_false_iff.mpr fun z => c (h.mp (nc_eq n d e hd he z))
theorem nc_mono : ∀ {n m : Nat} {d : PyData}, n ≤ m → Nc n d → Nc m d
  | 0, _, _, _, h => h.elim
  | n + 1, 0, _, l, _ => absurd l (by omega)
  | n + 1, m + 1, d, l, h => by
    cases d with
    | none => exact h
    | bool _ => exact h
    | dict _ => exact h
    | int _ => exact True.intro
    | str _ => exact True.intro
    | list ds => exact fun d hd => nc_mono (by omega) (h d hd)
    | tuple ds => exact fun d hd => nc_mono (by omega) (h d hd)
theorem nc_list {n : Nat} {α : Type} {f : α → PyData} {l : List α} (h : ∀ x ∈ l, Nc n (f x)) : Nc (n + 1) (.list (l.map f)) := fun d hd => by
  obtain ⟨x, hx, rfl⟩ := List.mem_map.mp hd
  exact h x hx
theorem nc_tup {n : Nat} {α : Type} {f : α → PyData} {l : List α} (h : ∀ x ∈ l, Nc n (f x)) : Nc (n + 1) (.tuple (l.map f)) := fun d hd => by
  obtain ⟨x, hx, rfl⟩ := List.mem_map.mp hd
  exact h x hx
theorem map_inj {α β : Type} {f : α → β} (h : ∀ a b, f a = f b → a = b) : ∀ {l m : List α}, l.map f = m.map f ↔ l = m
  | [], [] => by simp
  | [], _ :: _ => by simp
  | _ :: _, [] => by simp
  | a :: l, b :: m => by
    rw [List.map_cons, List.map_cons, List.cons.injEq, List.cons.injEq, map_inj h]
    exact ⟨fun ⟨x, y⟩ => ⟨h _ _ x, y⟩, fun ⟨x, y⟩ => ⟨by rw [x], y⟩⟩
end Hr

set_option Elab.async false
set_option linter.all false
set_option maxRecDepth 100000
set_option maxHeartbeats 4000000
/-! numbers in texts -/
namespace Hr
open PySem PySem.Spec PyProof.Rows L2
theorem num_len : ∀ n : Nat, n < 1001 → (Str.ofString (toString (n : Int))).length ≤ 8 := by decide +kernel
theorem str_len_app (a b : Str) : (a ++ b).length = a.length + b.length := by
  show (a.cps ++ b.cps).size = _
  rw [Array.size_append]
  rfl
theorem lg_small {i : Int} (h : i.natAbs ≤ 100000) : i.natAbs.log2 < 1920 := by
  by_cases c : i.natAbs = 0
  · rw [c]; decide
  · exact (Nat.log2_lt c).mpr (Nat.lt_of_le_of_lt h (by decide +kernel))
theorem num_ok : ∀ n : Nat, n < 1001 → ((cl (Str.ofString (toString (n : Int)))).all fun c => decide (c < 1000)) = true := by decide +kernel
theorem strOk_app {a b : Str} (h1 : (cl a).all (fun c => decide (c < 1000)) = true) (h2 : (cl b).all (fun c => decide (c < 1000)) = true) : (cl (a ++ b)).all (fun c => decide (c < 1000)) = true := by
  rw [show cl (a ++ b) = cl a ++ cl b from Array.toList_append, List.all_append, h1, h2]
  rfl
theorem strOk_all {a : Str} (h : (cl a).all (fun c => decide (c < 1000)) = true) : PyData.strOk a = true := strOk_of fun c hc => of_decide_eq_true (List.all_eq_true.mp h c hc)
end Hr

set_option Elab.async false
set_option linter.all false
set_option maxRecDepth 100000
set_option maxHeartbeats 4000000
/-! loops over a list or a tuple that is kept while others change -/
namespace Hr
open PySem PySem.Spec PyProof.Rows L2
theorem for_seqA {K : PySem.W.Frag} {g : TG} {tb : TS} {D : Ends} {σ : L2.St} {H : Hp} {i : Nat} {a : Addr} {xs : List V} (hv : σ[i]? = some (some (.ref a))) (Pv : Nat → L2.St → Hp → Prop) (h0 : Pv 0 σ H) (h : (∀ i σ' H', Pv i σ' H' → SqL K H' a xs) ∨ (∀ i σ' H', Pv i σ' H' → SqT K H' a xs))
    (hs : ∀ i x σ' H', i < xs.length → xs[i]? = some x → Pv i σ' H' → g x σ' H' fun σ2 H2 => tb { D with nx := Pv (i + 1), ct := Pv (i + 1), bk := D.nx } σ2 H2) (hd : ∀ σ' H', Pv xs.length σ' H' → D.nx σ' H') :
    tFor (iSeq K (tVar i)) g tb D σ H := by
  refine ⟨_, hv, a, rfl, ?_⟩
  rcases h with h | h
  · exact .inl ⟨⟨_, h _ _ _ h0⟩, for_it (walk_list (xs := xs)) Pv h0 (fun j σ' H' _ p => h _ _ _ p) (fun i x σ' H' H'' hi p y => by obtain ⟨rfl, hx⟩ := y; exact hs i x σ' _ hi hx p) hd⟩
  · exact .inr ⟨⟨_, h _ _ _ h0⟩, for_it (walk_tup (xs := xs)) Pv h0 (fun j σ' H' _ p => h _ _ _ p) (fun i x σ' H' H'' hi p y => by obtain ⟨rfl, hx⟩ := y; exact hs i x σ' _ hi hx p) hd⟩
theorem sqA_keep {K : PySem.W.Frag} {H H' : Hp} {a : Addr} {xs : List V} (s : Same H H') : (SqL K H a xs → SqL K H' a xs) ∧ (SqT K H a xs → SqT K H' a xs) := ⟨fun h => s.seq h, fun h => Same.seqT s h⟩
/-- fields as they are handed over: lists or tuples -/
def FdA (K : PySem.W.Frag) (H : Hp) (v : V) (fs : List Fld) : Prop := ∃ a xs, v = .ref a ∧ (SqL K H a xs ∨ SqT K H a xs) ∧ xs.length = fs.length ∧ ∀ (i : Nat) x f, xs[i]? = some x → fs[i]? = some f → ∃ t m, x = .ref t ∧ SqT K H t [.str f.1, m] ∧ SqA K H m (f.2.map PyData.str)
theorem FdA.same {K : PySem.W.Frag} {H H' : Hp} {v : V} {fs : List Fld} (h : FdA K H v fs) (s : Same H H') : FdA K H' v fs := by
  obtain ⟨a, xs, e, h1, h2, h3⟩ := h
  refine ⟨a, xs, e, h1.imp s.seq (Same.seqT s), h2, fun i x f hx hf => ?_⟩
  obtain ⟨t, m, e1, h4, h5⟩ := h3 i x f hx hf
  exact ⟨t, m, e1, Same.seqT s h4, h5.same s⟩
end Hr

set_option Elab.async false
set_option linter.all false
set_option maxRecDepth 100000
set_option maxHeartbeats 4000000
/-! a law that shows data: where nothing else is being shown, repr of data answers its text -/
namespace Hr
open PySem PySem.Spec PyProof.Rows L2
section
variable {X : Cx}
/-- repr of data -/
def rReprD (K : PySem.W.Frag) : List V → Hp → VK → Prop := fun xs H Q => ∃ a d, xs = [.ref a] ∧ Dp K H (.ref a) d ∧ d.showable = true ∧ d.hasDict = false ∧ d.depth ≤ 100 ∧ d.shown.length ≤ sizeLine ∧ Q (.str d.shown) H
theorem call_reprD (hg : X.A.guards = some []) (hu : X.A.units + 200 < cLine) : CallR X (.builtin "repr") (rReprD X.K) := by
  intro pins s σ H xs us Q I r h
  obtain ⟨a, d, rfl, hd, h1, h2, h3, h4, q⟩ := h
  obtain ⟨u, rfl, ru⟩ := vals1 r
  obtain rfl : u = Value.ref a := ru
  obtain ⟨as, hr⟩ := Dp.reads I d _ _ hd rfl
  exact repr_of_reads' hr h1 (PyData.noDict_hsm h2) hg (by omega) (fun b o e => e) (fun h' u tk hk => ⟨.str _, H, I.kept hk, ⟨_, rfl⟩, q⟩) h4
end
/-- a promise that is kept where nothing is being shown -/
def FnG (P : Program) (w : World) (K : PySem.W.Frag) (mg : Str → Option Value) (base : Heap) (k : Nat) (f : Addr) (fd : FuncData) (ps : List Str) (sp : Sp) : Prop :=
  ∀ (A : Around) (s : Shared) (H : Hp) (args : Args) (us : List Value) (vs : List V) (Q : VK) (E : XK), A.guards = some [] → Room k A → Env0 P w K mg base A [] s H → BindsTo s fd args (ps.zip us) → Vals vs us → sp vs H Q E →
    codeAny (model P w) A (.call (.ref f) args) (CR CX0 [] P w H s Q E) s
section
variable {P : Program} {w : World} {K : PySem.W.Frag} {mg : Str → Option Value} {base : Heap}
theorem Fun.okG {x qual : Str} {st : Stmt} {f : Addr} {fd : FuncData} {N ps : List Str} {k : Nat} {sp : Sp} (F : Fun K x qual st f fd) (S : FnScope N ps (defScope st)) (len : ∀ vs H Q E, sp vs H Q E → vs.length = ps.length)
    (body : ∀ (cdv : Value) (A : Around) (outer : List Env) (s : Shared) (H : Hp) (vs : List V) (Q : VK) (E : XK), A.guards = some [] → Room k (A.deeper (envOfC qual (defScope st) s.heap.objs.size f cdv)) → sp vs H Q E →
      ∃ t, PSs (cxOf CX0 P w K mg base N qual (defScope st) f cdv A outer s H E).nox (defBody st) t ∧ t { nx := fun _ H' => Q .non H', rt := Q } (start N vs) H) : FnG P w K mg base (k + 1) f fd ps sp := by
  obtain ⟨oc, od, kV, doc, pm, an, cdv, ct, osl, rfl, lk, hcd⟩ := F.ex
  intro A s H args us vs Q E hg hr e0 hb r hsp
  have hl := len _ _ _ _ hsp
  have kin : K.In s.heap := e0.mod.kin.keeps fun b o e => (e0.bs b o e).1
  have names : ∀ y ∈ ps.zip us, (defScope st).names.lookup y.1 = some .local ∨ ((defScope st).names.lookup y.1 = some .cell ∧ ((cellsFrom (s.heap.objs.size + 1) (defScope st).names []).lookup y.1).isSome = true) := by
    rintro ⟨n, v⟩ hy
    have hn := S.par n (List.of_mem_zip hy).1
    cases hn with
    | inl q => exact .inl q
    | inr q => exact .inr ⟨q, PySem.W.cellsFrom_some _ _ _ (.inl q)⟩
  obtain ⟨t, ht, hq⟩ := body cdv A [] s H vs Q E hg (hr.deeper _) hsp
  refine codeAny_call_function hr.depth (kin _ _ lk) rfl S.co S.gen rfl (PySem.W.codeRec_of kin hcd) (hb _ _ _ _ ?_)
  refine wpAny_newFunctionEnv_cells S.kind names fun env he s1 x => ?_
  subst he
  refine ⟨(e0.mod.nolimit.keeps fun b o e => (e0.bs b o e).1).keeps x.toInCall.keep, codeAny_func ?_⟩
  refine wpAny_mono (ht.nox.run [] s1 (start N vs) H _ (inv_start S hr.hd e0 hl r x) hq) (fun fl s' hs => ?_) fun e s' hs => hs
  cases fl with
  | ret u =>
    obtain ⟨v, σ', H', J, rv, q⟩ := hs
    exact ⟨v, H', J.os, J.bare, J.base, J.hok, rv, q⟩
  | next =>
    obtain ⟨σ', H', J, q⟩ := hs
    exact ⟨V.non, H', J.os, J.bare, J.base, J.hok, rfl, q⟩
  | brk => exact hs.choose_spec.choose_spec.2.elim
  | cont => exact hs.choose_spec.choose_spec.2.elim
end
/-- the script alone may be told: nothing, or the list itself as it lies -/
theorem script_cases {P : Program} {w : World} {K : PySem.W.Frag} {s : Shared} {a : Addr} {vs : List Value} {ns : List Int} (KX : K.In s.heap) (ha : s.heap.get? a = some { cls := .type "list", data := .seq vs.toArray }) (hi : IntsAre vs ns) (hl : ns.length ≤ sizeLine) :
    ∃ H : Hp, Only H ∧ SqL K H a (ns.map V.int) ∧ HOk P w H s.heap ∧ (∀ b, H b ≠ none → b = a ∧ K.lookup a = none) := by
  have rv := vals_ints hi
  cases hk : K.lookup a with
  | some o =>
    have e := KX a o hk
    rw [ha] at e
    cases e
    exact ⟨fun _ => none, fun _ => .inl rfl, .inr ⟨_, vs.toArray, _, hk, rfl, rfl, rfl, by rw [List.size_toArray, hi.length]; exact hl, by simpa using rv⟩, (fun b u z => nomatch (show (none : Option HO) = some u from z)), fun b z => absurd rfl z⟩
  | none =>
    let ob : Obj := { cls := .type "list", data := .seq vs.toArray }
    let H : Hp := fun b => if b = a then some (.frz ob (.lst (ns.map V.int))) else none
    have hHa : H a = some (.frz ob (.lst (ns.map V.int))) := if_pos rfl
    have hHn : ∀ b, b ≠ a → H b = none := fun b hb => if_neg hb
    refine ⟨H, fun b => ?_, .inl (.inr ⟨ob, hHa⟩), fun b u z => ?_, fun b z => ⟨Classical.byContradiction fun hb => z (hHn b hb), rfl⟩⟩
    · by_cases hb : b = a
      · subst hb; exact .inr ⟨_, _, hHa⟩
      · exact .inl (hHn b hb)
    · by_cases hb : b = a
      · subst hb
        rw [hHa] at z
        cases z
        exact ⟨ha, by rw [List.length_map]; exact hl, vs, _, rv, ha⟩
      · rw [hHn b hb] at z
        cases z
theorem law_callG {P : Program} {w : World} {K : PySem.W.Frag} {mg mb : Str → Option Value} {k : Nat} {fa a : Addr} {fd : FuncData} {x : Str} {sp : Sp} {s : Shared} {vs : List Value} {ns : List Int}
    (KX : K.In s.heap) (hns : s.heap.Ns mainGlobals mg) (hb : s.heap.Ns builtinsNs mb) (hbb : ∀ x : Str, x ≠ "__name__" → mb x = bootBuiltins x) (hlim : s.heap.NoLimit) (hg : s.gens = #[])
    (ha : s.heap.get? a = some { cls := .type "list", data := .seq vs.toArray }) (hi : IntsAre vs ns) (hl : ns.length ≤ sizeLine) (hr : Room k callerA)
    (F : ∀ base : Heap, K.In base → base.Ns mainGlobals mg → FnG P w K mg base k fa fd [x] sp) (hbind : ∀ (s : Shared) (u : Value), BindsTo s fd ⟨[u], []⟩ [(x, u)])
    (hsp : ∀ H : Hp, SqL K H a (ns.map V.int) → sp [.ref a] H (fun v _ => v = .bl true) fun _ _ _ => False) :
    codeAny (model P w) callerA (.call (.ref fa) ⟨[.ref a], []⟩) (fun r s' => r = .ok (.ret (.bool true)) ∧ OldK s.heap s'.heap ∧ s'.os = s.os ∧ AllBare s'.gens) s := by
  obtain ⟨H, hO, hS, hok, hA⟩ := script_cases (P := P) (w := w) KX ha hi hl
  -- what is told of in H is the script's list, and it is no object of K
  have told : ∀ {b : Addr} {o : Obj}, s.heap.get? b = some o → (∀ o', o.data ≠ .seq vs.toArray o') ∨ K.lookup b = some o → H b = none := fun {b o} e h => by
    cases q : H b with
    | none => rfl
    | some u =>
      obtain ⟨e1, e2⟩ := hA b (by rw [q]; exact fun z => nomatch z)
      subst e1
      rcases h with h | h
      · rw [ha] at e; cases e; exact absurd rfl (h _)
      · rw [e2] at h; cases h
  have old : ∀ {b : Addr} {m : Str → Option Value}, s.heap.Ns b m → (hidT s.heap H).Ns b m := by
    rintro b m ⟨o, es, ep, e, d, r⟩
    exact ⟨o, es, ep, hidT_get e (told e (.inl fun o' z => by rw [d] at z; cases z)), d, r⟩
  have inK : K.In (hidT s.heap H) := fun b o e => hidT_get (KX b o e) (told (KX b o e) (.inr e))
  obtain ⟨mc, l1, l2⟩ := hlim
  have e0 : Env0 P w K mg (hidT s.heap H) callerA [] s H := ⟨rfl, ⟨inK, old hns, ⟨mb, old hb, hbb⟩, ⟨mc, old l1, l2⟩⟩, fun b o e => of_hidT e, Nat.le_of_eq (hidT_size _ _), trivial, fun b hb => (nomatch hb), hok, .of_eq hg⟩
  refine codeAny_mono (F _ inK (old hns) callerA s H ⟨[.ref a], []⟩ [.ref a] [.ref a] _ _ rfl hr e0 (hbind s (.ref a)) (.cons rfl .nil) (hsp H hS)) fun r s' h => ?_
  match r, h with
  | .error e, h => exact False.elim h
  | .ok .next, h => exact False.elim h
  | .ok .brk, h => exact False.elim h
  | .ok .cont, h => exact False.elim h
  | .ok (.ret u), ⟨v, H', os, bare, un, hok', rv, q⟩ =>
    obtain rfl : v = .bl true := q
    obtain rfl : u = Value.bool true := rv
    refine ⟨rfl, OldK.of_keep fun b o e => ?_, os, bare⟩
    rcases hO b with z | ⟨ob, xs, z⟩
    · exact un.keep b o e z (fun z => nomatch z) (fun z => nomatch z)
    · have e1 := (hok b _ z).1
      rw [e] at e1
      cases e1
      exact (hok' b _ (un.frzs b _ _ z)).1
theorem walk_ofG {l : PySem.W.OpenLaw} {n k : Nat} {q : Program} {loose : List Str} {XP : (Str → Option Value) → Heap → Prop} {YP : World → Heap → Prop} {d : DefRec} {K : Params → PySem.W.Frag} {sp : PySem.W.Frag → Sp} {x : Str}
    (hn : l.most = some n) (hn2 : n ≤ sizeLine) (hdf : d.params.defaults = []) (hr : Room k callerA)
    (hY : ∀ (w : World) (h : Heap), YP w h → (K w.params).In h)
    (F : ∀ (w : World) (mg : Str → Option Value) (fa : Addr) (h : Heap), (K w.params).In h → h.Ns mainGlobals mg → mg d.name = some (.ref fa) →
      ∃ fd : FuncData, (∀ (s : Shared) (u : Value), BindsTo s fd ⟨[u], []⟩ [(x, u)]) ∧
        ∀ base : Heap, (K w.params).In base → base.Ns mainGlobals mg → FnG l.prog w (K w.params) mg base k fa fd [x] (sp (K w.params)))
    (hsp : ∀ (K : PySem.W.Frag) (H : Hp) (a : Addr) (ns : List Int), ns.length ≤ n → SqL K H a (ns.map V.int) → sp K [.ref a] H (fun v _ => v = .bl true) fun _ _ _ => False) :
    PySem.W.WalkO q loose XP YP l.row.toRowW d [] (fun f vs => PySem.call f vs) := by
  refine Att.attach_call hn hdf fun w s₀ s₁ mg mb fa o pm cd doc a vs ns G Y ho hd hcd hmg hobj hints hlen hg => ?_
  obtain ⟨fd, hb, hF⟩ := F w mg fa _ (hY w _ Y) G.T.g hmg
  exact law_callG (hY w _ Y) G.T.g G.T.b G.T.builtins G.T.nolimit hg hobj hints (Nat.le_trans hlen hn2) hr hF hb fun H hS => hsp _ H a ns hlen hS
end Hr

set_option Elab.async false
set_option linter.all false
set_option maxRecDepth 100000
set_option maxHeartbeats 4000000
/-! sets of tuples whose parts are numbers and texts -/
namespace Hr
open PySem PySem.Spec PyProof.Rows L2
/-- tuples of numbers and texts, and their hashes -/
abbrev Kt (P : Program) (w : World) (h : Heap) (k : List Key) (b : Addr) : Prop := IsTupleKey (mixKind P w) h k b
abbrev kh (P : Program) (w : World) (k : List Key) : Int := tupleKeyHash (mixKind P w) k
section
variable {P : Program} {w : World} {A : Around} {E : Value → Shared → Prop} {s : Shared}
theorem loop_ends {α R : Type} {f : α → R → Sem (ForInStep R)} {r : R} {D : R → Prop} {Q : R → Shared → Prop} : ∀ (vs : List α),
    (∀ v, v ∈ vs → ∀ G : ForInStep R → Shared → Prop, G (.yield r) s → (∀ d, D d → G (.done d) s) → wpAny (model P w) A (f v r) G E s) → Q r s → (∀ d, D d → Q d s) → wpAny (model P w) A (forIn vs r f) Q E s
  | [], _, q, _ => by
    rw [List.forIn_nil]
    exact wpAny_pure q
  | v :: vs, turn, q, qd => by
    rw [List.forIn_cons]
    refine wpAny_bind (turn v List.mem_cons_self _ ?_ fun d hd => ?_)
    · exact loop_ends vs (fun u hu => turn u (List.mem_cons_of_mem _ hu)) q qd
    · exact wpAny_pure (qd d hd)
theorem part_says {k : List Key} {vs : List Value} (h : ItemsAre (mixKind P w) k vs) : ∀ v, v ∈ vs → ∀ n, ofAClassStatement n v = pure false ∧ ∃ b, hashByValue n v = pure b := by
  induction h with
  | nil =>
    intro v m
    cases m
  | cons hk _ ih =>
    intro v m n
    rcases List.mem_cons.mp m with rfl | m
    · rcases keyIs_shape hk with ⟨i, t, _, rfl⟩ | ⟨x, t, _, rfl⟩ <;> cases n <;> exact ⟨rfl, _, rfl⟩
    · exact ih v m n
theorem tup_no_class {k : List Key} {b : Addr} {Q : Bool → Shared → Prop} (hk : Kt P w s.heap k b) (q : Q false s) : wpAny (model P w) A (ofAClassStatement 8 (.ref b)) Q E s := by
  have ty := hk.typeIs
  obtain ⟨o, its, n, at_, _, da, hi⟩ := hk
  unfold ofAClassStatement
  refine wpAny_bind (wpAny_typeOf ty ?_)
  dsimp only
  rw [if_pos (by decide)]
  refine wpAny_bind (wpAny_pure ?_)
  rw [if_neg (by decide)]
  show wpAny _ _ (seqItems? (.ref b) >>= _) _ _ s
  refine wpAny_bind (wpAny_seqItems at_ da ?_)
  dsimp only
  refine wpAny_bind ?_
  show wpAny _ _ (forIn its _ _) _ _ s
  rw [← Array.forIn_toList]
  refine loop_ends (D := fun _ => False) _ (fun v hv G g _ => ?_) (wpAny_pure q) fun _ z => z.elim
  rw [(part_says hi v hv 7).1]
  refine wpAny_bind (wpAny_pure ?_)
  rw [if_neg (by decide)]
  exact wpAny_pure g
theorem tup_by_value {k : List Key} {b : Addr} {Q : Bool → Shared → Prop} (hk : Kt P w s.heap k b) (q : ∀ r, Q r s) : wpAny (model P w) A (hashByValue 8 (.ref b)) Q E s := by
  have ty := hk.typeIs
  obtain ⟨o, its, n, at_, _, da, hi⟩ := hk
  unfold hashByValue
  refine wpAny_bind (wpAny_specialOf ty F.slot_tuple_hash.lookup ?_)
  show wpAny _ _ (seqItems? (.ref b) >>= _) _ _ s
  refine wpAny_bind (wpAny_seqItems at_ da ?_)
  refine wpAny_bind ?_
  show wpAny _ _ (forIn its _ _) _ _ s
  rw [← Array.forIn_toList]
  refine loop_ends (D := fun d => d.1 = some false) _ (fun v hv G g gd => ?_) ?_ fun d hd => ?_
  · obtain ⟨x, e⟩ := (part_says hi v hv 7).2
    rw [e]
    refine wpAny_bind (wpAny_pure ?_)
    cases x
    · rw [if_pos (by decide)]
      exact wpAny_pure (gd _ rfl)
    · rw [if_neg (by decide)]
      exact wpAny_pure g
  · exact wpAny_pure (q _)
  · obtain ⟨d1, d2⟩ := d
    cases hd
    exact wpAny_pure (q _)
theorem tup_unseen {k : List Key} {b : Addr} {Q : Bool → Shared → Prop} (hk : Kt P w s.heap k b) {ys : List Value} (hy : ∀ y, y ∈ ys → ∃ k' c, y = Value.ref c ∧ Kt P w s.heap k' c) (q : Q false s) :
    wpAny (model P w) A (searchCouldBeSeen (.ref b) ys) Q E s := by
  unfold searchCouldBeSeen
  refine wpAny_bind ?_
  refine loop_ends (D := fun _ => False) _ (fun v hv G g _ => ?_) (wpAny_pure q) fun _ z => z.elim
  obtain ⟨k', c, rfl, hc⟩ := hy v hv
  dsimp only
  split
  · exact wpAny_pure g
  · refine wpAny_bind (wpAny_eqIsQuiet_tuple hk ?_)
    rw [if_neg (by decide)]
    refine wpAny_bind (wpAny_eqIsQuiet_tuple hc ?_)
    rw [if_neg (by decide)]
    refine wpAny_bind (tup_no_class hk ?_)
    rw [if_neg (by decide)]
    refine wpAny_bind (tup_no_class hc ?_)
    rw [if_neg (by decide)]
    exact wpAny_pure g
end

/-! the table -/
/-- the entry of a member -/
def mbr (P : Program) (w : World) (p : Addr × List Key) : Int × Value := (kh P w p.2, .ref p.1)
/-- at a lies the set with the members L -/
structure Lay (P : Program) (w : World) (h : Heap) (a : Addr) (L : List (Addr × List Key)) (es : Array (Int × Value)) (ep : Nat) (t : SetTable) : Prop where
  lies : ∃ o, h.get? a = some o ∧ o.ExactSet ∧ o.data = .set es ep t
  ents : es.toList = L.map (mbr P w)
  tab : TabOk t (L.map fun p => kh P w p.2)
  uniq : (L.map (·.2)).Nodup
  keys : ∀ p, p ∈ L → Kt P w h p.2 p.1
  led : w.params.followText "set-order" = true ∨ t.led = true
  room : 5 * L.length < 3 * t.mask
  small : L.length ≤ 63
section
variable {P : Program} {w : World} {A : Around} {E : Value → Shared → Prop} {s : Shared} {a : Addr} {L : List (Addr × List Key)} {es : Array (Int × Value)} {ep : Nat} {t : SetTable}
theorem ents_size (e : es.toList = L.map (mbr P w)) : es.size = L.length := by
  have z := congrArg List.length e
  rwa [Array.length_toList, List.length_map] at z
theorem ents_at (e : es.toList = L.map (mbr P w)) (i : Nat) : es[i]? = (L[i]?).map (mbr P w) := by
  rw [← Array.getElem?_toList, e, List.getElem?_map]
theorem tab_len (T : TabOk t (L.map fun p => kh P w p.2)) : t.place.toList.length = L.length := by
  have z := T.sz
  rw [List.length_map] at z
  rw [Array.length_toList]
  exact z
theorem fits_by (T : TabOk t (L.map fun p => kh P w p.2)) (e : es.toList = L.map (mbr P w)) (r : L.length ≤ t.mask) : t.fits es.size = true := by
  have z1 := tab_len T
  rw [Array.length_toList] at z1
  have z2 := ents_size e
  unfold SetTable.fits SetTable.fill
  rw [T.dm, Bool.and_eq_true, beq_iff_eq, decide_eq_true_eq, Array.size_empty]
  omega
theorem Lay.fits (Y : Lay P w s.heap a L es ep t) : t.fits es.size = true := fits_by Y.tab Y.ents (by have := Y.room; omega)
theorem Lay.stays (Y : Lay P w s.heap a L es ep t) : t.gaveWay = false := by
  unfold SetTable.gaveWay
  rw [mask_odd Y.tab.mok]
  rfl
/-- the c-th probe of a key's way -/
abbrev stp (m : Nat) (H : Int) (c : Nat) : SetTable.Probe := nth m (runAt m (SetTable.bits H % (m + 1)) (SetTable.bits H)) c
theorem stp_dummy (m : Nat) (H : Int) : ∀ c, (stp m H c).dummy = none
  | 0 => rfl
  | c + 1 => by
    have z := stp_dummy m H c
    unfold stp at z ⊢
    rw [nth_succ]
    unfold adv
    split <;> exact z
/-- what the probe from the c-th step on meets -/
theorem probe_on (Y : Lay P w s.heap a L es ep t) {H : Int} {K : Nat} (hf : K < 10 * SetTable.turns t.mask) (he : way t.mask H K ∉ t.place.toList) (hb : ∀ c, c < K → way t.mask H c ∈ t.place.toList) {c : Nat} (hc : c ≤ K) :
    (∃ (d i : Nat) (p : Addr × List Key), c ≤ d ∧ d < K ∧ t.place.toList[i]? = some (way t.mask H d) ∧ L[i]? = some p ∧ (∀ (d' i' : Nat) (p' : Addr × List Key), c ≤ d' → d' < d → t.place.toList[i']? = some (way t.mask H d') → L[i']? = some p' → kh P w p'.2 ≠ H) ∧
      t.probe (fun i => (es[i]?.map (·.1)).getD 0) H (stp t.mask H c) = some (.candidate (way t.mask H d) i (stp t.mask H (d + 1)))) ∨
    ((∀ (d' i' : Nat) (p' : Addr × List Key), c ≤ d' → d' < K → t.place.toList[i']? = some (way t.mask H d') → L[i']? = some p' → kh P w p'.2 ≠ H) ∧
      t.probe (fun i => (es[i]?.map (·.1)).getD 0) H (stp t.mask H c) = some (.empty (way t.mask H K) none)) := by
  have mv : ∀ q, nth t.mask (stp t.mask H c) q = stp t.mask H (c + q) := fun q => (nth_add t.mask c _ q).symm
  have hash_of : ∀ (i : Nat) (p : Addr × List Key), L[i]? = some p → ((es[i]?.map (·.1)).getD 0) = kh P w p.2 := fun i p e => by
    rw [ents_at Y.ents, e]
    rfl
  have back : ∀ {lim : Nat}, (∀ q i' : Nat, q < lim → t.place.toList[i']? = some (nth t.mask (stp t.mask H c) q).j → ((es[i']?.map (·.1)).getD 0) ≠ H) →
      ∀ (d' i' : Nat) (p' : Addr × List Key), c ≤ d' → d' < c + lim → t.place.toList[i']? = some (way t.mask H d') → L[i']? = some p' → kh P w p'.2 ≠ H := fun {lim} no d' i' p' h1 h2 h3 h4 z => by
    refine no (d' - c) i' (by omega) ?_ ((hash_of i' p' h4).trans z)
    rw [mv, Nat.add_sub_cancel' h1]
    exact h3
  rcases go_spec t Y.tab.ris Y.tab.dm (fun i => (es[i]?.map (·.1)).getD 0) H (10 * SetTable.turns t.mask) (K - c) (stp t.mask H c) (stp_dummy _ _ _) (by omega)
    (fun q hq => by rw [mv]; exact hb (c + q) (by omega)) (by rw [mv, Nat.add_sub_cancel' hc]; exact he) with ⟨q, i, hq, hi, _, no, e⟩ | ⟨no, e⟩
  · rw [mv] at hi e
    rw [mv] at e
    have il : i < L.length := by
      rw [← tab_len Y.tab]
      exact (List.getElem?_eq_some_iff.mp hi).1
    exact .inl ⟨c + q, i, L[i], Nat.le_add_right _ _, by omega, hi, List.getElem?_eq_getElem il, back no, e⟩
  · rw [mv] at e
    rw [Nat.add_sub_cancel' hc] at e
    refine .inr ⟨fun d' i' p' h1 h2 => back no d' i' p' h1 (by omega), e⟩
/-- looking for a key: from the c-th step on -/
theorem look_from (Y : Lay P w s.heap a L es ep t) {x : Addr} {k : List Key} (hx : Kt P w s.heap k x) (hu : A.units < cLine) {K : Nat} (hf : K < 10 * SetTable.turns t.mask) (he : way t.mask (kh P w k) K ∉ t.place.toList)
    (hb : ∀ c, c < K → way t.mask (kh P w k) c ∈ t.place.toList) {Q : SetFound → Shared → Prop} (yes : k ∈ L.map (·.2) → Q (.there none) s) (no : k ∉ L.map (·.2) → Q (.free (way t.mask (kh P w k) K) false) s) :
    ∀ (n c : Nat) (st : Option SetTable.Probe), st.getD (t.probeStart (kh P w k)) = stp t.mask (kh P w k) c → c ≤ K → K < c + n →
      (∀ (i : Nat) (p : Addr × List Key), L[i]? = some p → p.2 = k → ∃ d, c ≤ d ∧ d < K ∧ t.place.toList[i]? = some (way t.mask (kh P w k) d)) → wpAny (model P w) A (setSearchFrom a (.ref x) (kh P w k) true n st) Q E s
  | 0, _, _, _, h1, h2, _ => absurd h2 (by omega)
  | n + 1, c, st, hst, hc, hn, ahead => by
    obtain ⟨o, ho, hex, hd⟩ := Y.lies
    rw [setSearchFrom_succ]
    refine wpAny_bind (wpAny_setState_of ho hd Y.fits ?_)
    dsimp only
    rw [if_neg (by rw [Y.stays]; decide)]
    rw [hst]
    rcases probe_on Y hf he hb hc with ⟨d, i, p, h1, h2, hi, hp, none_before, e⟩ | ⟨none_at, e⟩
    · rw [e]
      dsimp only
      have mem : p ∈ L := List.mem_of_getElem? hp
      have ent : es[i]? = some (kh P w p.2, Value.ref p.1) := by
        rw [ents_at Y.ents, hp]
        rfl
      have sl : t.slot (way t.mask (kh P w k) d) = .live i := slot_live Y.tab.ris hi
      have on : wpAny (model P w) A (searchRest a (.ref x) (kh P w k) true n es t (way t.mask (kh P w k) d) i (stp t.mask (kh P w k) (d + 1))) Q E s := by
        unfold searchRest
        rw [ent]
        dsimp only
        refine wpAny_bind (wpAny_holding (wpAny_eqBool_tuple hu (Y.keys p mem) hx ?_))
        refine wpAny_bind (wpAny_setState_of ho hd Y.fits ?_)
        dsimp only
        by_cases same : p.2 = k
        · rw [if_pos (by simp [same])]
          exact wpAny_pure (yes (List.mem_map.mpr ⟨p, mem, same⟩))
        · rw [if_neg (by simp [same]), sameMem]
          dsimp only
          simp only [if_true, sl, ent]
          refine wpAny_bind (wpAny_isSame_ref_self (wpAny_bind (wpAny_pure ?_)))
          simp only [if_true]
          rw [if_neg (by simp [same])]
          refine look_from Y hx hu hf he hb yes no n (d + 1) (some _) rfl h2 (by omega) fun i0 p0 e0 k0 => ?_
          obtain ⟨d0, g1, g2, g3⟩ := ahead i0 p0 e0 k0
          refine ⟨d0, ?_, g2, g3⟩
          rcases Nat.lt_trichotomy d0 d with z | z | z
          · exact absurd (congrArg (kh P w) k0) (none_before d0 i0 p0 g1 z g3 e0)
          · subst z
            have s0 := slot_live Y.tab.ris g3
            rw [sl] at s0
            injection s0 with s0
            rw [← s0, hp] at e0
            exact absurd ((congrArg Prod.snd (Option.some.inj e0)).trans k0) same
          · exact z
      split
      · refine wpAny_bind (tup_unseen hx (fun y hy => ?_) ?_)
        · obtain ⟨e1, he1, rfl⟩ := List.mem_map.mp hy
          have he2 : e1 ∈ es.toList := by
            have z : e1 ∈ es ∧ e1.1 = kh P w k := by simpa using he1
            simpa using z.1
          rw [Y.ents] at he2
          obtain ⟨p2, hp2, rfl⟩ := List.mem_map.mp he2
          exact ⟨p2.2, p2.1, rfl, Y.keys p2 hp2⟩
        · rw [if_neg (by decide)]
          exact on
      · exact on
    · rw [e]
      dsimp only
      refine wpAny_pure (no fun m => ?_)
      obtain ⟨p0, m0, k0⟩ := List.mem_map.mp m
      obtain ⟨i0, l0, e0⟩ := List.getElem_of_mem m0
      have e1 : L[i0]? = some p0 := by rw [List.getElem?_eq_getElem l0, e0]
      obtain ⟨d, g1, g2, g3⟩ := ahead i0 p0 e1 k0
      exact none_at d i0 p0 g1 g2 g3 e1 (congrArg (kh P w) k0)
/-- looking for a key that shall be put in -/
theorem look_at (Y : Lay P w s.heap a L es ep t) {x : Addr} {k : List Key} (hx : Kt P w s.heap k x) (hu : A.units < cLine) {Q : SetFound → Shared → Prop} (yes : k ∈ L.map (·.2) → Q (.there none) s)
    (no : ∀ K, k ∉ L.map (·.2) → way t.mask (kh P w k) K ∉ t.place.toList → (∀ c, c < K → way t.mask (kh P w k) c ∈ t.place.toList) → Q (.free (way t.mask (kh P w k) K) false) s) :
    wpAny (model P w) A (setSearch a (.ref x) (kh P w k) true) Q E s := by
  obtain ⟨K, hf, he, hb⟩ := Y.tab.first (by rw [List.length_map]; have := Y.room; omega) (kh P w k)
  have lim : K < 100000 := by
    unfold SetTable.turns at hf
    rcases Y.tab.mok with e | e | e <;> omega
  unfold setSearch
  refine look_from Y hx hu hf he hb yes (fun n => no K n he hb) 100000 0 none rfl (Nat.zero_le _) (by omega) fun i p e0 k0 => ?_
  have hi : (L.map fun p => kh P w p.2)[i]? = some (kh P w k) := by
    rw [List.getElem?_map, e0, ← k0]
    rfl
  have il : i < t.place.toList.length := by
    rw [tab_len Y.tab]
    exact (List.getElem?_eq_some_iff.mp e0).1
  obtain ⟨c, h1, h2⟩ := Y.tab.before he hi (List.getElem?_eq_getElem il)
  exact ⟨c, Nat.zero_le _, h1, by rw [List.getElem?_eq_getElem il, h2]⟩
end
end Hr

set_option Elab.async false
set_option linter.all false
set_option maxRecDepth 100000
set_option maxHeartbeats 4000000
/-! sets of tuples: putting in, set(xs) -/
namespace Hr
open PySem PySem.Spec PyProof.Rows L2
section
variable {P : Program} {w : World} {A : Around} {E : Value → Shared → Prop} {s : Shared} {a : Addr} {L : List (Addr × List Key)} {es : Array (Int × Value)} {ep : Nat} {t : SetTable}
/-- a tuple is not the set, so it stays when the set is written -/
theorem kt_but {h h' : Heap} {k : List Key} {b : Addr} {o : Obj} (hb : Kt P w h k b) (ho : h.get? a = some o) (hd : o.data = .set es ep t) (sb : Heap.SameBut a h h') : Kt P w h' k b := by
  obtain ⟨u, its, n, hu, c, d, r⟩ := hb
  refine ⟨u, its, n, (sb.2 b fun e => ?_).trans hu, c, d, r⟩
  rw [e, ho] at hu
  rw [← Option.some.inj hu, hd] at d
  cases d
theorem kt_on {h h' : Heap} {k : List Key} {b : Addr} (x : Kt P w h k b) (st : ∀ c o, h.get? c = some o → h'.get? c = some o) : Kt P w h' k b := by
  obtain ⟨u, its, n, hu, r⟩ := x
  exact ⟨u, its, n, st b u hu, r⟩
theorem Lay.on {h h' : Heap} (Y : Lay P w h a L es ep t) (ha : ∀ o, h.get? a = some o → h'.get? a = some o) (ht : ∀ p, p ∈ L → Kt P w h' p.2 p.1) : Lay P w h' a L es ep t := by
  obtain ⟨o, ho, r⟩ := Y.lies
  exact ⟨⟨o, ha o ho, r⟩, Y.ents, Y.tab, Y.uniq, ht, Y.led, Y.room, Y.small⟩
/-- the members, laid in another order -/
theorem members_by (e : es.toList = L.map (mbr P w)) {ord : Array Nat} (pm : ord.toList.Perm (List.range L.length)) :
    ∃ M : List (Addr × List Key), M.Perm L ∧ (ord.filterMap (es[·]?)).toList = M.map (mbr P w) ∧ (M.map fun p => kh P w p.2) = ord.toList.map fun i => (es.map (·.1)).getD i 0 := by
  have lim : ∀ i, i ∈ ord.toList → i < L.length := fun i hi => List.mem_range.mp (pm.mem_iff.mp hi)
  have pick : ∀ l : List Nat, (∀ i, i ∈ l → i < L.length) → (l.filterMap fun i => es[i]?) = ((l.map fun i => L[i]?.getD (0, [])).map (mbr P w)) ∧ ((l.map fun i => L[i]?.getD (0, [])).map fun p => kh P w p.2) = l.map fun i => (es.map (·.1)).getD i 0 := by
    intro l
    induction l with
    | nil => exact fun _ => ⟨rfl, rfl⟩
    | cons i l ih =>
      intro hl
      have hi := hl i List.mem_cons_self
      obtain ⟨e1, e2⟩ := ih fun j hj => hl j (List.mem_cons_of_mem _ hj)
      have g : es[i]? = some (mbr P w L[i]) := by
        rw [ents_at e, List.getElem?_eq_getElem hi]
        rfl
      have g2 : (es.map (·.1)).getD i 0 = kh P w (L[i]).2 := by
        rw [Array.getD_eq_getD_getElem?, Array.getElem?_map, g]
        rfl
      rw [List.filterMap_cons_some g, e1]
      simp only [List.map_cons, List.getElem?_eq_getElem hi, Option.getD_some, g2, e2]
      refine ⟨?_, ?_⟩ <;> first | trivial | rfl
  obtain ⟨e1, e2⟩ := pick ord.toList lim
  refine ⟨_, ?_, by rw [Array.toList_filterMap]; exact e1, e2⟩
  have z := pm.map fun i => L[i]?.getD (0, [])
  have full : ((List.range L.length).map fun i => L[i]?.getD (0, [])) = L := by
    refine List.ext_getElem (by simp) fun i h1 h2 => ?_
    simp [List.getElem?_eq_getElem h2]
  rwa [full] at z
/-- the table grows -/
theorem grow_at {o : Obj} (ho : s.heap.get? a = some o) (hex : o.ExactSet) (hd : o.data = .set es ep t) (e : es.toList = L.map (mbr P w)) (T : TabOk t (L.map fun p => kh P w p.2)) (un : (L.map (·.2)).Nodup) (ks : ∀ p, p ∈ L → Kt P w s.heap p.2 p.1)
    (ld : w.params.followText "set-order" = true ∨ t.led = true) (sm : L.length ≤ 63) (lo : L.length ≤ t.mask) {wanted M : Nat} (hw : SetTable.sizeAbove wanted = M + 1) (hM : MaskOk M) (rm : 5 * L.length < 3 * M) {Q : Unit → Shared → Prop}
    (q : ∀ h' L' es' ep' t', Heap.SameBut a s.heap h' → Lay P w h' a L' es' ep' t' → L'.Perm L → Q () { s with heap := h' }) : wpAny (model P w) A (setRelay a wanted) Q E s := by
  have sz := ents_size e
  have mle : M ≤ 127 := by rcases hM with z | z | z <;> omega
  obtain ⟨t', ord, e1, pm, T', em, el, _, _⟩ := relaid_ok t (hs := es.map (·.1)) (wanted := wanted) (by omega : SetTable.sizeAbove wanted - 1 = M) hM (by rw [Array.size_map, sz]; omega)
  rw [Array.size_map, sz] at pm
  obtain ⟨N, pN, r1, r2⟩ := members_by e pm
  rw [← r2] at T'
  have sz2 : (ord.filterMap (es[·]?)).size = es.size := by
    rw [ents_size r1, pN.length_eq, sz]
  rw [setRelay_eq]
  refine wpAny_bind (wpAny_setState_of ho hd (fits_by T e lo) ?_)
  dsimp only
  rw [if_neg (by rw [hw, sizeLine_eq]; omega), e1]
  dsimp only
  refine wpAny_bind ?_
  rw [if_neg (by rw [sz2]; simp)]
  refine wpAny_pure ?_
  dsimp only
  refine wpAny_storeSet_of ho hd ?_ (by rw [sz2, sz, sizeLine_eq]; omega)
  have sb : Heap.SameBut a s.heap (s.heap.update a (Obj.putSet (ord.filterMap (es[·]?)) t')) := Heap.SameBut.update ..
  refine q _ N _ (ep + 1) t' sb ⟨⟨_, store_at ho hd, hex, rfl⟩, r1, T', (pN.map (·.2)).nodup_iff.mpr un, fun p hp => kt_but (ks p (pN.mem_iff.mp hp)) ho hd sb, by rw [el]; exact ld, ?_, ?_⟩ pN
  · rw [pN.length_eq, em]
    exact rm
  · rw [pN.length_eq]
    exact sm
theorem tab_by {hs : List Int} {b : Bool} (T : TabOk t hs) : TabOk { t with plain := b } hs := ⟨T.ris, T.dm, T.sz, T.mok, T.bd, T.reach⟩
/-- one put in -/
theorem add_key (Y : Lay P w s.heap a L es ep t) {x : Addr} {k : List Key} (hx : Kt P w s.heap k x) (hu : A.units < cLine) (sm : L.length < 63) {Q : Bool → Shared → Prop}
    (q : ∀ b h' L' es' ep' t', Heap.SameBut a s.heap h' → Lay P w h' a L' es' ep' t' → (k ∈ L.map (·.2) ∧ L' = L ∨ k ∉ L.map (·.2) ∧ L'.Perm ((x, k) :: L)) → Q b { s with heap := h' }) :
    wpAny (model P w) A (setAddHashed a (.ref x) (kh P w k)) Q E s := by
  obtain ⟨o, ho, hex, hd⟩ := Y.lies
  unfold setAddHashed
  refine wpAny_holding ?_
  rw [show (100000 : Nat) = 99999 + 1 from rfl, setAddHashedIn_succ]
  refine wpAny_bind (wpAny_setState_of ho hd Y.fits ?_)
  dsimp only
  rw [if_neg (by simp [byScan, Value.scannable])]
  refine wpAny_bind (look_at Y hx hu (fun m => ?_) fun K m he hb => ?_)
  · exact wpAny_pure (q false s.heap L es ep t (Heap.SameBut.refl a s.heap) Y (.inl ⟨m, rfl⟩))
  dsimp only
  refine wpAny_bind (wpAny_setState_of ho hd Y.fits ?_)
  dsimp only
  obtain ⟨q1, q2, q3, q4, q5, q6, _, _, q9⟩ := Y.tab.put he hb
  generalize t.put (way t.mask (kh P w k) K) = z at q1 q3 q4 q5 q6 q9 ⊢
  obtain ⟨t1, at_⟩ := z
  dsimp only at q1 q3 q4 q5 q6 q9 ⊢
  rw [q1]
  generalize SetTable.below t.place (way t.mask (kh P w k) K) = i at q2 q3 ⊢
  have pm := put_perm L i (x, k)
  have e1 : (SetTable.insertAt es i (kh P w k, Value.ref x)).toList = (L.take i ++ (x, k) :: L.drop i).map (mbr P w) := by
    rw [SetTable.toList_insertAt, Y.ents, List.map_append, List.map_cons, List.map_take, List.map_drop]
    rfl
  have T1 : TabOk t1 ((L.take i ++ (x, k) :: L.drop i).map fun p => kh P w p.2) := by
    rw [List.map_append, List.map_cons, List.map_take, List.map_drop]
    exact q3
  generalize L.take i ++ (x, k) :: L.drop i = L1 at pm e1 T1
  have z1 : L1.length = L.length + 1 := pm.length_eq
  have un : (L1.map (·.2)).Nodup := by
    refine (pm.map (·.2)).nodup_iff.mpr ?_
    rw [List.map_cons]
    exact List.nodup_cons.mpr ⟨m, Y.uniq⟩
  have sz := ents_size e1
  generalize SetTable.insertAt es i (kh P w k, Value.ref x) = es1 at e1 sz ⊢
  have rm := Y.room
  -- whatever its last mark, the table is put back
  have go : ∀ b : Bool, wpAny (model P w) A (storeSet a es1 { t1 with plain := b } >>= fun _ => if (!false && ({ t1 with plain := b } : SetTable).tooFull) = true then (setRelay a (SetTable.grown (es.size + 1)) >>= fun _ => pure true) else pure true) Q E s := fun b => by
    have T2 : TabOk { t1 with plain := b } (L1.map fun p => kh P w p.2) := tab_by T1
    have full : ({ t1 with plain := b } : SetTable).tooFull = decide ((L.length + 1) * 5 ≥ t.mask * 3) := by
      rw [List.length_map] at q9
      show decide (t1.fill * 5 ≥ t1.mask * 3) = _
      rw [q9, q4]
    refine wpAny_bind (wpAny_storeSet_of ho hd ?_ (by rw [sz, z1, sizeLine_eq]; omega))
    have sb : Heap.SameBut a s.heap (s.heap.update a (Obj.putSet es1 { t1 with plain := b })) := Heap.SameBut.update ..
    have ho1 := store_at (es' := es1) (t' := { t1 with plain := b }) ho hd
    generalize s.heap.update a (Obj.putSet es1 { t1 with plain := b }) = h1 at sb ho1 ⊢
    have ks : ∀ p, p ∈ L1 → Kt P w h1 p.2 p.1 := fun p hp => by
      rcases List.mem_cons.mp (pm.mem_iff.mp hp) with rfl | hp
      · exact kt_but hx ho hd sb
      · exact kt_but (Y.keys p hp) ho hd sb
    have ld : w.params.followText "set-order" = true ∨ ({ t1 with plain := b } : SetTable).led = true := by
      show _ ∨ t1.led = true
      rw [q5]
      exact Y.led
    rw [full]
    by_cases c : (L.length + 1) * 5 ≥ t.mask * 3
    · rw [if_pos (by simp [c])]
      have grow : ∀ M, SetTable.sizeAbove (SetTable.grown (es.size + 1)) = M + 1 → MaskOk M → 5 * L1.length < 3 * M → wpAny (model P w) A (setRelay a (SetTable.grown (es.size + 1)) >>= fun _ => pure true) Q E { s with heap := h1 } := fun M g1 g2 g3 => by
        refine wpAny_bind (grow_at (s := { s with heap := h1 }) (L := L1) ho1 hex rfl e1 T2 un ks ld (by omega) (by show L1.length ≤ t1.mask; rw [q4]; omega) g1 g2 g3 fun h2 L2 es2 ep2 t2 sb2 Y2 pm2 => ?_)
        exact wpAny_pure (q true h2 L2 es2 ep2 t2 (sb.trans sb2) Y2 (.inr ⟨m, pm2.trans pm⟩))
      rw [ents_size Y.ents] at grow ⊢
      rcases Y.tab.mok with e | e | e <;> rw [e] at c rm
      · have l4 : L.length = 4 := by omega
        refine grow 31 ?_ (.inr (.inl rfl)) (by omega)
        rw [l4, size_20]
      · have l18 : L.length = 18 := by omega
        refine grow 127 ?_ (.inr (.inr rfl)) (by omega)
        rw [l18, size_76]
      · exact absurd c (by omega)
    · rw [if_neg (by simp [c])]
      refine wpAny_pure (q true h1 L1 es1 (ep + 1) _ sb ⟨⟨_, ho1, hex, rfl⟩, e1, T2, un, ks, ld, ?_, by omega⟩ (.inr ⟨m, pm⟩))
      show 5 * L1.length < 3 * t1.mask
      rw [q4]
      omega
  have tail : ∀ r : Bool, wpAny (model P w) A (storeSet a es1 (if r = true then t1 else { t1 with plain := false }) >>= fun _ => if (!false && (if r = true then t1 else { t1 with plain := false }).tooFull) = true then (setRelay a (SetTable.grown (es.size + 1)) >>= fun _ => pure true) else pure true) Q E s := fun r => by
    cases r
    · exact go false
    · exact go t1.plain
  split
  · exact wpAny_bind (tup_by_value hx tail)
  · exact wpAny_bind (wpAny_pure (tail true))
end
end Hr

set_option Elab.async false
set_option linter.all false
set_option maxRecDepth 100000
set_option maxHeartbeats 4000000
/-! set(xs) of tuples of numbers and texts -/
namespace Hr
open PySem PySem.Spec PyProof.Rows L2
/-- the members L come from the first i of zs, each key once -/
structure From (zs : List (Addr × List Key)) (i : Nat) (L : List (Addr × List Key)) : Prop where
  sub : ∀ p, p ∈ L → p ∈ zs.take i
  all : ∀ p, p ∈ zs.take i → p.2 ∈ L.map (·.2)
  len : L.length ≤ i
theorem From.next {zs L M : List (Addr × List Key)} {i : Nat} {z : Addr × List Key} (B : From zs i L) (h : zs[i]? = some z) (c : z.2 ∈ L.map (·.2) ∧ M = L ∨ z.2 ∉ L.map (·.2) ∧ M.Perm (z :: L)) : From zs (i + 1) M := by
  have tk : zs.take (i + 1) = zs.take i ++ [z] := by
    rw [List.take_succ, h]
    rfl
  rcases c with ⟨c, rfl⟩ | ⟨_, c⟩
  · refine ⟨fun p hp => ?_, fun p hp => ?_, Nat.le_succ_of_le B.len⟩
    · rw [tk]
      exact List.mem_append_left _ (B.sub p hp)
    · rw [tk, List.mem_append, List.mem_singleton] at hp
      rcases hp with hp | rfl
      · exact B.all p hp
      · exact c
  · refine ⟨fun p hp => ?_, fun p hp => ?_, ?_⟩
    · rw [tk, List.mem_append, List.mem_singleton]
      rcases List.mem_cons.mp (c.mem_iff.mp hp) with hp | hp
      · exact .inr hp
      · exact .inl (B.sub p hp)
    · rw [tk, List.mem_append, List.mem_singleton] at hp
      rw [(c.map (·.2)).mem_iff, List.map_cons, List.mem_cons]
      rcases hp with hp | rfl
      · exact .inr (B.all p hp)
      · exact .inl rfl
    · rw [c.length_eq]
      exact Nat.succ_le_succ B.len
section
variable {P : Program} {w : World} {A : Around} {E : Value → Shared → Prop} {s : Shared}
/-- an empty set -/
theorem lay_new {h : Heap} {a : Addr} (ho : h.get? a = some (nSet w)) : Lay P w h a [] #[] 0 (.fresh 0 0 (!w.params.followText "set-order")) where
  lies := ⟨_, ho, ⟨rfl, rfl, rfl⟩, rfl⟩
  ents := rfl
  tab := ⟨List.Pairwise.nil, rfl, rfl, .inl rfl, fun _ z => (by cases z), fun _ _ _ z => (by simp at z)⟩
  uniq := List.nodup_nil
  keys := fun _ z => (by cases z)
  led := by
    show _ ∨ (!w.params.followText "set-order") = true
    cases w.params.followText "set-order"
    · exact .inr rfl
    · exact .inl rfl
  room := (by decide : 5 * 0 < 3 * 7)
  small := Nat.zero_le _
/-- the walk that puts in -/
theorem fill_set {I : Addr} {fp wr : List Addr} {G : Array GenState → Array GenState → Prop} {n : Nat} {Pv : Nat → Value → Prop} {St : Nat → Shared → Prop} {R : Result → Shared → Prop}
    (W : WalksS P w A.in1 I fp wr G n Pv St) (S : Addr) (nS : S ∉ fp) (zs : List (Addr × List Key)) (hn : n = zs.length) (sm : zs.length ≤ 63) (hval : ∀ i v, Pv i v → ∃ z, zs[i]? = some z ∧ v = .ref z.1)
    (h0 : Heap) (hk : ∀ z, z ∈ zs → Kt P w h0 z.2 z.1) (f1 : h0.get? S = none) (f2 : ∀ b, b ∈ wr → h0.get? b = none) (hu : A.in1.units < cLine) :
    ∀ (m i : Nat) (s : Shared), n = i + m → St i s → (∀ b o, h0.get? b = some o → s.heap.get? b = some o) → (∃ L es ep t, Lay P w s.heap S L es ep t ∧ From zs i L) →
      (∀ s' L es ep t, Moved (S :: wr) G s s' → Lay P w s'.heap S L es ep t → From zs n L → (∀ b o, h0.get? b = some o → s'.heap.get? b = some o) → R (.ok (.ret .none)) s') →
      codeAny (model P w) A (.builtin "set.update.loop" ⟨[.ref S, .ref I], []⟩) R s := by
  have nw : S ∉ wr := fun z => nS (W.sub _ z)
  have up : ∀ b, b ∈ wr → b ∈ S :: wr := fun b z => List.mem_cons_of_mem _ z
  have old : ∀ {s s' : Shared}, Moved wr G s s' → (∀ b o, h0.get? b = some o → s.heap.get? b = some o) → ∀ b o, h0.get? b = some o → s'.heap.get? b = some o := fun mv k b o e =>
    mv.heap b o (fun z => by rw [f2 b z] at e; cases e) (k b o e)
  have still : ∀ {s s' : Shared} {i L es ep t}, Moved wr G s s' → (∀ b o, h0.get? b = some o → s'.heap.get? b = some o) → Lay P w s.heap S L es ep t → From zs i L → Lay P w s'.heap S L es ep t := fun mv k Y B =>
    Y.on (fun o e => mv.heap S o nw e) fun p hp => kt_on (hk p (List.mem_of_mem_take (B.sub p hp))) k
  intro m
  induction m with
  | zero =>
    intro i s e hst k ⟨L, es, ep, t, Y, B⟩ q
    obtain rfl : n = i := e
    refine codeAny_builtin F.entry_set_update_loop ?_
    rw [Around.under_plainId F.plain_set_update_loop _]
    show wpAny _ A.in1 (pyNext (.ref I) >>= _) _ _ s
    refine wpAny_bind (W.done s _ _ hst fun s' mv => ?_)
    have k' := old mv k
    exact wpAny_pure (q s' L es ep t (mv.mono up) (still mv k' Y B) B k')
  | succ m ih =>
    intro i s e hst k ⟨L, es, ep, t, Y, B⟩ q
    refine codeAny_builtin F.entry_set_update_loop ?_
    rw [Around.under_plainId F.plain_set_update_loop _]
    show wpAny _ A.in1 (pyNext (.ref I) >>= _) _ _ s
    refine wpAny_bind (W.item i s _ _ (by omega) hst fun v s' hv hst' mv => ?_)
    obtain ⟨z, hz, rfl⟩ := hval i v hv
    have k' := old mv k
    have hx : Kt P w s'.heap z.2 z.1 := kt_on (hk z (List.mem_of_getElem? hz)) k'
    show wpAny _ A.in1 (holding [Value.ref z.1] (setAdd S (.ref z.1)) >>= _) _ _ s'
    refine wpAny_bind (wpAny_holding ?_)
    unfold setAdd
    refine wpAny_holding (wpAny_bind (wpAny_pyHash_tuple hu hx ?_))
    have Y1 := still mv k' Y B
    refine add_key (s := { s' with toks := s'.toks + (z.2.length + 1) }) Y1 hx hu (by have := B.len; omega) fun b h' L' es' ep' t' sb Y' c => ?_
    refine wpAny_pure ⟨plainId_quiet F.plain_set_update_loop _, ih (i + 1) _ (by omega) (W.frame _ s' _ _ hst' (Nat.le_add_right _ _) fun b hb o e => (sb.2 b fun z => nS (z ▸ hb)).trans e) ?_ ⟨L', es', ep', t', Y', B.next hz c⟩ fun s'' L2 es2 ep2 t2 mv2 Y2 F2 k2 => ?_⟩
    · exact fun b o e => (sb.2 b fun z => by rw [z, f1] at e; cases e).trans (k' b o e)
    · refine q s'' L2 es2 ep2 t2 (Moved.trans W.gtrans ((mv.mono up).then_heap (Nat.le_add_right _ _) fun b o hb e => (sb.2 b fun z => hb (by rw [z]; exact List.mem_cons_self)).trans e) mv2) Y2 F2 k2
/-- what set(xs) leaves -/
def KeysMade (P : Program) (w : World) (s : Shared) (zs : List (Addr × List Key)) (s2 : Shared) : Prop :=
  ∃ h' tk L es ep t, s2 = { s with heap := h', toks := tk } ∧ Lay P w h' s.heap.objs.size L es ep t ∧ From zs zs.length L ∧ ∀ b o, s.heap.get? b = some o → h'.get? b = some o
theorem call_set_keys {l : Addr} {items : Array Value} {zs : List (Addr × List Key)} {Q : Value → Shared → Prop} (hh : A.handled = none) (hl : s.heap.IsList l items ∨ s.heap.IsTuple l items) (hit : items.toList = zs.map fun z => Value.ref z.1)
    (hk : ∀ z, z ∈ zs → Kt P w s.heap z.2 z.1) (sm : zs.length ≤ 63) (hu : A.units + 3 < cLine) (q : ∀ s2, KeysMade P w s zs s2 → Q (.ref s.heap.objs.size) s2) : wpAny (model P w) A (call (.type "set") [.ref l]) Q E s := by
  have hz : items.size = zs.length := by
    have z := congrArg List.length hit
    rwa [Array.length_toList, List.length_map] at z
  have hval : ∀ (i : Nat) (v : Value), items[i]? = some v → ∃ z, zs[i]? = some z ∧ v = .ref z.1 := fun i v hv => by
    rw [← Array.getElem?_toList, hit, List.getElem?_map] at hv
    cases e : zs[i]? with
    | none =>
      rw [e] at hv
      cases hv
    | some z =>
      rw [e] at hv
      exact ⟨z, rfl, (Option.some.inj hv).symm⟩
  have fC := F.called_set
  obtain ⟨c, tl, mro⟩ := fC.mro
  have f1 := fC.made; have f2 := fC.sub; have f3 := fC.notType; have f4 := fC.canCreate
  have f5 := F.typeCall_set_1 (.ref l)
  have f6 := fC.init.lookup
  have f7 := fC.init.bind (.ref s.heap.objs.size)
  have at0 : (s.heap.push (nSet w)).get? s.heap.objs.size = some (nSet w) := Heap.get?_push_size _ rfl
  have tS : Shared.TypeIs { s with heap := s.heap.push (nSet w) } (.ref s.heap.objs.size) "set" := ⟨_, at0, rfl⟩
  have lt0 : l < s.heap.objs.size := by
    rcases hl with ⟨o, ho, _⟩ | ⟨o, ho, _⟩ <;> exact Heap.lt_size ho
  have none_of : ∀ b, s.heap.objs.size ≤ b → s.heap.get? b = none := fun b hb => by
    cases e : s.heap.get? b with
    | none => rfl
    | some o => exact absurd (Heap.lt_size e) (Nat.not_lt_of_le hb)
  have nI : l ≠ (s.heap.push (nSet w)).objs.size := by
    rw [Heap.size_push]
    exact Nat.ne_of_lt (Nat.lt_succ_of_lt lt0)
  have nS : s.heap.objs.size ∉ [(s.heap.push (nSet w)).objs.size, l] := fun z => by
    rw [Heap.size_push] at z
    rcases List.mem_cons.mp z with z | z
    · omega
    · exact Nat.ne_of_gt lt0 (List.mem_singleton.mp z)
  refine wpAny_call (codeAny_of_tree ?_)
  show wpAny _ _ (callAny (.type "set") _) _ _ _
  refine wpAny_pure ⟨Code.quiet_builtin _ (by decide +kernel), codeAny_builtin F.entry_type_call ?_⟩
  rw [Around.under_plain (weight_type_call_type "set" [.ref l] []) rfl]
  repeat (any_goals (first | assumption | wp_step))
  refine codeAny_mono (code_set_led1 (.ref l) (E := E) (Q₁ := fun x s1 => x = .ref s.heap.objs.size ∧ s1 = { s with heap := s.heap.push (nSet w) }) ⟨rfl, rfl⟩) fun r s1 hr => ?_
  rcases r with e | fl
  · exact hr
  cases fl
  case ret =>
    obtain ⟨rfl, rfl⟩ := hr
    repeat (any_goals (first | assumption | wp_step))
    refine codeAny_mono (codeAny_call_builtin (R := wants (fun x s2 => x = .none ∧ KeysMade P w s zs s2) E) fC.init.plain F.entry_set_init (check_set_init_1 tS ?_)) fun r2 s2 hr2 => ?_
    · have fin : ∀ {St : Nat → Shared → Prop} {G : Array GenState → Array GenState → Prop} {R : Result → Shared → Prop} (ito : Obj), (∀ u v, G u v → v = u) → WalksS P w A.in1.in1.in1 (s.heap.push (nSet w)).objs.size [(s.heap.push (nSet w)).objs.size, l] [(s.heap.push (nSet w)).objs.size] G items.size (fun i v => items[i]? = some v) St →
          St 0 { s with heap := (s.heap.push (nSet w)).push ito } → (∀ s2, KeysMade P w s zs s2 → R (.ok (.ret .none)) s2) →
          codeAny (model P w) A.in1.in1 (.builtin "set.update.loop" ⟨[.ref s.heap.objs.size, .ref (s.heap.push (nSet w)).objs.size], []⟩) R { s with heap := (s.heap.push (nSet w)).push ito } := fun {St G R} ito hG W st0 q => by
        refine fill_set W s.heap.objs.size nS zs hz sm hval s.heap hk (none_of _ (Nat.le_refl _)) (fun b hb => none_of b ?_) hu items.size 0 _ (Nat.zero_add _).symm st0 (fun b o e => Heap.get?_push_of_some _ (Heap.get?_push_of_some _ e))
          ⟨[], #[], 0, _, lay_new (Heap.get?_push_of_some _ at0), fun _ z => (by cases z), fun _ z => (by simp at z), Nat.le_refl 0⟩ fun s' L es ep t mv Y B k => q s' ?_
        · rw [List.mem_singleton.mp hb, Heap.size_push]
          exact Nat.le_succ _
        · obtain ⟨h', g', d', k', o'⟩ := s'
          have q1 : g' = s.gens := hG _ _ mv.gens
          have q2 : d' = s.drawn := mv.drawn
          have q3 : o' = s.os := mv.os
          subst q1; subst q2; subst q3
          exact ⟨h', k', L, es, ep, t, rfl, Y, hz ▸ B, k⟩
      rcases hl with hl | hl
      · have hl1 : (s.heap.push (nSet w)).IsList l items := hl.push _
        obtain ⟨⟨_, od, _, os⟩, ho, rfl, n, rfl⟩ := hl1
        have e1 := F.sub_list_set; have e2 := F.sub_list_frozenset
        have e3 : (Value.type "list" == Value.type "dict") = false := by decide
        have hl1 : (s.heap.push (nSet w)).IsList l items := hl.push _
        unfold Builtin.«set.__init__» noKeywords Builtin.Frozenset.updateFrom
        generalize hPI : pyIter = PI
        wp_walk
        subst hPI
        refine wpAny_pyIter_list hl1 (wpAny_bind (wpAny_runValue ?_))
        refine fin _ (fun _ _ e => e) (Walks.list (by simp [hh]) _ l nI items).toS ⟨⟨_, Heap.get?_push_size _ rfl, rfl, rfl⟩, hl1.push _⟩ fun s2 hm => ?_
        exact wpAny_pure (wpAny_pure ⟨rfl, hm⟩)
      · have hl1 : (s.heap.push (nSet w)).IsTuple l items := hl.push _
        obtain ⟨⟨_, od, _, os⟩, ho, rfl, n, rfl⟩ := hl1
        have e1 := F.sub_tuple_set; have e2 := F.sub_tuple_frozenset
        have e3 : (Value.type "tuple" == Value.type "dict") = false := by decide
        have hl1 : (s.heap.push (nSet w)).IsTuple l items := hl.push _
        unfold Builtin.«set.__init__» noKeywords Builtin.Frozenset.updateFrom
        generalize hPI : pyIter = PI
        wp_walk
        subst hPI
        refine wpAny_pyIter_tuple hl1 (wpAny_bind (wpAny_runValue ?_))
        refine fin _ (fun _ _ e => e) (Walks.tuple (by simp [hh]) _ l nI items).toS ⟨⟨_, Heap.get?_push_size _ rfl, rfl, rfl⟩, hl1.push _⟩ fun s2 hm => ?_
        exact wpAny_pure (wpAny_pure ⟨rfl, hm⟩)
    · rcases r2 with e | fl
      · exact hr2
      cases fl
      case ret =>
        obtain ⟨rfl, hm⟩ := hr2
        repeat (any_goals (first | assumption | wp_step))
        exact q _ hm
      all_goals exact hr2.elim
  all_goals exact hr.elim
end
end Hr

set_option Elab.async false
set_option linter.all false
set_option maxRecDepth 100000
set_option maxHeartbeats 4000000
/-! sets of reasons: set(xs), sorted(set) -/
namespace Hr
open PySem PySem.Spec PySem.W PyProof.Rows L2
/-- a reason as a key -/
def rsK (r : Re) : List Key := [.inr r.1, .inl r.2]
theorem rsK_inj {r r' : Re} (h : rsK r = rsK r') : r = r' := by
  obtain ⟨x, i⟩ := r
  obtain ⟨y, j⟩ := r'
  injection h with h1 h2
  injection h2 with h2 _
  injection h1 with h1
  injection h2 with h2
  exact Prod.ext h1 h2
abbrev reK (z : Addr × Re) : Addr × List Key := (z.1, rsK z.2)
/-- the set of the reasons L -/
def SetRO (P : Program) (w : World) (a : Addr) (L : List (Addr × Re)) : HO := .ext fun h => ∃ (es : Array (Int × Value)) (ep : Nat) (t : SetTable), (∃ o, h.get? a = some o ∧ o.ExactSet ∧ o.data = .set es ep t) ∧ es.toList = (L.map reK).map (mbr P w) ∧
  TabOk t ((L.map reK).map fun p => kh P w p.2) ∧ (w.params.followText "set-order" = true ∨ t.led = true) ∧ 5 * L.length < 3 * t.mask ∧ L.length ≤ 63
theorem setRO_new {P : Program} {w : World} {H : Hp} {h : Heap} {a : Addr} {L : List (Addr × Re)} {es : Array (Int × Value)} {ep : Nat} {t : SetTable} (Y : Lay P w h a (L.map reK) es ep t) : ObjOk P w H h a (SetRO P w a L) := by
  obtain ⟨o, ho, r⟩ := Y.lies
  have z1 := Y.room
  have z2 := Y.small
  rw [List.length_map] at z1 z2
  exact ⟨⟨es, ep, t, ⟨o, ho, r⟩, Y.ents, Y.tab, Y.led, z1, z2⟩, ⟨o, ho⟩, fun h1 h2 p k => let ⟨es', ep', t', ⟨o', ho', r'⟩, q⟩ := p; ⟨es', ep', t', ⟨o', k o' ho', r'⟩, q⟩⟩
section
variable {X : Cx} {pins : List (Addr × Obj)} {σ : L2.St} {H : Hp} {s : Shared}
theorem re_key (I : Inv X pins σ H s) {b : Addr} {r : Re} (h : Dp X.K H (.ref b) (rsD r)) : Kt X.prog X.w s.heap (rsK r) b := by
  obtain ⟨a, e, hs⟩ := rs_open h
  cases e
  obtain ⟨its, rv, ⟨o, ho, hc, n, hd⟩, _⟩ := I.tuple hs
  refine ⟨o, its.toArray, n, ho, hc, hd, ?_⟩
  cases rv with
  | cons r1 rv =>
    cases rv with
    | cons r2 rv =>
      cases rv
      exact .cons (kV_is (k := .inr r.1) r1) (.cons (kV_is (k := .inl r.2) r2) .nil)
theorem re_refs {K : PySem.W.Frag} {H : Hp} : ∀ {xs : List V} {re : List Re}, DpAll K H xs (re.map rsD) → ∃ zs : List (Addr × Re), xs = zs.map (fun z => V.ref z.1) ∧ re = zs.map (·.2) ∧ ∀ z, z ∈ zs → Dp K H (.ref z.1) (rsD z.2)
  | [], [], _ => ⟨[], rfl, rfl, fun _ z => (by cases z)⟩
  | x :: xs, r :: re, .cons h1 h2 => by
    obtain ⟨zs, e1, e2, hz⟩ := re_refs h2
    obtain ⟨a, rfl, _⟩ := rs_open h1
    refine ⟨(a, r) :: zs, by rw [e1]; rfl, by rw [e2]; rfl, fun z m => ?_⟩
    rcases List.mem_cons.mp m with rfl | m
    · exact h1
    · exact hz z m
theorem vals_refs {α : Type} {f : α → Addr} : ∀ {zs : List α} {us : List Value}, Vals (zs.map fun z => V.ref (f z)) us → us = zs.map fun z => Value.ref (f z)
  | [], _, .nil => rfl
  | z :: zs, _, .cons r t => by
    cases r
    rw [vals_refs t]
    rfl
theorem refs_vals {α : Type} {f : α → Addr} : ∀ (zs : List α), Vals (zs.map fun z => V.ref (f z)) (zs.map fun z => Value.ref (f z))
  | [] => .nil
  | _ :: zs => .cons rfl (refs_vals zs)
/-- set(xs), xs a list or a tuple of reasons -/
@[irreducible] def rSetRe (K : PySem.W.Frag) (P : Program) (w : World) : List V → Hp → VK → Prop := fun vs H Q => ∃ (a : Addr) (xs : List V) (re : List Re), vs = [V.ref a] ∧ (SqL K H a xs ∨ SqT K H a xs) ∧ DpAll K H xs (re.map rsD) ∧ re.length ≤ 63 ∧
  ∀ (p : Addr) (L : List (Addr × Re)), H p = none → (∀ z, z ∈ L → Dp K H (.ref z.1) (rsD z.2)) → (∀ r, r ∈ L.map (·.2) ↔ r ∈ re) → (L.map (·.2)).Nodup → Q (.ref p) (upd H p (SetRO P w p L))
theorem cr_setRe {K : PySem.W.Frag} {P : Program} {w : World} (hc : X.calm = true) (hu : X.A.units + 64 < cLine) (eK : X.K = K := by rfl) (eP : X.prog = P := by rfl) (ew : X.w = w := by rfl) : CallR X (.type "set") (rSetRe K P w) := by
  subst eK; subst eP; subst ew
  intro pins s σ H vs us Q I r h
  unfold rSetRe at h
  obtain ⟨a, xs, re, rfl, hs, hd, hl, q⟩ := h
  rw [Vals.ref1 r]
  obtain ⟨zs, rfl, rfl, hz⟩ := re_refs hd
  rw [List.length_map] at hl
  have hk : ∀ p, p ∈ zs.map reK → Kt X.prog X.w s.heap p.2 p.1 := fun p hp => by
    obtain ⟨z, m, rfl⟩ := List.mem_map.mp hp
    exact re_key I (hz z m)
  obtain ⟨items, hl', hit⟩ : ∃ items : Array Value, (s.heap.IsList a items ∨ s.heap.IsTuple a items) ∧ items.toList = (zs.map reK).map (fun z => Value.ref z.1) := by
    rcases hs with hs | hs
    · obtain ⟨its, rv, hl', _⟩ := I.list hs
      refine ⟨its.toArray, .inl hl'.isList, ?_⟩
      rw [vals_refs rv, List.map_map]
      rfl
    · obtain ⟨its, rv, hl', _⟩ := I.tuple hs
      refine ⟨its.toArray, .inr hl', ?_⟩
      rw [vals_refs rv, List.map_map]
      rfl
  refine call_set_keys (zs := zs.map reK) (I.ok.hd hc) hl' hit hk (by rw [List.length_map]; exact hl) (by omega) fun s2 ⟨h', tk, L, es, ep, t, e, Y, F, k⟩ => ?_
  subst e
  have F1 : ∀ p, p ∈ L → p ∈ zs.map reK := fun p hp => List.mem_of_mem_take (F.sub p hp)
  have F2 : ∀ p, p ∈ zs.map reK → p.2 ∈ L.map (·.2) := fun p hp => F.all p (by rw [List.take_length]; exact hp)
  obtain ⟨M, rfl, hM⟩ : ∃ M : List (Addr × Re), L = M.map reK ∧ ∀ z, z ∈ M → z ∈ zs := by
    clear F2 F Y
    induction L with
    | nil => exact ⟨[], rfl, fun _ z => (by cases z)⟩
    | cons p L ih =>
      obtain ⟨M, rfl, hM⟩ := ih fun p hp => F1 p (List.mem_cons_of_mem _ hp)
      obtain ⟨z, hz, rfl⟩ := List.mem_map.mp (F1 p List.mem_cons_self)
      exact ⟨z :: M, rfl, fun y hy => (List.mem_cons.mp hy).elim (fun e => e ▸ hz) (hM y)⟩
  refine ⟨.ref _, upd H s.heap.objs.size (SetRO X.prog X.w s.heap.objs.size M), I.laid (t' := tk) k (Nat.le_refl _) (setRO_new Y), rfl, q _ M (I.hok.fresh (Nat.le_refl _)) (fun z m => hz z (hM z m)) (fun r => ⟨fun m => ?_, fun m => ?_⟩) ?_⟩
  · obtain ⟨z, mz, rfl⟩ := List.mem_map.mp m
    exact List.mem_map.mpr ⟨z, hM z mz, rfl⟩
  · obtain ⟨z, mz, rfl⟩ := List.mem_map.mp m
    have y := F2 (reK z) (List.mem_map.mpr ⟨z, mz, rfl⟩)
    rw [List.map_map] at y
    obtain ⟨z', m', e⟩ := List.mem_map.mp y
    exact List.mem_map.mpr ⟨z', m', rsK_inj e⟩
  · have y := Y.uniq
    rw [List.map_map] at y
    exact List.pairwise_map.mpr ((List.pairwise_map.mp y).imp fun {u v} h e => h (by show rsK u.2 = rsK v.2; rw [e]))
theorem perm_back {α β : Type} {f : α → β} : ∀ (L : List α) {vs : List β}, vs.Perm (L.map f) → ∃ M : List α, M.Perm L ∧ vs = M.map f
  | [], vs, h => ⟨[], List.Perm.refl _, by simpa using h.eq_nil⟩
  | x :: L, vs, h => by
    have m : f x ∈ vs := h.mem_iff.mpr List.mem_cons_self
    obtain ⟨u, v, rfl⟩ := List.append_of_mem m
    have h2 : (u ++ v).Perm (L.map f) := by
      have z : (f x :: (u ++ v)).Perm (f x :: L.map f) := (List.perm_middle.symm).trans h
      exact z.cons_inv
    obtain ⟨M, pM, e⟩ := perm_back L h2
    obtain ⟨M1, M2, rfl, rfl, rfl⟩ := List.append_eq_map_iff.mp e
    exact ⟨M1 ++ x :: M2, (List.perm_middle.trans (pM.cons x)), by rw [List.map_append, List.map_cons]⟩
/-- the order of reasons -/
def reLe : Addr × Re → Addr × Re → Bool := dataLe false fun z => rsD z.2
/-- sorted of a set of reasons -/
@[irreducible] def rSortRe (K : PySem.W.Frag) (P : Program) (w : World) : List V → Hp → VK → Prop := fun vs H Q => ∃ (a : Addr) (L : List (Addr × Re)), vs = [V.ref a] ∧ H a = some (SetRO P w a L) ∧ (∀ z, z ∈ L → Dp K H (.ref z.1) (rsD z.2)) ∧
  ∀ (p : Addr) (M : List (Addr × Re)), M.Perm L → H p = none → Q (.ref p) (upd H p (.lst ((M.mergeSort reLe).map fun z => V.ref z.1)))
theorem re_alike : ∀ r r' : Re, alike (rsD r) (rsD r') = true := fun _ _ => rfl
theorem cr_sortRe {K : PySem.W.Frag} {P : Program} {w : World} (hc : X.calm = true) (hu : X.A.units + 64 < cLine) (eK : X.K = K := by rfl) (eP : X.prog = P := by rfl) (ew : X.w = w := by rfl) : CallR X (.builtin "sorted") (rSortRe K P w) := by
  subst eK; subst eP; subst ew
  intro pins s σ H vs us Q I r h
  unfold rSortRe at h
  obtain ⟨a, L, rfl, ha, hd, q⟩ := h
  rw [Vals.ref1 r]
  obtain ⟨es, ep, t, ⟨o, ho, hex, hda⟩, ents, tab, led, room, small⟩ : (∃ (es : Array (Int × Value)) (ep : Nat) (t : SetTable), _) := (I.hok a _ ha).1
  have sz := ents_size ents
  rw [List.length_map] at sz
  have hf : t.fits es.size = true := fits_by tab ents (by rw [List.length_map]; omega)
  refine Calls.call_function_entry kind_sorted plain_sorted entry_sorted (args_sorted1 _) ?_
  unfold Builtin.«sorted»
  refine wpAny_bind (m := checkCount "sorted" 1 1 _) (wpAny_pure ?_)
  refine wpAny_bind (collect_set (A := X.A.in1) (I.ok.hd hc) ⟨o, ho, hex.1, hda⟩ hf (by rw [sz]; unfold scanBound; omega) tab.ris led fun s1 vs k1 hz g1 o1 pm => ?_)
  have e1 : es.toList.map (·.2) = L.map fun z => Value.ref z.1 := by
    rw [ents, List.map_map, List.map_map]
    rfl
  rw [e1] at pm
  obtain ⟨M, pM, rfl⟩ := perm_back L pm
  have lM : M.length ≤ 63 := by
    rw [pM.length_eq]
    exact small
  refine wpAny_bind (wpAny_newList ?_ (by rw [List.length_map, sizeLine_eq]; omega))
  have hoL : (s1.heap.push (seqObj "list" (M.map fun z => Value.ref z.1).toArray 0)).get? s1.heap.objs.size = some (seqObj "list" (M.map fun z => Value.ref z.1).toArray 0) := Heap.get?_push_size _ rfl
  have rd : ∀ z, z ∈ M → Reads (s1.heap.push (seqObj "list" (M.map fun z => Value.ref z.1).toArray 0)) (.ref z.1) (rsD z.2) [] := fun z m => by
    obtain ⟨as, rz⟩ := Dp.reads I _ _ (.ref z.1) (hd z (pM.mem_iff.mp m)) rfl
    have e : as = [] := by
      unfold rsD at rz
      cases rz with
      | tuple _ _ _ ra =>
        generalize hq : Array.toList _ = q at ra
        cases ra with
        | cons r1 ra =>
          cases r1
          cases ra with
          | cons r2 ra =>
            cases r2
            cases ra
            rfl
    subst e
    exact PyProof.Rows.Reads.keeps (fun b o e => Heap.get?_push_of_some _ (k1 b o e)) rz
  have ei : EachIs (fun u (z : Addr × Re) => u = Value.ref z.1) (M.map fun z => Value.ref z.1) M := by
    clear rd hoL lM pM pm
    induction M with
    | nil => exact .nil
    | cons z M ih => exact .cons rfl ih
  have er : EachIs (fun u (z : Addr × Re) => ∃ as, Reads (s1.heap.push (seqObj "list" (M.map fun z => Value.ref z.1).toArray 0)) u (rsD z.2) as ∧ s1.heap.objs.size ∉ as) (M.map fun z => Value.ref z.1) M := by
    generalize s1.heap.push (seqObj "list" (M.map fun z => Value.ref z.1).toArray 0) = hh at rd
    clear ei hoL lM pM pm
    induction M with
    | nil => exact .nil
    | cons z M ih => exact .cons ⟨[], rd z List.mem_cons_self, fun y => (by cases y)⟩ (ih fun y hy => rd y (List.mem_cons_of_mem _ hy))
  refine wpAny_bind (wpAny_holding (list_sort_data (s := { s1 with heap := s1.heap.push (seqObj "list" (M.map fun z => Value.ref z.1).toArray 0) }) hoL ei er (AllAlike.of fun _ _ => rfl) (Sortable.tuples fun z => ⟨_, _, rfl⟩) (by rw [sizeLine_eq]; omega) (fun z _ => ?_) fun out hl' eo => ?_))
  · have e : (rsD z.2).depth = 1 := rfl
    have e2 : X.A.in1.units = X.A.units + 1 := rfl
    rw [e, e2]
    omega
  obtain ⟨c, hcL⟩ := sortedHeap_at (vs := M.map fun z => Value.ref z.1) (out := out.toArray) hoL
  have eout : out = (M.mergeSort reLe).map fun z => Value.ref z.1 := by
    clear hcL hl'
    have z : ∀ {us : List Value} {zs : List (Addr × Re)}, EachIs (fun u (z : Addr × Re) => u = Value.ref z.1) us zs → us = zs.map fun z => Value.ref z.1 := fun {us zs} h => by
      induction h with
      | nil => rfl
      | cons h _ ih => rw [h, ih]; rfl
    exact z eo
  subst eout
  have len : ((M.mergeSort reLe).map fun z => V.ref z.1).length ≤ sizeLine := by
    rw [List.length_map, List.length_mergeSort, sizeLine_eq]
    omega
  refine wpAny_pure ⟨_, rfl, .ref _, upd H s1.heap.objs.size (.lst ((M.mergeSort reLe).map fun z => V.ref z.1)), ?_, rfl, q _ M pM (I.hok.fresh hz)⟩
  have k2 : ∀ b o, s.heap.get? b = some o → (sortedHeap (s1.heap.push (seqObj "list" (M.map fun z => Value.ref z.1).toArray 0)) s1.heap.objs.size (M.map fun z => Value.ref z.1) ((M.mergeSort reLe).map fun z => Value.ref z.1).toArray).get? b = some o := fun b o e => by
    have y := k1 b o e
    have lt := Heap.lt_size y
    rw [sortedHeap_old (Nat.ne_of_lt lt) (by rw [size_push']; exact Nat.lt_succ_of_lt lt)]
    exact Heap.get?_push_of_some _ y
  have fr : H s1.heap.objs.size = none := I.hok.fresh hz
  exact I.call' (ch := []) o1 (Un.laid k2 hz fr) (I.hok.laid k2 hz ⟨len, _, c, refs_vals _, hcL⟩) (by show AllBare s1.gens; rw [g1]; exact I.bare) (fun _ z => nomatch z)
end
end Hr

set_option Elab.async false
set_option linter.all false
set_option maxRecDepth 100000
set_option maxHeartbeats 4000000
/-! reasons in their order, each once -/
namespace Hr
open PySem PySem.Spec PySem.W PyProof.Rows L2
def leR (a b : Re) : Bool := decide (a.1.cps.toList < b.1.cps.toList ∨ (a.1 = b.1 ∧ a.2 ≤ b.2))
theorem str_of {x y : Str} (h : x.cps.toList = y.cps.toList) : x = y := by
  obtain ⟨x⟩ := x
  obtain ⟨y⟩ := y
  exact congrArg Str.mk (Array.toList_inj.mp h)
theorem reLe_is (z z' : Addr × Re) : reLe z z' = leR z.2 z'.2 := by
  unfold reLe rsD leR
  show (!dataLt (.tuple [.str z'.2.1, .int z'.2.2]) (.tuple [.str z.2.1, .int z.2.2])) = _
  rw [dataLt_pair (by simp [alike]) (by simp [alike]), dataLt_int, dataLt_str]
  simp only [PyData.eqv, beq_iff_eq]
  obtain ⟨_, x, i⟩ := z
  obtain ⟨_, y, j⟩ := z'
  dsimp only
  by_cases e : y = x
  · subst e
    rw [if_pos rfl]
    by_cases c : j = i
    · subst c
      rw [if_pos rfl, decide_eq_true (.inr ⟨rfl, Int.le_refl _⟩)]
      rfl
    · rw [if_neg c, Bool.eq_iff_iff, Bool.not_eq_true', decide_eq_false_iff_not, decide_eq_true_eq]
      constructor
      · intro h
        exact .inr ⟨rfl, by omega⟩
      · rintro (h | h)
        · exact absurd h (List.lt_irrefl _)
        · omega
  · rw [if_neg e, Bool.eq_iff_iff, Bool.not_eq_true', decide_eq_false_iff_not, decide_eq_true_eq]
    constructor
    · intro h
      left
      rcases Classical.em (x.cps.toList < y.cps.toList) with c | c
      · exact c
      · exact absurd (str_of (List.le_antisymm (List.not_lt.mp c) (List.not_lt.mp h))) e
    · rintro (h | h)
      · exact List.lt_asymm h
      · exact absurd h.1.symm e
theorem leR_total (a b : Re) : (leR a b || leR b a) = true := by
  unfold leR
  rw [Bool.or_eq_true, decide_eq_true_eq, decide_eq_true_eq]
  by_cases e : a.1 = b.1
  · rcases Int.le_total a.2 b.2 with c | c
    · exact .inl (.inr ⟨e, c⟩)
    · exact .inr (.inr ⟨e.symm, c⟩)
  · rcases Classical.em (a.1.cps.toList < b.1.cps.toList) with c | c
    · exact .inl (.inl c)
    · right
      left
      rcases Classical.em (b.1.cps.toList < a.1.cps.toList) with d | d
      · exact d
      · exact absurd (str_of (List.le_antisymm (List.not_lt.mp d) (List.not_lt.mp c))) e
theorem leR_trans (a b c : Re) (h1 : leR a b = true) (h2 : leR b c = true) : leR a c = true := by
  unfold leR at *
  rw [decide_eq_true_eq] at *
  rcases h1 with h1 | ⟨e1, h1⟩
  · rcases h2 with h2 | ⟨e2, h2⟩
    · exact .inl (List.lt_trans h1 h2)
    · rw [← e2]
      exact .inl h1
  · rcases h2 with h2 | ⟨e2, h2⟩
    · rw [e1]
      exact .inl h2
    · exact .inr ⟨e1.trans e2, Int.le_trans h1 h2⟩
theorem leR_anti (a b : Re) (h1 : leR a b = true) (h2 : leR b a = true) : a = b := by
  unfold leR at *
  rw [decide_eq_true_eq] at *
  rcases h1 with h1 | ⟨e1, h1⟩
  · rcases h2 with h2 | ⟨e2, h2⟩
    · exact absurd h2 (List.lt_asymm h1)
    · rw [e2] at h1
      exact absurd h1 (List.lt_irrefl _)
  · rcases h2 with h2 | ⟨e2, h2⟩
    · rw [e1] at h2
      exact absurd h2 (List.lt_irrefl _)
    · exact Prod.ext e1 (Int.le_antisymm h1 h2)
def onceR : List Re → List Re
  | [] => []
  | r :: l => if r ∈ l then onceR l else r :: onceR l
theorem mem_once {r : Re} : ∀ {l : List Re}, r ∈ onceR l ↔ r ∈ l
  | [] => Iff.rfl
  | x :: l => by
    unfold onceR
    split
    · rename_i c
      rw [mem_once, List.mem_cons]
      exact ⟨.inr, fun h => h.elim (fun e => e ▸ c) id⟩
    · rw [List.mem_cons, List.mem_cons, mem_once]
theorem nodup_once : ∀ {l : List Re}, (onceR l).Nodup
  | [] => List.nodup_nil
  | x :: l => by
    unfold onceR
    split
    · exact nodup_once
    · rename_i c
      exact List.nodup_cons.mpr ⟨fun h => c (mem_once.mp h), nodup_once⟩
/-- the reasons in order, each once -/
def canR (l : List Re) : List Re := (onceR l).mergeSort leR
theorem mem_can {r : Re} {l : List Re} : r ∈ canR l ↔ r ∈ l := (List.mergeSort_perm _ _).mem_iff.trans mem_once
theorem can_len {l : List Re} : (canR l).length ≤ l.length := by
  unfold canR
  rw [List.length_mergeSort]
  induction l with
  | nil => exact Nat.le_refl _
  | cons x l ih =>
    unfold onceR
    split
    · exact Nat.le_succ_of_le ih
    · exact Nat.succ_le_succ ih
theorem can_is {M L : List (Addr × Re)} {re : List Re} (pm : M.Perm L) (hm : ∀ r, r ∈ L.map (·.2) ↔ r ∈ re) (hn : (L.map (·.2)).Nodup) : (M.mergeSort reLe).map (·.2) = canR re := by
  rw [List.map_mergeSort (s := leR) fun a _ b _ => reLe_is a b]
  unfold canR
  refine List.Perm.eq_of_pairwise (le := fun a b => leR a b = true) (fun a b _ _ => leR_anti a b) (List.pairwise_mergeSort leR_trans leR_total _) (List.pairwise_mergeSort leR_trans leR_total _) ?_
  refine (List.mergeSort_perm _ _).trans (List.Perm.trans ?_ (List.mergeSort_perm _ _).symm)
  refine (pm.map _).trans ((List.perm_ext_iff_of_nodup hn nodup_once).mpr fun r => (hm r).trans mem_once.symm)
end Hr

set_option Elab.async false
set_option linter.all false
set_option maxRecDepth 100000
set_option maxHeartbeats 4000000
/-! reasons compared and looked for -/
namespace Hr
open PySem PySem.Spec PySem.W PyProof.Rows L2
/-- a reason whose word is a short text -/
abbrev OkR (r : Re) : Prop := PySem.PyData.strOk r.1 = true
theorem rsD_deep {n : Nat} {r : Re} (h : OkR r) : deep (n + 2) (rsD r) = true := deep_tuple_of (by show 2 < 50000; decide) fun d hd => by
  simp only [List.mem_cons, List.not_mem_nil, or_false] at hd
  rcases hd with rfl | rfl
  · exact deep_str h
  · exact deep_int
theorem rsD_nc {n : Nat} {r : Re} : Nc (n + 2) (rsD r) := fun d hd => by
  simp only [List.mem_cons, List.not_mem_nil, or_false] at hd
  rcases hd with rfl | rfl <;> exact trivial
theorem rsD_inj {r r' : Re} : rsD r = rsD r' ↔ r = r' := by
  constructor
  · intro h
    unfold rsD at h
    injection h with h
    injection h with h1 h
    injection h with h2 _
    injection h1 with h1
    injection h2 with h2
    exact Prod.ext h1 h2
  · rintro rfl
    rfl
theorem rsD_eqv {r r' : Re} (h : OkR r) : PyData.eqv (rsD r) (rsD r') = decide (r = r') := nc_eqv (n := 2) rsD_nc rsD_nc (rsD_deep (n := 0) h) rsD_inj
theorem any_re {r : Re} : ∀ {re : List Re}, (∀ x, x ∈ re → OkR x) → ((re.map rsD).any fun z => PyData.eqv z (rsD r)) = decide (r ∈ re)
  | [], _ => rfl
  | x :: re, h => by
    rw [List.map_cons, List.any_cons, any_re fun y hy => h y (List.mem_cons_of_mem _ hy), rsD_eqv (h x List.mem_cons_self), Bool.eq_iff_iff, Bool.or_eq_true, decide_eq_true_eq, decide_eq_true_eq, decide_eq_true_eq, List.mem_cons]
    exact or_congr ⟨Eq.symm, Eq.symm⟩ Iff.rfl
theorem res_deep {re : List Re} (hl : re.length < 50000) (h : ∀ x, x ∈ re → OkR x) : ∀ d ∈ re.map rsD, deep 2 d = true := fun d hd => by
  obtain ⟨x, hx, rfl⟩ := List.mem_map.mp hd
  exact rsD_deep (n := 0) (h x hx)
/-- r in reasons, a list or a tuple -/
@[irreducible] def rInRe (K : PySem.W.Frag) : R2 := fun x y H Q => ∃ (r : Re) (a : Addr) (xs : List V) (re : List Re), Dp K H x (rsD r) ∧ y = .ref a ∧ (SqL K H a xs ∨ SqT K H a xs) ∧ DpAll K H xs (re.map rsD) ∧ re.length < 50000 ∧ OkR r ∧ (∀ x, x ∈ re → OkR x) ∧ Q (.bl (decide (r ∈ re))) H
section
variable {X : Cx}
theorem op_inRe {K : PySem.W.Frag} (hu : X.A.units + 65 < cLine) (e : X.K = K := by rfl) : OpR X (compareOp .In) (rInRe K) := by
  subst e
  intro pins s σ H x y v u Q I rx ry h
  unfold rInRe at h
  obtain ⟨r, a, xs, re, hx, rfl, hs, hd, hl, kr, kre, q⟩ := h
  have hl2 : (re.map rsD).length < 50000 := by rw [List.length_map]; exact hl
  obtain ⟨as, r1⟩ := Dp.reads I (rsD r) x v hx rx
  have sd : SeqAt.shaped (rsD r) = true := deep_shaped (rsD_deep (n := 0) kr) (by decide)
  rcases hs with hs | hs
  · obtain ⟨bs, r2⟩ := Dp.reads I (.list (re.map rsD)) (.ref a) u (.lst hs hd) ry
    exact SeqAt.in_list_reads r2 r1 (SeqAt.canLay_of_shaped (deep_shaped (deep_list_of hl2 (res_deep hl kre)) (by decide))) (SeqAt.canLay_of_shaped sd) (room_in_shaped sd hu) ⟨.bl _, H, I, rfl, by rw [any_re kre]; exact q⟩
  · obtain ⟨bs, r2⟩ := Dp.reads I (.tuple (re.map rsD)) (.ref a) u (.tup hs hd) ry
    exact SeqAt.in_tuple_reads r2 r1 (SeqAt.canLay_of_shaped (deep_shaped (deep_tuple_of hl2 (res_deep hl kre)) (by decide))) (SeqAt.canLay_of_shaped sd) (room_in_shaped sd hu) ⟨.bl _, H, I, rfl, by rw [any_re kre]; exact q⟩
end
theorem inRe_on {K : PySem.W.Frag} {x : V} {H : Hp} {Q : VK} {r : Re} {a : Addr} {xs : List V} {re : List Re} (h1 : Dp K H x (rsD r)) (h2 : SqL K H a xs ∨ SqT K H a xs) (h3 : DpAll K H xs (re.map rsD)) (h4 : re.length < 50000) (h5 : OkR r) (h6 : ∀ x, x ∈ re → OkR x) (q : Q (.bl (decide (r ∈ re))) H) : rInRe K x (.ref a) H Q := by
  unfold rInRe
  exact ⟨r, a, xs, re, h1, rfl, h2, h3, h4, h5, h6, q⟩
theorem neRe_on {K : PySem.W.Frag} {x y : V} {H : Hp} {Q : VK} {r r' : Re} (h1 : Dp K H x (rsD r)) (h2 : Dp K H y (rsD r')) (h3 : OkR r) (h4 : OkR r') (q : Q (.bl (!decide (r = r'))) H) : rNeD K x y H Q :=
  ⟨_, _, h1, h2, deep_shaped (rsD_deep (n := 0) h3) (by decide), deep_shaped (rsD_deep (n := 0) h4) (by decide), by rw [rsD_eqv h3]; exact q⟩
theorem setRe_on {K : PySem.W.Frag} {P : Program} {w : World} {H : Hp} {Q : VK} {a : Addr} {xs : List V} {re : List Re} (h1 : SqL K H a xs ∨ SqT K H a xs) (h2 : DpAll K H xs (re.map rsD)) (h3 : re.length ≤ 63)
    (q : ∀ (p : Addr) (L : List (Addr × Re)), H p = none → (∀ z, z ∈ L → Dp K H (.ref z.1) (rsD z.2)) → (∀ r, r ∈ L.map (·.2) ↔ r ∈ re) → (L.map (·.2)).Nodup → Q (.ref p) (upd H p (SetRO P w p L))) : rSetRe K P w [.ref a] H Q := by
  unfold rSetRe
  exact ⟨a, xs, re, rfl, h1, h2, h3, q⟩
theorem sortRe_on {K : PySem.W.Frag} {P : Program} {w : World} {H : Hp} {Q : VK} {a : Addr} {L : List (Addr × Re)} (h1 : H a = some (SetRO P w a L)) (h2 : ∀ z, z ∈ L → Dp K H (.ref z.1) (rsD z.2))
    (q : ∀ (p : Addr) (M : List (Addr × Re)), M.Perm L → H p = none → Q (.ref p) (upd H p (.lst ((M.mergeSort reLe).map fun z => V.ref z.1)))) : rSortRe K P w [.ref a] H Q := by
  unfold rSortRe
  exact ⟨a, L, rfl, h1, h2, q⟩
/-- what sorted(set(reasons)) leaves -/
theorem sorted_told {K : PySem.W.Frag} {H : Hp} {L M : List (Addr × Re)} {re : List Re} (pm : M.Perm L) (hd : ∀ z, z ∈ L → Dp K H (.ref z.1) (rsD z.2)) (hm : ∀ r, r ∈ L.map (·.2) ↔ r ∈ re) (hn : (L.map (·.2)).Nodup) :
    DpAll K H ((M.mergeSort reLe).map fun z => V.ref z.1) ((canR re).map rsD) := by
  rw [← can_is pm hm hn, List.map_map]
  have hz : ∀ z, z ∈ M.mergeSort reLe → Dp K H (.ref z.1) (rsD z.2) := fun z m => hd z (pm.mem_iff.mp ((List.mergeSort_perm _ _).mem_iff.mp m))
  generalize M.mergeSort reLe = N at hz
  induction N with
  | nil => exact .nil
  | cons z N ih => exact .cons (hz z List.mem_cons_self) (ih fun y m => hz y (List.mem_cons_of_mem _ m))
end Hr

set_option Elab.async false
set_option linter.all false
set_option maxRecDepth 100000
set_option maxHeartbeats 4000000
/-! tables of any mask whose slots come round; mask 511 too -/
namespace Hr
open PySem PySem.Spec PyProof.Rows L2
/-- each slot comes round -/
structure Rnd (m : Nat) : Prop where
  odd : m % 2 = 1
  wrap : lcgN m (m + 1) = 0
  hits : ∀ j, j ≤ m → ∃ b, b ≤ m ∧ lcgN m b = j
theorem rnd_old {m : Nat} (h : MaskOk m) : Rnd m := ⟨mask_odd h, lcg_round h, fun _ => lcg_all h⟩
/-- the slots met, as the bits of a number -/
def hitB (m : Nat) : Nat → Nat → Nat → Nat
  | 0, _, acc => acc
  | k + 1, i, acc => hitB m k ((i * 5 + 1) % (m + 1)) (acc ||| 2 ^ i)
theorem lcgI_first (m i : Nat) : ∀ k, lcgI m ((i * 5 + 1) % (m + 1)) k = lcgI m i (k + 1)
  | 0 => rfl
  | k + 1 => by
    show (lcgI m ((i * 5 + 1) % (m + 1)) k * 5 + 1) % (m + 1) = (lcgI m i (k + 1) * 5 + 1) % (m + 1)
    rw [lcgI_first m i k]
theorem lcgI_zero (m : Nat) : ∀ k, lcgI m 0 k = lcgN m k
  | 0 => rfl
  | k + 1 => by
    show (lcgI m 0 k * 5 + 1) % (m + 1) = (lcgN m k * 5 + 1) % (m + 1)
    rw [lcgI_zero m k]
theorem hitB_says (m j : Nat) : ∀ k i acc, (hitB m k i acc).testBit j = true → acc.testBit j = true ∨ ∃ t, t < k ∧ lcgI m i t = j
  | 0, _, _, h => .inl h
  | k + 1, i, acc, h => by
    rcases hitB_says m j k _ _ h with h | ⟨t, h1, h2⟩
    · rw [Nat.testBit_or, Bool.or_eq_true, Nat.testBit_two_pow, decide_eq_true_eq] at h
      rcases h with h | h
      · exact .inl h
      · exact .inr ⟨0, Nat.succ_pos _, h⟩
    · rw [lcgI_first] at h2
      exact .inr ⟨t + 1, Nat.succ_lt_succ h1, h2⟩
set_option exponentiation.threshold 1000 in
theorem hit511 : hitB 511 512 0 0 = 2 ^ 512 - 1 := by decide +kernel
theorem rnd511 : Rnd 511 where
  odd := rfl
  wrap := by decide +kernel
  hits := fun j hj => by
    have h : (hitB 511 512 0 0).testBit j = true := by
      rw [hit511, Nat.testBit_two_pow_sub_one, decide_eq_true_eq]
      omega
    rcases hitB_says 511 j _ _ _ h with h | ⟨t, h1, h2⟩
    · rw [Nat.zero_testBit] at h
      cases h
    · exact ⟨t, by omega, by rw [← lcgI_zero]; exact h2⟩
theorem way_in {m : Nat} {h : Int} (k : Nat) : way m h k ≤ m := by
  have hi : SetTable.bits h % (m + 1) ≤ m := Nat.le_of_lt_succ (Nat.mod_lt _ (Nat.succ_pos _))
  obtain ⟨r1, r2, _⟩ := runEnd_bd hi
  have z := nth_in k (runAt m (SetTable.bits h % (m + 1)) (SetTable.bits h)) (by rw [show (runAt m (SetTable.bits h % (m + 1)) (SetTable.bits h)).j + (runAt m (SetTable.bits h % (m + 1)) (SetTable.bits h)).more = SetTable.runEnd m (SetTable.bits h % (m + 1)) from Nat.add_sub_cancel' r2]; exact r1)
  exact Nat.le_trans (Nat.le_add_right _ _) z
theorem Rnd.run {m : Nat} (R : Rnd m) (h : Int) {j : Nat} (hj : j ≤ m) : ∃ n, n ≤ m + 12 ∧ runI m (SetTable.bits h) n = j := by
  have again : ∀ k, lcgN m (m + 1 + k) = lcgN m k := fun k => by
    induction k with
    | zero => exact R.wrap
    | succ k ih =>
      show (lcgN m (m + 1 + k) * 5 + 1) % (m + 1) = (lcgN m k * 5 + 1) % (m + 1)
      rw [ih]
  obtain ⟨a, ha, ea⟩ := R.hits _ (runI_le m (SetTable.bits h) 12)
  obtain ⟨b, hb, eb⟩ := R.hits j hj
  have step : ∀ k, lcgN m (a + k) = j → runI m (SetTable.bits h) (12 + k) = j := fun k e => by
    rw [runI_tail (bits_lt h), ← ea, lcgN_add]
    exact e
  by_cases c : a ≤ b
  · exact ⟨12 + (b - a), by omega, step _ (by rw [Nat.add_sub_cancel' c]; exact eb)⟩
  · refine ⟨12 + (m + 1 + b - a), by omega, step _ ?_⟩
    rw [Nat.add_sub_cancel' (by omega), again]
    exact eb
theorem Rnd.meets {m : Nat} (R : Rnd m) (h : Int) {j : Nat} (hj : j ≤ m) : ∃ k, k < 10 * SetTable.turns m ∧ way m h k = j := by
  obtain ⟨n, hn, e⟩ := R.run h hj
  obtain ⟨k, hk, e2⟩ := run_nth m (SetTable.bits h) n
  exact ⟨k, by unfold SetTable.turns; omega, (congrArg SetTable.Probe.j e2).trans e⟩
/-- the table of the hashes hs -/
structure Tq (t : SetTable) (hs : List Int) : Prop where
  ris : Ris t.place.toList
  dm : t.dummies = #[]
  sz : t.place.toList.length = hs.length
  rnd : Rnd t.mask
  bd : ∀ x, x ∈ t.place.toList → x ≤ t.mask
  reach : ∀ q, q ∈ hs.zip t.place.toList → ∃ k, way t.mask q.1 k = q.2 ∧ ∀ k', k' < k → way t.mask q.1 k' ∈ t.place.toList
theorem Tq.first {t : SetTable} {hs : List Int} (T : Tq t hs) (hl : hs.length ≤ t.mask) (h : Int) : ∃ K, K < 10 * SetTable.turns t.mask ∧ way t.mask h K ∉ t.place.toList ∧ ∀ k, k < K → way t.mask h k ∈ t.place.toList := by
  obtain ⟨j, hj, hn⟩ := st_missing t.place.toList (t.mask + 1) (by rw [T.sz]; omega)
  obtain ⟨k, hk, e⟩ := T.rnd.meets h (Nat.le_of_lt_succ hj)
  obtain ⟨K, h1, h2, h3⟩ := st_least (p := fun k => way t.mask h k ∉ t.place.toList) k (by rw [e]; exact hn)
  exact ⟨K, Nat.lt_of_le_of_lt h1 hk, h2, fun k' hk' => Classical.byContradiction (h3 k' hk')⟩
theorem Tq.before {t : SetTable} {hs : List Int} (T : Tq t hs) {h : Int} {K i j : Nat} (hK : way t.mask h K ∉ t.place.toList) (hi : hs[i]? = some h) (hj : t.place.toList[i]? = some j) : ∃ k, k < K ∧ way t.mask h k = j := by
  have m : (h, j) ∈ hs.zip t.place.toList := List.mem_of_getElem? (i := i) (List.getElem?_zip_eq_some.mpr ⟨hi, hj⟩)
  obtain ⟨k, e, hb⟩ := T.reach _ m
  refine ⟨k, Classical.byContradiction fun c => ?_, e⟩
  rcases Nat.lt_or_ge K k with c2 | c2
  · exact hK (hb K c2)
  · have : k = K := by omega
    subst this
    have e' : way t.mask h k = j := e
    rw [e'] at hK
    exact hK (List.mem_of_getElem? hj)
theorem Tq.by {t : SetTable} {hs : List Int} {b : Bool} (T : Tq t hs) : Tq { t with plain := b } hs := ⟨T.ris, T.dm, T.sz, T.rnd, T.bd, T.reach⟩
theorem Tq.put {t : SetTable} {hs : List Int} (T : Tq t hs) {h : Int} {K : Nat} (hK : way t.mask h K ∉ t.place.toList) (hb : ∀ k, k < K → way t.mask h k ∈ t.place.toList) :
    ∃ t1 p, t.put (way t.mask h K) = (t1, p) ∧ p ≤ hs.length ∧ Tq t1 (hs.take p ++ h :: hs.drop p) ∧ t1.mask = t.mask ∧ t1.led = t.led ∧ t1.fill = hs.length + 1 := by
  refine ⟨(t.put (way t.mask h K)).1, SetTable.below t.place (way t.mask h K), rfl, ?_⟩
  have hj := way_in (m := t.mask) (h := h) K
  obtain ⟨j, ej⟩ : ∃ j, j = way t.mask h K := ⟨_, rfl⟩
  rw [← ej] at hK hj ⊢
  have pl : SetTable.below t.place j ≤ t.place.toList.length := by
    rw [Array.length_toList]
    exact (below_cut T.ris j).1
  have pp := put_place t j
  have dm := put_dm T.dm j
  have up : ∀ x, x ∈ t.place.toList → x ∈ (t.put j).1.place.toList := fun x hx => by
    rw [pp]
    exact mem_ins.2 (.inr hx)
  have len : (t.put j).1.place.toList.length = hs.length + 1 := by
    rw [pp, len_ins _ pl, T.sz]
  have pl2 : SetTable.below t.place j ≤ hs.length := by
    rw [← T.sz]
    exact pl
  refine ⟨pl2, ⟨ris_insert T.ris fun e => hK (List.mem_of_getElem? (by rw [Array.getElem?_toList]; exact e)), dm, by rw [len, len_ins _ pl2], T.rnd, fun x hx => ?_, fun q hq => ?_⟩, rfl, rfl, ?_⟩
  · rw [pp] at hx
    rcases mem_ins.1 hx with e | hx
    · rw [e]
      exact hj
    · exact T.bd x hx
  · rw [pp, List.zip_append (by rw [List.length_take, List.length_take, T.sz]), List.zip_cons_cons, List.mem_append, List.mem_cons] at hq
    have old : ∀ q, q ∈ hs.zip t.place.toList → ∃ k, way t.mask q.1 k = q.2 ∧ ∀ k', k' < k → way t.mask q.1 k' ∈ (t.put j).1.place.toList := fun q hq => by
      obtain ⟨k, e, z⟩ := T.reach q hq
      exact ⟨k, e, fun k' hk' => up _ (z k' hk')⟩
    rcases hq with hq | rfl | hq
    · refine old q ?_
      have z : q ∈ (hs.zip t.place.toList).take (SetTable.below t.place j) := by
        unfold List.zip
        rw [List.take_zipWith]
        exact hq
      exact List.mem_of_mem_take z
    · exact ⟨K, ej.symm, fun k' hk' => up _ (hb k' hk')⟩
    · refine old q ?_
      have z : q ∈ (hs.zip t.place.toList).drop (SetTable.below t.place j) := by
        unfold List.zip
        rw [List.drop_zipWith]
        exact hq
      exact List.mem_of_mem_drop z
  · show (t.put j).1.place.size + (t.put j).1.dummies.size = _
    rw [dm, ← Array.length_toList, len]
    rfl

/-! all laid anew -/
/-- the first free slot of the way is found -/
theorem Rnd.free {m : Nat} (R : Rnd m) (owner : Array (Option Nat)) (h : Int) {j : Nat} (hj : j ≤ m) (hf : oAt owner j = none) :
    ∃ K, SetTable.layClean.free m owner (SetTable.turns m) (SetTable.bits h % (m + 1)) (SetTable.bits h) = some (way m h K) ∧ oAt owner (way m h K) = none ∧ ∀ k, k < K → oAt owner (way m h k) ≠ none := by
  obtain ⟨n, hn, e⟩ := R.run h hj
  have at_ : way m h (off m (SetTable.bits h % (m + 1)) (SetTable.bits h) n) = j := by
    have z := congrArg SetTable.Probe.j (nth_off m n (SetTable.bits h % (m + 1)) (SetTable.bits h))
    rw [itL_run] at z
    exact z.trans e
  obtain ⟨K, k1, k2, k3⟩ := st_least (p := fun k => oAt owner (way m h k) = none) _ (by rw [at_]; exact hf)
  refine ⟨K, free_spec m owner (SetTable.turns m) n _ _ K (by unfold SetTable.turns; omega) k1 (fun k hk => ?_) (Option.isNone_iff_eq_none.mpr k2), k2, k3⟩
  rw [← Bool.not_eq_true, Option.isNone_iff_eq_none]
  exact k3 k hk
theorem own_next {m : Nat} (R : Rnd m) {done : List Int} {owner : Array (Option Nat)} (W : Own m done owner) (hl : done.length ≤ m) (h : Int) :
    ∃ j, SetTable.layClean.free m owner (SetTable.turns m) (SetTable.bits h % (m + 1)) (SetTable.bits h) = some j ∧ Own m (done ++ [h]) (owner.setIfInBounds j (some done.length)) := by
  obtain ⟨ps, e0, used⟩ := W.ps
  obtain ⟨j0, l0, n0⟩ := st_missing ps (m + 1) (by omega)
  have free0 : oAt owner j0 = none := Classical.byContradiction fun c => n0 (used j0 (Nat.le_of_lt_succ l0) c)
  obtain ⟨K, e1, e2, e3⟩ := R.free owner h (Nat.le_of_lt_succ l0) free0
  have lim := way_in (m := m) (h := h) K
  generalize hj : way m h K = j at e1 e2 lim
  refine ⟨j, e1, ?_⟩
  have new : oAt (owner.setIfInBounds j (some done.length)) j = some done.length := oAt_set_self _ (by rw [W.sz]; exact Nat.lt_succ_of_le lim)
  have other : ∀ i, i ≠ j → oAt (owner.setIfInBounds j (some done.length)) i = oAt owner i := fun i c => oAt_set_ne _ c
  have kept : ∀ i, oAt owner i ≠ none → oAt (owner.setIfInBounds j (some done.length)) i ≠ none := fun i c => by
    rw [other i fun z => c (z ▸ e2)]
    exact c
  have split : ∀ i, i = j ∨ i ≠ j := fun i => Classical.em _
  refine ⟨by rw [Array.size_setIfInBounds]; exact W.sz, fun i k hi e => ?_, fun k hk => ?_, j :: ps, by rw [List.length_cons, e0, List.length_append]; rfl, fun i hi e => ?_⟩
  · rcases split i with rfl | c
    · rw [new] at e
      refine ⟨h, K, ?_, hj, fun k' hk' => kept _ (e3 k' hk')⟩
      rw [← Option.some.inj e, List.getElem?_append_right (Nat.le_refl _), Nat.sub_self]
      rfl
    · rw [other i c] at e
      obtain ⟨h', K', a1, a2, a3⟩ := W.at_ i k hi e
      exact ⟨h', K', by rw [List.getElem?_append_left (List.getElem?_eq_some_iff.mp a1).1]; exact a1, a2, fun k' hk' => kept _ (a3 k' hk')⟩
  · rw [List.length_append, List.length_singleton] at hk
    rcases Nat.lt_or_ge k done.length with c | c
    · obtain ⟨i, hi, e⟩ := W.all k c
      exact ⟨i, hi, by rw [other i fun z => by rw [z, e2] at e; cases e]; exact e⟩
    · exact ⟨j, lim, by rw [new]; exact congrArg some (by omega)⟩
  · rcases split i with rfl | c
    · exact List.mem_cons_self
    · rw [other i c] at e
      exact List.mem_cons_of_mem _ (used i hi e)
theorem own_all {m : Nat} (R : Rnd m) : ∀ (rest done : List Int) (owner : Array (Option Nat)), Own m done owner → done.length + rest.length ≤ m → ∃ o, rest.foldl (stepF m) (some (owner, done.length)) = some (o, (done ++ rest).length) ∧ Own m (done ++ rest) o
  | [], done, owner, W, _ => ⟨owner, by rw [List.append_nil]; rfl, by rw [List.append_nil]; exact W⟩
  | h :: rest, done, owner, W, hl => by
    rw [List.length_cons] at hl
    obtain ⟨j, e, W1⟩ := own_next R W (by omega) h
    have l1 : (done ++ [h]).length = done.length + 1 := List.length_append
    obtain ⟨o, e2, W2⟩ := own_all R rest (done ++ [h]) _ W1 (by rw [l1]; omega)
    rw [List.append_assoc, l1] at e2
    rw [List.append_assoc] at W2
    exact ⟨o, by rw [List.foldl_cons, stepF_some e]; exact e2, W2⟩
theorem zip_same {α : Type} : ∀ l : List α, l.zip l = l.map fun x => (x, x)
  | [] => rfl
  | x :: l => by rw [List.zip_cons_cons, zip_same l]; rfl
theorem relay_q (t : SetTable) {hs : Array Int} {wanted M : Nat} (hw : SetTable.sizeAbove wanted = M + 1) (R : Rnd M) (hn : hs.size ≤ M) :
    ∃ t' order, t.relaid hs wanted = some (t', order) ∧ order.toList.Perm (List.range hs.size) ∧ Tq t' (order.toList.map fun i => hs.getD i 0) ∧ t'.mask = M ∧ t'.led = t.led := by
  obtain ⟨o, e, W⟩ := own_all R hs.toList [] _ (Own.init M) (by rw [Array.length_toList]; show 0 + hs.size ≤ M; omega)
  rw [List.nil_append] at e W
  have lc : SetTable.layClean M hs = some o := by
    rw [layClean_eq]
    exact congrArg (fun z => Option.map (·.1) z) e
  have hr : t.relaid hs wanted = some (tabOf t M o, ((liveOf M o).map (·.2)).toArray) := by
    rw [relaid_eq, hw, Nat.add_sub_cancel, lc]
    rfl
  obtain ⟨r1, r2⟩ := ris_live (fun j => o.getD j none) (List.range (M + 1)) (by unfold Ris; exact List.pairwise_lt_range)
  have r1 : Ris ((liveOf M o).map (·.1)) := r1
  have live : ∀ {j k}, (j, k) ∈ liveOf M o ↔ j ≤ M ∧ oAt o j = some k := mem_live W.sz
  have num : (liveOf M o).length = hs.size := by
    obtain ⟨ps, p1, p2⟩ := W.ps
    have a := nat_nodup_len ((liveOf M o).map fun q : Nat × Nat => q.1) ps (List.Pairwise.imp (fun h => Nat.ne_of_lt h) r1) fun x hx => by
      obtain ⟨⟨y, k⟩, hq, rfl⟩ := List.mem_map.mp hx
      obtain ⟨b1, b2⟩ := live.1 hq
      exact p2 y b1 (by rw [b2]; exact Option.some_ne_none k)
    have b := nat_nodup_len (List.range hs.size) ((liveOf M o).map (·.2)) List.nodup_range fun k hk => by
      obtain ⟨j, b1, b2⟩ := W.all k (by rw [Array.length_toList]; exact List.mem_range.mp hk)
      exact List.mem_map.mpr ⟨(j, k), live.2 ⟨b1, b2⟩, rfl⟩
    rw [List.length_map, p1, Array.length_toList] at a
    rw [List.length_map, List.length_range] at b
    exact Nat.le_antisymm a b
  have zipped : (((liveOf M o).map (·.2)).map fun i => hs.getD i 0).zip ((liveOf M o).map (·.1)) = (liveOf M o).map fun q => (hs.getD q.2 0, q.1) := by
    rw [List.map_map, List.zip_map, zip_same, List.map_map]
    rfl
  refine ⟨_, _, hr, ?_, ⟨r1, rfl, ?_, R, fun x hx => ?_, fun q hq => ?_⟩, rfl, rfl⟩
  · refine perm_range hs.size _ (by show ((liveOf M o).map (·.2)).length = hs.size; rw [List.length_map, num]) fun k hk => ?_
    obtain ⟨j, b1, b2⟩ := W.all k (by rw [Array.length_toList]; exact hk)
    exact List.mem_map.mpr ⟨(j, k), live.2 ⟨b1, b2⟩, rfl⟩
  · show ((liveOf M o).map (·.1)).length = (((liveOf M o).map (·.2)).map fun i => hs.getD i 0).length
    simp only [List.length_map]
  · have hx' : x ∈ (liveOf M o).map (·.1) := hx
    obtain ⟨⟨y, k⟩, hq, rfl⟩ := List.mem_map.mp hx'
    exact (live.1 hq).1
  · have hq' : q ∈ (((liveOf M o).map (·.2)).map fun i => hs.getD i 0).zip ((liveOf M o).map (·.1)) := hq
    rw [zipped] at hq'
    obtain ⟨⟨y, k⟩, hm, rfl⟩ := List.mem_map.mp hq'
    obtain ⟨b1, b2⟩ := live.1 hm
    obtain ⟨h0, K, a1, a2, a3⟩ := W.at_ y k b1 b2
    have e0 : hs.getD k 0 = h0 := by
      rw [Array.getD_eq_getD_getElem?, ← Array.getElem?_toList, a1]
      rfl
    refine ⟨K, by show way M (hs.getD k 0) K = y; rw [e0]; exact a2, fun k' hk' => ?_⟩
    show way M (hs.getD k 0) k' ∈ (liveOf M o).map (·.1)
    rw [e0]
    cases z : oAt o (way M h0 k') with
    | none => exact absurd z (a3 k' hk')
    | some k2 => exact List.mem_map.mpr ⟨(_, k2), live.2 ⟨way_in _, z⟩, rfl⟩
theorem grown_5 : SetTable.sizeAbove (SetTable.grown 5) = 31 + 1 := size_20
theorem grown_19 : SetTable.sizeAbove (SetTable.grown 19) = 127 + 1 := size_76
theorem grown_77 : SetTable.sizeAbove (SetTable.grown 77) = 511 + 1 := by decide +kernel
end Hr

set_option Elab.async false
set_option linter.all false
set_option maxRecDepth 100000
set_option maxHeartbeats 4000000
/-! sets of up to 243 tuples -/
namespace Hr
open PySem PySem.Spec PyProof.Rows L2
/-- at a lies the set with the members L -/
structure Laq (P : Program) (w : World) (h : Heap) (a : Addr) (L : List (Addr × List Key)) (es : Array (Int × Value)) (ep : Nat) (t : SetTable) : Prop where
  lies : ∃ o, h.get? a = some o ∧ o.ExactSet ∧ o.data = .set es ep t
  ents : es.toList = L.map (mbr P w)
  tab : Tq t (L.map fun p => kh P w p.2)
  uniq : (L.map (·.2)).Nodup
  keys : ∀ p, p ∈ L → Kt P w h p.2 p.1
  led : w.params.followText "set-order" = true ∨ t.led = true
  room : 5 * L.length < 3 * t.mask
  small : L.length ≤ 243
  low : t.mask ≤ 511
  steps : t.mask = 7 ∨ t.mask = 31 ∨ t.mask = 127 ∨ t.mask = 511
section
variable {P : Program} {w : World} {A : Around} {E : Value → Shared → Prop} {s : Shared} {a : Addr} {L : List (Addr × List Key)} {es : Array (Int × Value)} {ep : Nat} {t : SetTable}
theorem fits_byQ (T : Tq t (L.map fun p => kh P w p.2)) (e : es.toList = L.map (mbr P w)) (r : L.length ≤ t.mask) : t.fits es.size = true := by
  have z1 := T.sz
  rw [List.length_map, Array.length_toList] at z1
  have z2 := ents_size e
  unfold SetTable.fits SetTable.fill
  rw [T.dm, Bool.and_eq_true, beq_iff_eq, decide_eq_true_eq, Array.size_empty]
  omega
theorem Laq.fits (Y : Laq P w s.heap a L es ep t) : t.fits es.size = true := fits_byQ Y.tab Y.ents (by have := Y.room; omega)
theorem Laq.stays (Y : Laq P w s.heap a L es ep t) : t.gaveWay = false := by
  unfold SetTable.gaveWay
  rw [Y.tab.rnd.odd]
  rfl
/-- what the probe from the c-th step on meets -/
theorem probe_onQ (Y : Laq P w s.heap a L es ep t) {H : Int} {K : Nat} (hf : K < 10 * SetTable.turns t.mask) (he : way t.mask H K ∉ t.place.toList) (hb : ∀ c, c < K → way t.mask H c ∈ t.place.toList) {c : Nat} (hc : c ≤ K) :
    (∃ (d i : Nat) (p : Addr × List Key), c ≤ d ∧ d < K ∧ t.place.toList[i]? = some (way t.mask H d) ∧ L[i]? = some p ∧ (∀ (d' i' : Nat) (p' : Addr × List Key), c ≤ d' → d' < d → t.place.toList[i']? = some (way t.mask H d') → L[i']? = some p' → kh P w p'.2 ≠ H) ∧
      t.probe (fun i => (es[i]?.map (·.1)).getD 0) H (stp t.mask H c) = some (.candidate (way t.mask H d) i (stp t.mask H (d + 1)))) ∨
    ((∀ (d' i' : Nat) (p' : Addr × List Key), c ≤ d' → d' < K → t.place.toList[i']? = some (way t.mask H d') → L[i']? = some p' → kh P w p'.2 ≠ H) ∧
      t.probe (fun i => (es[i]?.map (·.1)).getD 0) H (stp t.mask H c) = some (.empty (way t.mask H K) none)) := by
  have mv : ∀ q, nth t.mask (stp t.mask H c) q = stp t.mask H (c + q) := fun q => (nth_add t.mask c _ q).symm
  have hash_of : ∀ (i : Nat) (p : Addr × List Key), L[i]? = some p → ((es[i]?.map (·.1)).getD 0) = kh P w p.2 := fun i p e => by
    rw [ents_at Y.ents, e]
    rfl
  have back : ∀ {lim : Nat}, (∀ q i' : Nat, q < lim → t.place.toList[i']? = some (nth t.mask (stp t.mask H c) q).j → ((es[i']?.map (·.1)).getD 0) ≠ H) →
      ∀ (d' i' : Nat) (p' : Addr × List Key), c ≤ d' → d' < c + lim → t.place.toList[i']? = some (way t.mask H d') → L[i']? = some p' → kh P w p'.2 ≠ H := fun {lim} no d' i' p' h1 h2 h3 h4 z => by
    refine no (d' - c) i' (by omega) ?_ ((hash_of i' p' h4).trans z)
    rw [mv, Nat.add_sub_cancel' h1]
    exact h3
  rcases go_spec t Y.tab.ris Y.tab.dm (fun i => (es[i]?.map (·.1)).getD 0) H (10 * SetTable.turns t.mask) (K - c) (stp t.mask H c) (stp_dummy _ _ _) (by omega)
    (fun q hq => by rw [mv]; exact hb (c + q) (by omega)) (by rw [mv, Nat.add_sub_cancel' hc]; exact he) with ⟨q, i, hq, hi, _, no, e⟩ | ⟨no, e⟩
  · rw [mv] at hi e
    rw [mv] at e
    have il : i < L.length := by
      rw [← show t.place.toList.length = L.length from Y.tab.sz.trans (List.length_map _)]
      exact (List.getElem?_eq_some_iff.mp hi).1
    exact .inl ⟨c + q, i, L[i], Nat.le_add_right _ _, by omega, hi, List.getElem?_eq_getElem il, back no, e⟩
  · rw [mv] at e
    rw [Nat.add_sub_cancel' hc] at e
    refine .inr ⟨fun d' i' p' h1 h2 => back no d' i' p' h1 (by omega), e⟩
/-- looking for a key: from the c-th step on -/
theorem look_fromQ (Y : Laq P w s.heap a L es ep t) {x : Addr} {k : List Key} (hx : Kt P w s.heap k x) (hu : A.units < cLine) {K : Nat} (hf : K < 10 * SetTable.turns t.mask) (he : way t.mask (kh P w k) K ∉ t.place.toList)
    (hb : ∀ c, c < K → way t.mask (kh P w k) c ∈ t.place.toList) {Q : SetFound → Shared → Prop} (yes : k ∈ L.map (·.2) → Q (.there none) s) (no : k ∉ L.map (·.2) → Q (.free (way t.mask (kh P w k) K) false) s) :
    ∀ (n c : Nat) (st : Option SetTable.Probe), st.getD (t.probeStart (kh P w k)) = stp t.mask (kh P w k) c → c ≤ K → K < c + n →
      (∀ (i : Nat) (p : Addr × List Key), L[i]? = some p → p.2 = k → ∃ d, c ≤ d ∧ d < K ∧ t.place.toList[i]? = some (way t.mask (kh P w k) d)) → wpAny (model P w) A (setSearchFrom a (.ref x) (kh P w k) true n st) Q E s
  | 0, _, _, _, h1, h2, _ => absurd h2 (by omega)
  | n + 1, c, st, hst, hc, hn, ahead => by
    obtain ⟨o, ho, hex, hd⟩ := Y.lies
    rw [setSearchFrom_succ]
    refine wpAny_bind (wpAny_setState_of ho hd Y.fits ?_)
    dsimp only
    rw [if_neg (by rw [Y.stays]; decide)]
    rw [hst]
    rcases probe_onQ Y hf he hb hc with ⟨d, i, p, h1, h2, hi, hp, none_before, e⟩ | ⟨none_at, e⟩
    · rw [e]
      dsimp only
      have mem : p ∈ L := List.mem_of_getElem? hp
      have ent : es[i]? = some (kh P w p.2, Value.ref p.1) := by
        rw [ents_at Y.ents, hp]
        rfl
      have sl : t.slot (way t.mask (kh P w k) d) = .live i := slot_live Y.tab.ris hi
      have on : wpAny (model P w) A (searchRest a (.ref x) (kh P w k) true n es t (way t.mask (kh P w k) d) i (stp t.mask (kh P w k) (d + 1))) Q E s := by
        unfold searchRest
        rw [ent]
        dsimp only
        refine wpAny_bind (wpAny_holding (wpAny_eqBool_tuple hu (Y.keys p mem) hx ?_))
        refine wpAny_bind (wpAny_setState_of ho hd Y.fits ?_)
        dsimp only
        by_cases same : p.2 = k
        · rw [if_pos (by simp [same])]
          exact wpAny_pure (yes (List.mem_map.mpr ⟨p, mem, same⟩))
        · rw [if_neg (by simp [same]), sameMem]
          dsimp only
          simp only [if_true, sl, ent]
          refine wpAny_bind (wpAny_isSame_ref_self (wpAny_bind (wpAny_pure ?_)))
          simp only [if_true]
          rw [if_neg (by simp [same])]
          refine look_fromQ Y hx hu hf he hb yes no n (d + 1) (some _) rfl h2 (by omega) fun i0 p0 e0 k0 => ?_
          obtain ⟨d0, g1, g2, g3⟩ := ahead i0 p0 e0 k0
          refine ⟨d0, ?_, g2, g3⟩
          rcases Nat.lt_trichotomy d0 d with z | z | z
          · exact absurd (congrArg (kh P w) k0) (none_before d0 i0 p0 g1 z g3 e0)
          · subst z
            have s0 := slot_live Y.tab.ris g3
            rw [sl] at s0
            injection s0 with s0
            rw [← s0, hp] at e0
            exact absurd ((congrArg Prod.snd (Option.some.inj e0)).trans k0) same
          · exact z
      split
      · refine wpAny_bind (tup_unseen hx (fun y hy => ?_) ?_)
        · obtain ⟨e1, he1, rfl⟩ := List.mem_map.mp hy
          have he2 : e1 ∈ es.toList := by
            have z : e1 ∈ es ∧ e1.1 = kh P w k := by simpa using he1
            simpa using z.1
          rw [Y.ents] at he2
          obtain ⟨p2, hp2, rfl⟩ := List.mem_map.mp he2
          exact ⟨p2.2, p2.1, rfl, Y.keys p2 hp2⟩
        · rw [if_neg (by decide)]
          exact on
      · exact on
    · rw [e]
      dsimp only
      refine wpAny_pure (no fun m => ?_)
      obtain ⟨p0, m0, k0⟩ := List.mem_map.mp m
      obtain ⟨i0, l0, e0⟩ := List.getElem_of_mem m0
      have e1 : L[i0]? = some p0 := by rw [List.getElem?_eq_getElem l0, e0]
      obtain ⟨d, g1, g2, g3⟩ := ahead i0 p0 e1 k0
      exact none_at d i0 p0 g1 g2 g3 e1 (congrArg (kh P w) k0)
/-- looking for a key that shall be put in -/
theorem look_atQ (Y : Laq P w s.heap a L es ep t) {x : Addr} {k : List Key} (hx : Kt P w s.heap k x) (hu : A.units < cLine) {Q : SetFound → Shared → Prop} (yes : k ∈ L.map (·.2) → Q (.there none) s)
    (no : ∀ K, k ∉ L.map (·.2) → way t.mask (kh P w k) K ∉ t.place.toList → (∀ c, c < K → way t.mask (kh P w k) c ∈ t.place.toList) → Q (.free (way t.mask (kh P w k) K) false) s) :
    wpAny (model P w) A (setSearch a (.ref x) (kh P w k) true) Q E s := by
  obtain ⟨K, hf, he, hb⟩ := Y.tab.first (by rw [List.length_map]; have := Y.room; omega) (kh P w k)
  have lim : K < 100000 := by
    unfold SetTable.turns at hf
    have := Y.low
    omega
  unfold setSearch
  refine look_fromQ Y hx hu hf he hb yes (fun n => no K n he hb) 100000 0 none rfl (Nat.zero_le _) (by omega) fun i p e0 k0 => ?_
  have hi : (L.map fun p => kh P w p.2)[i]? = some (kh P w k) := by
    rw [List.getElem?_map, e0, ← k0]
    rfl
  have il : i < t.place.toList.length := by
    rw [show t.place.toList.length = L.length from Y.tab.sz.trans (List.length_map _)]
    exact (List.getElem?_eq_some_iff.mp e0).1
  obtain ⟨c, h1, h2⟩ := Y.tab.before he hi (List.getElem?_eq_getElem il)
  exact ⟨c, Nat.zero_le _, h1, by rw [List.getElem?_eq_getElem il, h2]⟩
end
section
variable {P : Program} {w : World} {A : Around} {E : Value → Shared → Prop} {s : Shared} {a : Addr} {L : List (Addr × List Key)} {es : Array (Int × Value)} {ep : Nat} {t : SetTable}
theorem Laq.on {h h' : Heap} (Y : Laq P w h a L es ep t) (ha : ∀ o, h.get? a = some o → h'.get? a = some o) (ht : ∀ p, p ∈ L → Kt P w h' p.2 p.1) : Laq P w h' a L es ep t := by
  obtain ⟨o, ho, r⟩ := Y.lies
  exact ⟨⟨o, ha o ho, r⟩, Y.ents, Y.tab, Y.uniq, ht, Y.led, Y.room, Y.small, Y.low, Y.steps⟩
/-- the table grows -/
theorem grow_atQ {o : Obj} (ho : s.heap.get? a = some o) (hex : o.ExactSet) (hd : o.data = .set es ep t) (e : es.toList = L.map (mbr P w)) (T : Tq t (L.map fun p => kh P w p.2)) (un : (L.map (·.2)).Nodup) (ks : ∀ p, p ∈ L → Kt P w s.heap p.2 p.1)
    (ld : w.params.followText "set-order" = true ∨ t.led = true) (sm : L.length ≤ 243) (lo : L.length ≤ t.mask) {wanted M : Nat} (hw : SetTable.sizeAbove wanted = M + 1) (hM : Rnd M) (st : M = 31 ∨ M = 127 ∨ M = 511) (rm : 5 * L.length < 3 * M) {Q : Unit → Shared → Prop}
    (q : ∀ h' L' es' ep' t', Heap.SameBut a s.heap h' → Laq P w h' a L' es' ep' t' → L'.Perm L → Q () { s with heap := h' }) : wpAny (model P w) A (setRelay a wanted) Q E s := by
  have sz := ents_size e
  have mle : M ≤ 511 := by omega
  obtain ⟨t', ord, e1, pm, T', em, el⟩ := relay_q t (hs := es.map (·.1)) (wanted := wanted) hw hM (by rw [Array.size_map, sz]; omega)
  rw [Array.size_map, sz] at pm
  obtain ⟨N, pN, r1, r2⟩ := members_by e pm
  rw [← r2] at T'
  have sz2 : (ord.filterMap (es[·]?)).size = es.size := by
    rw [ents_size r1, pN.length_eq, sz]
  rw [setRelay_eq]
  refine wpAny_bind (wpAny_setState_of ho hd (fits_byQ T e lo) ?_)
  dsimp only
  rw [if_neg (by rw [hw, sizeLine_eq]; omega), e1]
  dsimp only
  refine wpAny_bind ?_
  rw [if_neg (by rw [sz2]; simp)]
  refine wpAny_pure ?_
  dsimp only
  refine wpAny_storeSet_of ho hd ?_ (by rw [sz2, sz, sizeLine_eq]; omega)
  have sb : Heap.SameBut a s.heap (s.heap.update a (Obj.putSet (ord.filterMap (es[·]?)) t')) := Heap.SameBut.update ..
  refine q _ N _ (ep + 1) t' sb ⟨⟨_, store_at ho hd, hex, rfl⟩, r1, T', (pN.map (·.2)).nodup_iff.mpr un, fun p hp => kt_but (ks p (pN.mem_iff.mp hp)) ho hd sb, by rw [el]; exact ld, ?_, ?_, by rw [em]; exact mle, by rw [em]; omega⟩ pN
  · rw [pN.length_eq, em]
    exact rm
  · rw [pN.length_eq]
    exact sm
/-- one put in -/
theorem add_keyQ (Y : Laq P w s.heap a L es ep t) {x : Addr} {k : List Key} (hx : Kt P w s.heap k x) (hu : A.units < cLine) (sm : L.length < 243) {Q : Bool → Shared → Prop}
    (q : ∀ b h' L' es' ep' t', Heap.SameBut a s.heap h' → Laq P w h' a L' es' ep' t' → (k ∈ L.map (·.2) ∧ L' = L ∨ k ∉ L.map (·.2) ∧ L'.Perm ((x, k) :: L)) → Q b { s with heap := h' }) :
    wpAny (model P w) A (setAddHashed a (.ref x) (kh P w k)) Q E s := by
  obtain ⟨o, ho, hex, hd⟩ := Y.lies
  unfold setAddHashed
  refine wpAny_holding ?_
  rw [show (100000 : Nat) = 99999 + 1 from rfl, setAddHashedIn_succ]
  refine wpAny_bind (wpAny_setState_of ho hd Y.fits ?_)
  dsimp only
  rw [if_neg (by simp [byScan, Value.scannable])]
  refine wpAny_bind (look_atQ Y hx hu (fun m => ?_) fun K m he hb => ?_)
  · exact wpAny_pure (q false s.heap L es ep t (Heap.SameBut.refl a s.heap) Y (.inl ⟨m, rfl⟩))
  dsimp only
  refine wpAny_bind (wpAny_setState_of ho hd Y.fits ?_)
  dsimp only
  obtain ⟨t1, i, q1, q2, q3, q4, q5, q9⟩ := Y.tab.put he hb
  rw [q1]
  dsimp only
  have pm := put_perm L i (x, k)
  have e1 : (SetTable.insertAt es i (kh P w k, Value.ref x)).toList = (L.take i ++ (x, k) :: L.drop i).map (mbr P w) := by
    rw [SetTable.toList_insertAt, Y.ents, List.map_append, List.map_cons, List.map_take, List.map_drop]
    rfl
  have T1 : Tq t1 ((L.take i ++ (x, k) :: L.drop i).map fun p => kh P w p.2) := by
    rw [List.map_append, List.map_cons, List.map_take, List.map_drop]
    exact q3
  generalize L.take i ++ (x, k) :: L.drop i = L1 at pm e1 T1
  have z1 : L1.length = L.length + 1 := pm.length_eq
  have un : (L1.map (·.2)).Nodup := by
    refine (pm.map (·.2)).nodup_iff.mpr ?_
    rw [List.map_cons]
    exact List.nodup_cons.mpr ⟨m, Y.uniq⟩
  have sz := ents_size e1
  generalize SetTable.insertAt es i (kh P w k, Value.ref x) = es1 at e1 sz ⊢
  have rm := Y.room
  -- whatever its last mark, the table is put back
  have go : ∀ b : Bool, wpAny (model P w) A (storeSet a es1 { t1 with plain := b } >>= fun _ => if (!false && ({ t1 with plain := b } : SetTable).tooFull) = true then (setRelay a (SetTable.grown (es.size + 1)) >>= fun _ => pure true) else pure true) Q E s := fun b => by
    have T2 : Tq { t1 with plain := b } (L1.map fun p => kh P w p.2) := T1.by
    have full : ({ t1 with plain := b } : SetTable).tooFull = decide ((L.length + 1) * 5 ≥ t.mask * 3) := by
      rw [List.length_map] at q9
      show decide (t1.fill * 5 ≥ t1.mask * 3) = _
      rw [q9, q4]
    refine wpAny_bind (wpAny_storeSet_of ho hd ?_ (by rw [sz, z1, sizeLine_eq]; omega))
    have sb : Heap.SameBut a s.heap (s.heap.update a (Obj.putSet es1 { t1 with plain := b })) := Heap.SameBut.update ..
    have ho1 := store_at (es' := es1) (t' := { t1 with plain := b }) ho hd
    generalize s.heap.update a (Obj.putSet es1 { t1 with plain := b }) = h1 at sb ho1 ⊢
    have ks : ∀ p, p ∈ L1 → Kt P w h1 p.2 p.1 := fun p hp => by
      rcases List.mem_cons.mp (pm.mem_iff.mp hp) with rfl | hp
      · exact kt_but hx ho hd sb
      · exact kt_but (Y.keys p hp) ho hd sb
    have ld : w.params.followText "set-order" = true ∨ ({ t1 with plain := b } : SetTable).led = true := by
      show _ ∨ t1.led = true
      rw [q5]
      exact Y.led
    rw [full]
    by_cases c : (L.length + 1) * 5 ≥ t.mask * 3
    · rw [if_pos (by simp [c])]
      have grow : ∀ M, SetTable.sizeAbove (SetTable.grown (es.size + 1)) = M + 1 → Rnd M → (M = 31 ∨ M = 127 ∨ M = 511) → 5 * L1.length < 3 * M → wpAny (model P w) A (setRelay a (SetTable.grown (es.size + 1)) >>= fun _ => pure true) Q E { s with heap := h1 } := fun M g1 g2 gs g3 => by
        refine wpAny_bind (grow_atQ (s := { s with heap := h1 }) (L := L1) ho1 hex rfl e1 T2 un ks ld (by omega) (by show L1.length ≤ t1.mask; rw [q4]; omega) g1 g2 gs g3 fun h2 L2 es2 ep2 t2 sb2 Y2 pm2 => ?_)
        exact wpAny_pure (q true h2 L2 es2 ep2 t2 (sb.trans sb2) Y2 (.inr ⟨m, pm2.trans pm⟩))
      rw [ents_size Y.ents] at grow ⊢
      have small := Y.small
      rcases Y.steps with e | e | e | e <;> rw [e] at c rm
      · have l4 : L.length = 4 := by omega
        refine grow 31 ?_ (rnd_old (.inr (.inl rfl))) (.inl rfl) (by omega)
        rw [l4]
        exact grown_5
      · have l18 : L.length = 18 := by omega
        refine grow 127 ?_ (rnd_old (.inr (.inr rfl))) (.inr (.inl rfl)) (by omega)
        rw [l18]
        exact grown_19
      · have l76 : L.length = 76 := by omega
        refine grow 511 ?_ rnd511 (.inr (.inr rfl)) (by omega)
        rw [l76]
        exact grown_77
      · exact absurd c (by omega)
    · rw [if_neg (by simp [c])]
      refine wpAny_pure (q true h1 L1 es1 (ep + 1) _ sb ⟨⟨_, ho1, hex, rfl⟩, e1, T2, un, ks, ld, ?_, by omega, by show t1.mask ≤ 511; rw [q4]; exact Y.low, by show t1.mask = 7 ∨ _; rw [q4]; exact Y.steps⟩ (.inr ⟨m, pm⟩))
      show 5 * L1.length < 3 * t1.mask
      rw [q4]
      omega
  have tail : ∀ r : Bool, wpAny (model P w) A (storeSet a es1 (if r = true then t1 else { t1 with plain := false }) >>= fun _ => if (!false && (if r = true then t1 else { t1 with plain := false }).tooFull) = true then (setRelay a (SetTable.grown (es.size + 1)) >>= fun _ => pure true) else pure true) Q E s := fun r => by
    cases r
    · exact go false
    · exact go t1.plain
  split
  · exact wpAny_bind (tup_by_value hx tail)
  · exact wpAny_bind (wpAny_pure (tail true))
end
section
variable {P : Program} {w : World} {A : Around} {E : Value → Shared → Prop} {s : Shared}
/-- an empty set -/
theorem lay_newQ {h : Heap} {a : Addr} (ho : h.get? a = some (nSet w)) : Laq P w h a [] #[] 0 (.fresh 0 0 (!w.params.followText "set-order")) where
  lies := ⟨_, ho, ⟨rfl, rfl, rfl⟩, rfl⟩
  ents := rfl
  tab := ⟨List.Pairwise.nil, rfl, rfl, rnd_old (.inl rfl), fun _ z => (by cases z), fun _ z => (by cases z)⟩
  low := (by decide : 7 ≤ 511)
  steps := .inl rfl
  uniq := List.nodup_nil
  keys := fun _ z => (by cases z)
  led := by
    show _ ∨ (!w.params.followText "set-order") = true
    cases w.params.followText "set-order"
    · exact .inr rfl
    · exact .inl rfl
  room := (by decide : 5 * 0 < 3 * 7)
  small := Nat.zero_le _
/-- the walk that puts in -/
theorem fill_setQ {I : Addr} {fp wr : List Addr} {G : Array GenState → Array GenState → Prop} {n : Nat} {Pv : Nat → Value → Prop} {St : Nat → Shared → Prop} {R : Result → Shared → Prop}
    (W : WalksS P w A.in1 I fp wr G n Pv St) (S : Addr) (nS : S ∉ fp) (zs : List (Addr × List Key)) (hn : n = zs.length) (sm : zs.length ≤ 243) (hval : ∀ i v, Pv i v → ∃ z, zs[i]? = some z ∧ v = .ref z.1)
    (h0 : Heap) (hk : ∀ z, z ∈ zs → Kt P w h0 z.2 z.1) (f1 : h0.get? S = none) (f2 : ∀ b, b ∈ wr → h0.get? b = none) (hu : A.in1.units < cLine) :
    ∀ (m i : Nat) (s : Shared), n = i + m → St i s → (∀ b o, h0.get? b = some o → s.heap.get? b = some o) → (∃ L es ep t, Laq P w s.heap S L es ep t ∧ From zs i L) →
      (∀ s' L es ep t, Moved (S :: wr) G s s' → Laq P w s'.heap S L es ep t → From zs n L → (∀ b o, h0.get? b = some o → s'.heap.get? b = some o) → R (.ok (.ret .none)) s') →
      codeAny (model P w) A (.builtin "set.update.loop" ⟨[.ref S, .ref I], []⟩) R s := by
  have nw : S ∉ wr := fun z => nS (W.sub _ z)
  have up : ∀ b, b ∈ wr → b ∈ S :: wr := fun b z => List.mem_cons_of_mem _ z
  have old : ∀ {s s' : Shared}, Moved wr G s s' → (∀ b o, h0.get? b = some o → s.heap.get? b = some o) → ∀ b o, h0.get? b = some o → s'.heap.get? b = some o := fun mv k b o e =>
    mv.heap b o (fun z => by rw [f2 b z] at e; cases e) (k b o e)
  have still : ∀ {s s' : Shared} {i L es ep t}, Moved wr G s s' → (∀ b o, h0.get? b = some o → s'.heap.get? b = some o) → Laq P w s.heap S L es ep t → From zs i L → Laq P w s'.heap S L es ep t := fun mv k Y B =>
    Y.on (fun o e => mv.heap S o nw e) fun p hp => kt_on (hk p (List.mem_of_mem_take (B.sub p hp))) k
  intro m
  induction m with
  | zero =>
    intro i s e hst k ⟨L, es, ep, t, Y, B⟩ q
    obtain rfl : n = i := e
    refine codeAny_builtin F.entry_set_update_loop ?_
    rw [Around.under_plainId F.plain_set_update_loop _]
    show wpAny _ A.in1 (pyNext (.ref I) >>= _) _ _ s
    refine wpAny_bind (W.done s _ _ hst fun s' mv => ?_)
    have k' := old mv k
    exact wpAny_pure (q s' L es ep t (mv.mono up) (still mv k' Y B) B k')
  | succ m ih =>
    intro i s e hst k ⟨L, es, ep, t, Y, B⟩ q
    refine codeAny_builtin F.entry_set_update_loop ?_
    rw [Around.under_plainId F.plain_set_update_loop _]
    show wpAny _ A.in1 (pyNext (.ref I) >>= _) _ _ s
    refine wpAny_bind (W.item i s _ _ (by omega) hst fun v s' hv hst' mv => ?_)
    obtain ⟨z, hz, rfl⟩ := hval i v hv
    have k' := old mv k
    have hx : Kt P w s'.heap z.2 z.1 := kt_on (hk z (List.mem_of_getElem? hz)) k'
    show wpAny _ A.in1 (holding [Value.ref z.1] (setAdd S (.ref z.1)) >>= _) _ _ s'
    refine wpAny_bind (wpAny_holding ?_)
    unfold setAdd
    refine wpAny_holding (wpAny_bind (wpAny_pyHash_tuple hu hx ?_))
    have Y1 := still mv k' Y B
    refine add_keyQ (s := { s' with toks := s'.toks + (z.2.length + 1) }) Y1 hx hu (by have := B.len; omega) fun b h' L' es' ep' t' sb Y' c => ?_
    refine wpAny_pure ⟨plainId_quiet F.plain_set_update_loop _, ih (i + 1) _ (by omega) (W.frame _ s' _ _ hst' (Nat.le_add_right _ _) fun b hb o e => (sb.2 b fun z => nS (z ▸ hb)).trans e) ?_ ⟨L', es', ep', t', Y', B.next hz c⟩ fun s'' L2 es2 ep2 t2 mv2 Y2 F2 k2 => ?_⟩
    · exact fun b o e => (sb.2 b fun z => by rw [z, f1] at e; cases e).trans (k' b o e)
    · refine q s'' L2 es2 ep2 t2 (Moved.trans W.gtrans ((mv.mono up).then_heap (Nat.le_add_right _ _) fun b o hb e => (sb.2 b fun z => hb (by rw [z]; exact List.mem_cons_self)).trans e) mv2) Y2 F2 k2
/-- what set(xs) leaves -/
def KeysMadeQ (P : Program) (w : World) (s : Shared) (zs : List (Addr × List Key)) (s2 : Shared) : Prop :=
  ∃ h' tk L es ep t, s2 = { s with heap := h', toks := tk } ∧ Laq P w h' s.heap.objs.size L es ep t ∧ From zs zs.length L ∧ ∀ b o, s.heap.get? b = some o → h'.get? b = some o
theorem call_set_keysQ {l : Addr} {items : Array Value} {zs : List (Addr × List Key)} {Q : Value → Shared → Prop} (hh : A.handled = none) (hl : s.heap.IsList l items ∨ s.heap.IsTuple l items) (hit : items.toList = zs.map fun z => Value.ref z.1)
    (hk : ∀ z, z ∈ zs → Kt P w s.heap z.2 z.1) (sm : zs.length ≤ 243) (hu : A.units + 3 < cLine) (q : ∀ s2, KeysMadeQ P w s zs s2 → Q (.ref s.heap.objs.size) s2) : wpAny (model P w) A (call (.type "set") [.ref l]) Q E s := by
  have hz : items.size = zs.length := by
    have z := congrArg List.length hit
    rwa [Array.length_toList, List.length_map] at z
  have hval : ∀ (i : Nat) (v : Value), items[i]? = some v → ∃ z, zs[i]? = some z ∧ v = .ref z.1 := fun i v hv => by
    rw [← Array.getElem?_toList, hit, List.getElem?_map] at hv
    cases e : zs[i]? with
    | none =>
      rw [e] at hv
      cases hv
    | some z =>
      rw [e] at hv
      exact ⟨z, rfl, (Option.some.inj hv).symm⟩
  have fC := F.called_set
  obtain ⟨c, tl, mro⟩ := fC.mro
  have f1 := fC.made; have f2 := fC.sub; have f3 := fC.notType; have f4 := fC.canCreate
  have f5 := F.typeCall_set_1 (.ref l)
  have f6 := fC.init.lookup
  have f7 := fC.init.bind (.ref s.heap.objs.size)
  have at0 : (s.heap.push (nSet w)).get? s.heap.objs.size = some (nSet w) := Heap.get?_push_size _ rfl
  have tS : Shared.TypeIs { s with heap := s.heap.push (nSet w) } (.ref s.heap.objs.size) "set" := ⟨_, at0, rfl⟩
  have lt0 : l < s.heap.objs.size := by
    rcases hl with ⟨o, ho, _⟩ | ⟨o, ho, _⟩ <;> exact Heap.lt_size ho
  have none_of : ∀ b, s.heap.objs.size ≤ b → s.heap.get? b = none := fun b hb => by
    cases e : s.heap.get? b with
    | none => rfl
    | some o => exact absurd (Heap.lt_size e) (Nat.not_lt_of_le hb)
  have nI : l ≠ (s.heap.push (nSet w)).objs.size := by
    rw [Heap.size_push]
    exact Nat.ne_of_lt (Nat.lt_succ_of_lt lt0)
  have nS : s.heap.objs.size ∉ [(s.heap.push (nSet w)).objs.size, l] := fun z => by
    rw [Heap.size_push] at z
    rcases List.mem_cons.mp z with z | z
    · omega
    · exact Nat.ne_of_gt lt0 (List.mem_singleton.mp z)
  refine wpAny_call (codeAny_of_tree ?_)
  show wpAny _ _ (callAny (.type "set") _) _ _ _
  refine wpAny_pure ⟨Code.quiet_builtin _ (by decide +kernel), codeAny_builtin F.entry_type_call ?_⟩
  rw [Around.under_plain (weight_type_call_type "set" [.ref l] []) rfl]
  repeat (any_goals (first | assumption | wp_step))
  refine codeAny_mono (code_set_led1 (.ref l) (E := E) (Q₁ := fun x s1 => x = .ref s.heap.objs.size ∧ s1 = { s with heap := s.heap.push (nSet w) }) ⟨rfl, rfl⟩) fun r s1 hr => ?_
  rcases r with e | fl
  · exact hr
  cases fl
  case ret =>
    obtain ⟨rfl, rfl⟩ := hr
    repeat (any_goals (first | assumption | wp_step))
    refine codeAny_mono (codeAny_call_builtin (R := wants (fun x s2 => x = .none ∧ KeysMadeQ P w s zs s2) E) fC.init.plain F.entry_set_init (check_set_init_1 tS ?_)) fun r2 s2 hr2 => ?_
    · have fin : ∀ {St : Nat → Shared → Prop} {G : Array GenState → Array GenState → Prop} {R : Result → Shared → Prop} (ito : Obj), (∀ u v, G u v → v = u) → WalksS P w A.in1.in1.in1 (s.heap.push (nSet w)).objs.size [(s.heap.push (nSet w)).objs.size, l] [(s.heap.push (nSet w)).objs.size] G items.size (fun i v => items[i]? = some v) St →
          St 0 { s with heap := (s.heap.push (nSet w)).push ito } → (∀ s2, KeysMadeQ P w s zs s2 → R (.ok (.ret .none)) s2) →
          codeAny (model P w) A.in1.in1 (.builtin "set.update.loop" ⟨[.ref s.heap.objs.size, .ref (s.heap.push (nSet w)).objs.size], []⟩) R { s with heap := (s.heap.push (nSet w)).push ito } := fun {St G R} ito hG W st0 q => by
        refine fill_setQ W s.heap.objs.size nS zs hz sm hval s.heap hk (none_of _ (Nat.le_refl _)) (fun b hb => none_of b ?_) hu items.size 0 _ (Nat.zero_add _).symm st0 (fun b o e => Heap.get?_push_of_some _ (Heap.get?_push_of_some _ e))
          ⟨[], #[], 0, _, lay_newQ (Heap.get?_push_of_some _ at0), fun _ z => (by cases z), fun _ z => (by simp at z), Nat.le_refl 0⟩ fun s' L es ep t mv Y B k => q s' ?_
        · rw [List.mem_singleton.mp hb, Heap.size_push]
          exact Nat.le_succ _
        · obtain ⟨h', g', d', k', o'⟩ := s'
          have q1 : g' = s.gens := hG _ _ mv.gens
          have q2 : d' = s.drawn := mv.drawn
          have q3 : o' = s.os := mv.os
          subst q1; subst q2; subst q3
          exact ⟨h', k', L, es, ep, t, rfl, Y, hz ▸ B, k⟩
      rcases hl with hl | hl
      · have hl1 : (s.heap.push (nSet w)).IsList l items := hl.push _
        obtain ⟨⟨_, od, _, os⟩, ho, rfl, n, rfl⟩ := hl1
        have e1 := F.sub_list_set; have e2 := F.sub_list_frozenset
        have e3 : (Value.type "list" == Value.type "dict") = false := by decide
        have hl1 : (s.heap.push (nSet w)).IsList l items := hl.push _
        unfold Builtin.«set.__init__» noKeywords Builtin.Frozenset.updateFrom
        generalize hPI : pyIter = PI
        wp_walk
        subst hPI
        refine wpAny_pyIter_list hl1 (wpAny_bind (wpAny_runValue ?_))
        refine fin _ (fun _ _ e => e) (Walks.list (by simp [hh]) _ l nI items).toS ⟨⟨_, Heap.get?_push_size _ rfl, rfl, rfl⟩, hl1.push _⟩ fun s2 hm => ?_
        exact wpAny_pure (wpAny_pure ⟨rfl, hm⟩)
      · have hl1 : (s.heap.push (nSet w)).IsTuple l items := hl.push _
        obtain ⟨⟨_, od, _, os⟩, ho, rfl, n, rfl⟩ := hl1
        have e1 := F.sub_tuple_set; have e2 := F.sub_tuple_frozenset
        have e3 : (Value.type "tuple" == Value.type "dict") = false := by decide
        have hl1 : (s.heap.push (nSet w)).IsTuple l items := hl.push _
        unfold Builtin.«set.__init__» noKeywords Builtin.Frozenset.updateFrom
        generalize hPI : pyIter = PI
        wp_walk
        subst hPI
        refine wpAny_pyIter_tuple hl1 (wpAny_bind (wpAny_runValue ?_))
        refine fin _ (fun _ _ e => e) (Walks.tuple (by simp [hh]) _ l nI items).toS ⟨⟨_, Heap.get?_push_size _ rfl, rfl, rfl⟩, hl1.push _⟩ fun s2 hm => ?_
        exact wpAny_pure (wpAny_pure ⟨rfl, hm⟩)
    · rcases r2 with e | fl
      · exact hr2
      cases fl
      case ret =>
        obtain ⟨rfl, hm⟩ := hr2
        repeat (any_goals (first | assumption | wp_step))
        exact q _ hm
      all_goals exact hr2.elim
  all_goals exact hr.elim
end
end Hr

set_option Elab.async false
set_option linter.all false
set_option maxRecDepth 100000
set_option maxHeartbeats 4000000
/-! sets of tuples of texts: set(xs), len -/
namespace Hr
open PySem PySem.Spec PySem.W PyProof.Rows L2
abbrev txK (r : List Str) : List Key := r.map Sum.inr
theorem txK_inj {r r' : List Str} (h : txK r = txK r') : r = r' := by
  induction r generalizing r' with
  | nil =>
    cases r' with
    | nil => rfl
    | cons => cases h
  | cons x r ih =>
    cases r' with
    | nil => cases h
    | cons y r' =>
      have h' : (Sum.inr x : Key) :: txK r = Sum.inr y :: txK r' := h
      injection h' with h1 h2
      injection h1 with h1
      rw [h1, ih h2]
/-- a set of n members -/
def SetNO (a : Addr) (n : Nat) : HO := .ext fun h => ∃ (o : Obj) (es : Array (Int × Value)) (ep : Nat) (t : SetTable), h.get? a = some o ∧ o.ExactSet ∧ o.data = .set es ep t ∧ t.fits es.size = true ∧ es.size = n ∧ n ≤ 243
theorem setNO_new {P : Program} {w : World} {H : Hp} {h : Heap} {a : Addr} {L : List (Addr × List Key)} {es : Array (Int × Value)} {ep : Nat} {t : SetTable} (Y : Laq P w h a L es ep t) : ObjOk P w H h a (SetNO a L.length) := by
  obtain ⟨o, ho, hex, hd⟩ := Y.lies
  exact ⟨⟨o, es, ep, t, ho, hex, hd, Laq.fits (s := ⟨h, #[], boot_drawn, 0, default⟩) Y, ents_size Y.ents, Y.small⟩, ⟨o, ho⟩, fun h1 h2 ⟨o', es', ep', t', ho', r⟩ k => ⟨o', es', ep', t', k o' ho', r⟩⟩
section
variable {X : Cx} {pins : List (Addr × Obj)} {σ : L2.St} {H : Hp} {s : Shared}
theorem items_txt {P : Program} {w : World} : ∀ {k : List Str} {us : List Value}, Vals (k.map V.str) us → ItemsAre (mixKind P w) (txK k) us
  | [], _, .nil => .nil
  | x :: k, _, .cons r t => .cons (kV_is (k := .inr x) r) (items_txt t)
theorem txt_key (I : Inv X pins σ H s) {b : Addr} {r : List Str} (h : SqT X.K H b (r.map V.str)) : Kt X.prog X.w s.heap (txK r) b := by
  obtain ⟨its, rv, ⟨o, ho, hc, n, hd⟩, _⟩ := I.tuple h
  exact ⟨o, its.toArray, n, ho, hc, hd, by simpa using items_txt rv⟩
/-- set(xs), xs a list of tuples of texts, no two alike -/
@[irreducible] def rSetTx (K : PySem.W.Frag) : List V → Hp → VK → Prop := fun vs H Q => ∃ (a : Addr) (zs : List (Addr × List Str)), vs = [V.ref a] ∧ SqL K H a (zs.map fun z => V.ref z.1) ∧ (∀ z, z ∈ zs → SqT K H z.1 (z.2.map V.str)) ∧ (zs.map (·.2)).Nodup ∧ zs.length ≤ 243 ∧
  ∀ p : Addr, H p = none → Q (.ref p) (upd H p (SetNO p zs.length))
theorem cr_setTx {K : PySem.W.Frag} (hc : X.calm = true) (hu : X.A.units + 64 < cLine) (eK : X.K = K := by rfl) : CallR X (.type "set") (rSetTx K) := by
  subst eK
  intro pins s σ H vs us Q I r h
  unfold rSetTx at h
  obtain ⟨a, zs, rfl, hs, hd, hn, hl, q⟩ := h
  rw [Vals.ref1 r]
  obtain ⟨its, rv, hl', _⟩ := I.list hs
  let ks := zs.map fun z => (z.1, txK z.2)
  have hk : ∀ p, p ∈ ks → Kt X.prog X.w s.heap p.2 p.1 := fun p hp => by
    obtain ⟨z, m, rfl⟩ := List.mem_map.mp hp
    exact txt_key I (hd z m)
  have hit : its.toArray.toList = ks.map fun z => Value.ref z.1 := by
    show its = _
    rw [vals_refs rv, List.map_map]
    rfl
  have knd : (ks.map (·.2)).Nodup := by
    rw [List.map_map]
    exact List.pairwise_map.mpr ((List.pairwise_map.mp hn).imp fun {u v} h e => h (txK_inj e))
  refine call_set_keysQ (zs := ks) (I.ok.hd hc) (.inl hl'.isList) hit hk (by rw [List.length_map]; exact hl) (by omega) fun s2 ⟨h', tk, L, es, ep, t, e, Y, F, k⟩ => ?_
  subst e
  have len : L.length = zs.length := by
    have l1 : ks.length = zs.length := List.length_map _
    have a1 : L.length ≤ ks.length := F.len
    have a2 : (ks.map (·.2)).length ≤ (L.map (·.2)).length := by
      have sub : ∀ x, x ∈ ks.map (·.2) → x ∈ L.map (·.2) := fun x hx => by
        obtain ⟨p, hp, rfl⟩ := List.mem_map.mp hx
        exact F.all p (by rw [List.take_length]; exact hp)
      exact knd.length_le_of_subset fun {x} hx => sub x hx
    have a3 : ks.length ≤ L.length := by simpa using a2
    rw [l1] at a1
    rw [l1] at a3
    exact Nat.le_antisymm a1 a3
  have ob := setNO_new (H := H) Y
  rw [len] at ob
  exact ⟨.ref _, upd H s.heap.objs.size (SetNO s.heap.objs.size zs.length), I.laid (t' := tk) k (Nat.le_refl _) ob, rfl, q _ (I.hok.fresh (Nat.le_refl _))⟩
/-- len of a set -/
def rLenSet : List V → Hp → VK → Prop := fun vs H Q => ∃ (p : Addr) (n : Nat), vs = [.ref p] ∧ H p = some (SetNO p n) ∧ Q (.int n) H
theorem cr_lenSet : CallR X (.builtin "len") rLenSet := by
  intro pins s σ H vs us Q I r h
  obtain ⟨p, n, rfl, hp, q⟩ := h
  rw [Vals.ref1 r]
  obtain ⟨o, es, ep, t, ho, hex, hd, hf, hz, hn⟩ : (∃ (o : Obj) (es : Array (Int × Value)) (ep : Nat) (t : SetTable), _) := (I.hok p _ hp).1
  refine call_len_set ho hex hd hf (by rw [hz]; omega) ⟨.int n, H, I.tok _, ⟨_, by rw [hz]⟩, q⟩
end
end Hr

set_option Elab.async false
set_option linter.all false
set_option maxRecDepth 100000
set_option maxHeartbeats 4000000
namespace Hr
open PySem PySem.Spec PyProof.Rows L2
def topS (i : Nat) : Stmt := PySem.Challenge.pw_hiddenrank_k05_whole_requests_are_number.main.body.getD i (.Pass ⟨0, 0, 0, 0⟩)
abbrev s_Schema___init__ : Stmt := inClass (topS 24) 0
abbrev N_Schema___init__ : List Str := ["self", "fields", "kept"]
theorem sc_Schema___init__ : FnScope N_Schema___init__ ["self", "fields"] (defScope s_Schema___init__) := ⟨rfl, rfl, rfl, by decide +kernel, rfl, by decide +kernel, by decide +kernel⟩
abbrev s_Schema_request_of : Stmt := inClass (topS 24) 7
abbrev N_Schema_request_of : List Str := ["self", "number", "backwards", "rest", "values"]
theorem sc_Schema_request_of : FnScope N_Schema_request_of ["self", "number"] (defScope s_Schema_request_of) := ⟨rfl, rfl, rfl, by decide +kernel, rfl, by decide +kernel, by decide +kernel⟩
abbrev s_Schema_number_of : Stmt := inClass (topS 24) 8
abbrev N_Schema_number_of : List Str := ["self", "request", "number", "position", "values"]
theorem sc_Schema_number_of : FnScope N_Schema_number_of ["self", "request"] (defScope s_Schema_number_of) := ⟨rfl, rfl, rfl, by decide +kernel, rfl, by decide +kernel, by decide +kernel⟩
abbrev s__wall : Stmt := topS 0
abbrev N__wall : List Str := ["k"]
theorem sc__wall : FnScope N__wall ["k"] (defScope s__wall) := ⟨rfl, rfl, rfl, by decide +kernel, rfl, by decide +kernel, by decide +kernel⟩
abbrev s_consists_of : Stmt := topS 16
abbrev N_consists_of : List Str := ["text", "characters", "character"]
theorem sc_consists_of : FnScope N_consists_of ["text", "characters"] (defScope s_consists_of) := ⟨rfl, rfl, rfl, by decide +kernel, rfl, by decide +kernel, by decide +kernel⟩
abbrev s_is_name : Stmt := topS 17
abbrev N_is_name : List Str := ["text"]
theorem sc_is_name : FnScope N_is_name ["text"] (defScope s_is_name) := ⟨rfl, rfl, rfl, by decide +kernel, rfl, by decide +kernel, by decide +kernel⟩
abbrev s_is_value : Stmt := topS 18
abbrev N_is_value : List Str := ["text"]
theorem sc_is_value : FnScope N_is_value ["text"] (defScope s_is_value) := ⟨rfl, rfl, rfl, by decide +kernel, rfl, by decide +kernel, by decide +kernel⟩
abbrev s_is_field_name : Stmt := topS 19
abbrev N_is_field_name : List Str := ["text"]
theorem sc_is_field_name : FnScope N_is_field_name ["text"] (defScope s_is_field_name) := ⟨rfl, rfl, rfl, by decide +kernel, rfl, by decide +kernel, by decide +kernel⟩
abbrev s_check_count : Stmt := topS 20
abbrev N_check_count : List Str := ["many", "limit"]
theorem sc_check_count : FnScope N_check_count ["many", "limit"] (defScope s_check_count) := ⟨rfl, rfl, rfl, by decide +kernel, rfl, by decide +kernel, by decide +kernel⟩
abbrev s_checked_values : Stmt := topS 21
abbrev N_checked_values : List Str := ["values", "kept", "value"]
theorem sc_checked_values : FnScope N_checked_values ["values"] (defScope s_checked_values) := ⟨rfl, rfl, rfl, by decide +kernel, rfl, by decide +kernel, by decide +kernel⟩
abbrev s_checked_fields : Stmt := topS 22
abbrev N_checked_fields : List Str := ["fields", "kept", "name", "values"]
theorem sc_checked_fields : FnScope N_checked_fields ["fields"] (defScope s_checked_fields) := ⟨rfl, rfl, rfl, by decide +kernel, rfl, by decide +kernel, by decide +kernel⟩
abbrev s_count_requests : Stmt := topS 23
abbrev N_count_requests : List Str := ["choices", "many", "values"]
theorem sc_count_requests : FnScope N_count_requests ["choices"] (defScope s_count_requests) := ⟨rfl, rfl, rfl, by decide +kernel, rfl, by decide +kernel, by decide +kernel⟩
abbrev s__law_bag : Stmt := topS 26
abbrev N__law_bag : List Str := ["_law_script"]
theorem sc__law_bag : FnScope N__law_bag ["_law_script"] (defScope s__law_bag) := ⟨rfl, rfl, rfl, by decide +kernel, rfl, by decide +kernel, by decide +kernel⟩
abbrev s__law_pull : Stmt := topS 27
abbrev N__law_pull : List Str := ["_law_bag_here", "_law_sides", "_law_twice", "_law_cell", "_law_digit"]
theorem sc__law_pull : FnScope N__law_pull ["_law_bag_here", "_law_sides"] (defScope s__law_pull) := ⟨rfl, rfl, rfl, by decide +kernel, rfl, by decide +kernel, by decide +kernel⟩
abbrev s__law_of : Stmt := topS 28
abbrev N__law_of : List Str := ["_law_bag_here", "_law_some"]
theorem sc__law_of : FnScope N__law_of ["_law_bag_here", "_law_some"] (defScope s__law_of) := ⟨rfl, rfl, rfl, by decide +kernel, rfl, by decide +kernel, by decide +kernel⟩
abbrev s__law_mixed : Stmt := topS 29
abbrev N__law_mixed : List Str := ["_law_bag_here", "_law_some", "_law_found", "_law_one"]
theorem sc__law_mixed : FnScope N__law_mixed ["_law_bag_here", "_law_some"] (defScope s__law_mixed) := ⟨rfl, rfl, rfl, by decide +kernel, rfl, by decide +kernel, by decide +kernel⟩
abbrev s__law_same : Stmt := topS 30
abbrev N__law_same : List Str := ["_law_found", "_law_due", "_law_one", "_law_two"]
theorem sc__law_same : FnScope N__law_same ["_law_found", "_law_due"] (defScope s__law_same) := ⟨rfl, rfl, rfl, by decide +kernel, rfl, by decide +kernel, by decide +kernel⟩
abbrev s__law_names : Stmt := topS 31
abbrev N__law_names : List Str := ["_law_bag_here", "_law_many", "_law_letters", "_law_stem", "_law_found", "_law_k", "_law_spot", "_law_first", "_law_one"]
theorem sc__law_names : FnScope N__law_names ["_law_bag_here", "_law_many"] (defScope s__law_names) := ⟨rfl, rfl, rfl, by decide +kernel, rfl, by decide +kernel, by decide +kernel⟩
abbrev s__law_marks : Stmt := topS 32
abbrev N__law_marks : List Str := ["_law_bag_here", "_law_many", "_law_signs", "_law_stem", "_law_spot", "_law_first", "_law_k"]
theorem sc__law_marks : FnScope N__law_marks ["_law_bag_here", "_law_many"] (defScope s__law_marks) := ⟨rfl, rfl, rfl, by decide +kernel, rfl, by decide +kernel, by decide +kernel⟩
abbrev s__law_fields : Stmt := topS 33
abbrev N__law_fields : List Str := ["_law_bag_here", "_law_most", "_law_names_here", "_law_name"]
theorem sc__law_fields : FnScope N__law_fields ["_law_bag_here", "_law_most"] (defScope s__law_fields) := ⟨rfl, rfl, rfl, by decide +kernel, rfl, by decide +kernel, by decide +kernel⟩
abbrev s__law_size : Stmt := topS 34
abbrev N__law_size : List Str := ["_law_fields_here", "_law_many", "_law_name", "_law_marks_here"]
theorem sc__law_size : FnScope N__law_size ["_law_fields_here"] (defScope s__law_size) := ⟨rfl, rfl, rfl, by decide +kernel, rfl, by decide +kernel, by decide +kernel⟩
abbrev s__law_request : Stmt := topS 35
abbrev N__law_request : List Str := ["_law_fields_here", "_law_number_z", "_law_found", "_law_name", "_law_marks_here"]
theorem sc__law_request : FnScope N__law_request ["_law_fields_here", "_law_number_z"] (defScope s__law_request) := ⟨rfl, rfl, rfl, by decide +kernel, rfl, by decide +kernel, by decide +kernel⟩
abbrev s__law_schema : Stmt := topS 36
abbrev N__law_schema : List Str := ["_law_fields_here", "_law_name", "_law_marks_here"]
theorem sc__law_schema : FnScope N__law_schema ["_law_fields_here"] (defScope s__law_schema) := ⟨rfl, rfl, rfl, by decide +kernel, rfl, by decide +kernel, by decide +kernel⟩
abbrev s_law : Stmt := topS 37
abbrev N_law : List Str := ["_law_script", "_law_bag_here", "_law_fields_here", "_law_number_z", "_law_schema_here", "_law_size_here", "_law_seen", "_law_request_z", "_law_name", "_law_marks_here"]
theorem sc_law : FnScope N_law ["_law_script"] (defScope s_law) := ⟨rfl, rfl, rfl, by decide +kernel, rfl, by decide +kernel, by decide +kernel⟩
structure Txt (K : PySem.W.Frag) (mg : Str → Option Value) : Prop where
  m_abs : mg "abs" = none
  m_all : mg "all" = none
  m_bool : mg "bool" = none
  m_enumerate : mg "enumerate" = none
  m_int : mg "int" = none
  m_isinstance : mg "isinstance" = none
  m_len : mg "len" = none
  m_list : mg "list" = none
  m_max : mg "max" = none
  m_range : mg "range" = none
  m_reversed : mg "reversed" = none
  m_set : mg "set" = none
  m_sorted : mg "sorted" = none
  m_str : mg "str" = none
  m_tuple : mg "tuple" = none
  m_zip : mg "zip" = none
  c_MAX_NAME : Gv mg "MAX_NAME" (.int 8)
  c_MAX_FIELDS : Gv mg "MAX_FIELDS" (.int 5)
  c_MAX_VALUES : Gv mg "MAX_VALUES" (.int 6)
  c_MAX_REQUESTS : Gv mg "MAX_REQUESTS" (.int 400)
  c_NAME_CHARACTERS : Gv mg "NAME_CHARACTERS" (.str "abcdefghijklmnopqrstuvwxyz")
  c_VALUE_CHARACTERS : Gv mg "VALUE_CHARACTERS" (.str "abcdefghijklmnopqrstuvwxyz0123456789")
  g_Schema : mg "Schema" = some (.ref (adr (mg "Schema")))
  k_Schema : Cls K (adr (mg "Schema"))
  n_Schema_labels : NoAttr K (adr (mg "Schema")) "labels"
  n_Schema_choices : NoAttr K (adr (mg "Schema")) "choices"
  n_Schema_total : NoAttr K (adr (mg "Schema")) "total"
  h_Schema___init__ : ∃ f fd, Fun K "__init__" "Schema.__init__" s_Schema___init__ f fd ∧ Binds K fd ["self", "fields"] [] ∧ Mk K (adr (mg "Schema")) f
  h_Schema_request_of : ∃ f fd, Fun K "request_of" "Schema.request_of" s_Schema_request_of f fd ∧ Binds K fd ["self", "number"] [] ∧ Meth K (adr (mg "Schema")) "request_of" f ∧ KwM fd ["self", "number"] ["number"]
  h_Schema_number_of : ∃ f fd, Fun K "number_of" "Schema.number_of" s_Schema_number_of f fd ∧ Binds K fd ["self", "request"] [] ∧ Meth K (adr (mg "Schema")) "number_of" f ∧ KwM fd ["self", "request"] ["request"]
  h__wall : ∃ f fd, Fun K "_wall" "_wall" s__wall f fd ∧ Binds K fd ["k"] [] ∧ mg "_wall" = some (.ref f)
  h_consists_of : ∃ f fd, Fun K "consists_of" "consists_of" s_consists_of f fd ∧ Binds K fd ["text", "characters"] [] ∧ mg "consists_of" = some (.ref f)
  h_is_name : ∃ f fd, Fun K "is_name" "is_name" s_is_name f fd ∧ Binds K fd ["text"] [] ∧ mg "is_name" = some (.ref f)
  h_is_value : ∃ f fd, Fun K "is_value" "is_value" s_is_value f fd ∧ Binds K fd ["text"] [] ∧ mg "is_value" = some (.ref f)
  h_is_field_name : ∃ f fd, Fun K "is_field_name" "is_field_name" s_is_field_name f fd ∧ Binds K fd ["text"] [] ∧ mg "is_field_name" = some (.ref f)
  h_check_count : ∃ f fd, Fun K "check_count" "check_count" s_check_count f fd ∧ Binds K fd ["many", "limit"] [] ∧ mg "check_count" = some (.ref f)
  h_checked_values : ∃ f fd, Fun K "checked_values" "checked_values" s_checked_values f fd ∧ Binds K fd ["values"] [] ∧ mg "checked_values" = some (.ref f)
  h_checked_fields : ∃ f fd, Fun K "checked_fields" "checked_fields" s_checked_fields f fd ∧ Binds K fd ["fields"] [] ∧ mg "checked_fields" = some (.ref f)
  h_count_requests : ∃ f fd, Fun K "count_requests" "count_requests" s_count_requests f fd ∧ Binds K fd ["choices"] [] ∧ mg "count_requests" = some (.ref f)
  h__law_bag : ∃ f fd, Fun K "_law_bag" "_law_bag" s__law_bag f fd ∧ Binds K fd ["_law_script"] [] ∧ mg "_law_bag" = some (.ref f)
  h__law_pull : ∃ f fd, Fun K "_law_pull" "_law_pull" s__law_pull f fd ∧ Binds K fd ["_law_bag_here", "_law_sides"] [] ∧ mg "_law_pull" = some (.ref f)
  h__law_of : ∃ f fd, Fun K "_law_of" "_law_of" s__law_of f fd ∧ Binds K fd ["_law_bag_here", "_law_some"] [] ∧ mg "_law_of" = some (.ref f)
  h__law_mixed : ∃ f fd, Fun K "_law_mixed" "_law_mixed" s__law_mixed f fd ∧ Binds K fd ["_law_bag_here", "_law_some"] [] ∧ mg "_law_mixed" = some (.ref f)
  h__law_same : ∃ f fd, Fun K "_law_same" "_law_same" s__law_same f fd ∧ Binds K fd ["_law_found", "_law_due"] [] ∧ mg "_law_same" = some (.ref f)
  h__law_names : ∃ f fd, Fun K "_law_names" "_law_names" s__law_names f fd ∧ Binds K fd ["_law_bag_here", "_law_many"] [] ∧ mg "_law_names" = some (.ref f)
  h__law_marks : ∃ f fd, Fun K "_law_marks" "_law_marks" s__law_marks f fd ∧ Binds K fd ["_law_bag_here", "_law_many"] [] ∧ mg "_law_marks" = some (.ref f)
  h__law_fields : ∃ f fd, Fun K "_law_fields" "_law_fields" s__law_fields f fd ∧ Binds K fd ["_law_bag_here", "_law_most"] [] ∧ mg "_law_fields" = some (.ref f)
  h__law_size : ∃ f fd, Fun K "_law_size" "_law_size" s__law_size f fd ∧ Binds K fd ["_law_fields_here"] [] ∧ mg "_law_size" = some (.ref f)
  h__law_request : ∃ f fd, Fun K "_law_request" "_law_request" s__law_request f fd ∧ Binds K fd ["_law_fields_here", "_law_number_z"] [] ∧ mg "_law_request" = some (.ref f)
  h__law_schema : ∃ f fd, Fun K "_law_schema" "_law_schema" s__law_schema f fd ∧ Binds K fd ["_law_fields_here"] [] ∧ mg "_law_schema" = some (.ref f)
section
variable {P : Program} {w : World} {K : PySem.W.Frag} {mg : Str → Option Value} {base : Heap}
theorem seqI {t1 t2 : TS} {D : Ends} {σ : L2.St} {H : Hp} (I : L2.St → Hp → Prop) (h2 : ∀ σ' H', I σ' H' → t2 D σ' H') (h1 : ∀ N : L2.St → Hp → Prop, (∀ σ' H', I σ' H' → N σ' H') → t1 { D with nx := N } σ H) : tSeq t1 t2 D σ H := h1 (t2 D) h2
theorem cut_ints (ns : List Int) (lo hi : Option Int) : ∃ ms : List Int, cutV (ns.map V.int) lo hi = ms.map V.int ∧ ms.length ≤ ns.length := by
  refine ⟨(ns.drop (HT.sIx (ns.map V.int).length 0 lo)).take (HT.sIx (ns.map V.int).length (ns.map V.int).length hi - HT.sIx (ns.map V.int).length 0 lo), ?_, ?_⟩
  · unfold cutV
    rw [List.map_take, List.map_drop]
  · rw [List.length_take, List.length_drop]
    omega
theorem at_int {ns : List Int} {i : Int} (h0 : 0 ≤ i) (h1 : i < ns.length) : ∃ c : Int, atI (ns.map V.int) i = some (.int c) := by
  have hk : i.toNat < ns.length := by omega
  have ek : i = ((i.toNat : Nat) : Int) := by omega
  have q : atI (ns.map V.int) ((i.toNat : Nat) : Int) = some (.int ns[i.toNat]) := atI_nat (by rw [List.getElem?_map, List.getElem?_eq_getElem hk] <;> rfl)
  rw [← ek] at q
  exact ⟨_, q⟩
theorem fmod_in {a n : Int} (h : 0 < n) : 0 ≤ a.fmod n ∧ a.fmod n < n := ⟨Int.fmod_nonneg_of_pos _ h, Int.fmod_lt_of_pos _ h⟩
theorem fdiv_in {a n : Int} (h : 0 < n) (h0 : 0 ≤ a) : 0 ≤ a.fdiv n := by
  rw [Int.fdiv_eq_ediv_of_nonneg _ (by omega)]
  exact Int.ediv_nonneg h0 (by omega)
theorem bag_at {H : Hp} {b l : Addr} {ns : List Int} {i g t : Int} (nl : l ≠ b) (hl : H l = some (.lst (ns.map V.int))) (h : ns.length ≤ 63) (h1 : 0 ≤ i) (h2 : 0 ≤ g) (h3 : 0 ≤ t) (h4 : t < 2147483647) : Bag (upd H b (.lst [.ref l, .int i, .int g, .int t])) b l :=
  ⟨ns, i, g, t, upd_same, by rw [upd_ne nl]; exact hl, h, h1, h2, h3, h4⟩
theorem bag_ne {b l : Addr} {ns : List Int} {i g s : Int} {H : Hp} (h : H b = some (.lst [.ref l, .int i, .int g, .int s])) (h' : H l = some (.lst (ns.map V.int))) : l ≠ b := by
  refine ne_of h' h fun e => ?_
  cases ns with
  | nil => cases e
  | cons n r => cases (List.cons.inj (HO.lst.inj e)).1
theorem ok__law_bag {f : Addr} {fd : FuncData} (T : Txt K mg) (F : Fun K "_law_bag" "_law_bag" s__law_bag f fd) : FnOk P w K mg base CX0 1 f fd ["_law_script"] (sp_bag K) := by
  refine F.ok sc__law_bag (fun vs H Q E h => ?_) (fun cdv A outer s H vs Q E hr h => ?_)
  · obtain ⟨a, ns, rfl, _⟩ := h
    rfl
  obtain ⟨a, ns, rfl, hS, hn, q⟩ := h
  refine ⟨_, (pss_one (ps_ret (pe_lst (pa_cons (pe_callTy (call_list_ofK (K := K)) (by rfl) T.m_list (by decide +kernel) (pa_cons (pe_slice (sl_listK (K := K)) (pv 0) po_none (po_some pe_int)) pa_nil)) (pa_cons pe_int (pa_cons pe_int (pa_cons pe_int pa_nil))))))), ?_⟩
  obtain ⟨ms, em, hm⟩ := cut_ints ns none (some 63)
  refine ⟨_, rfl, 63, rfl, a, _, rfl, hS, fun p hp => ⟨p, ms.map V.int, rfl, .inl (.inl (.inl (by rw [upd_same, em]))), fun l hl => ⟨by show 4 ≤ sizeLine; decide, fun b hb => ?_⟩⟩⟩
  have s1 : Same H (upd H p (.lst (cutV (ns.map V.int) none (some 63)))) := same_new hp
  have s2 := same_new (o := .lst (ms.map V.int)) hl
  have s3 := same_new (o := .lst [V.ref l, .int 0, .int 0, .int 9485]) hb
  exact q b l _ ⟨ms, 0, 0, 9485, upd_same, s3 _ _ upd_same, by omega, by omega, by omega, by omega, by omega⟩ ((s1.trans s2).free hb) ((s1.trans s2).trans s3)
theorem ok__law_pull {f : Addr} {fd : FuncData} (T : Txt K mg) (F : Fun K "_law_pull" "_law_pull" s__law_pull f fd) : FnOk P w K mg base CX0 1 f fd ["_law_bag_here", "_law_sides"] sp_pull := by
  refine F.ok sc__law_pull (fun vs H Q E h => ?_) (fun cdv A outer s H vs Q E hr h => ?_)
  · obtain ⟨b, l, n, rfl, _⟩ := h
    rfl
  obtain ⟨b, l, n, rfl, ⟨ns, i, g, t, hb, hl, hlen, hi, hg, ht, ht'⟩, hn1, hn2, q⟩ := h
  have nl : l ≠ b := bag_ne hb hl
  refine ⟨_, (pss_cons (ps_if (PW.pt (pw_and (pt_cmpR op_eq (pe_ix (ix_listK (K := K)) (pv 0) pe_int (fun _ _ => rfl)) pe_int (nomark _)) (pw_and1 (pt_cmpR op_lt (pe_ix (ix_listK (K := K)) (pv 0) pe_int (fun _ _ => rfl)) (pe_callB (call_len_seqK (K := K)) (by rfl) T.m_len PySem.boot_len (pa_cons (pe_ix (ix_listK (K := K)) (pv 0) pe_int (fun _ _ => rfl)) pa_nil)) (nomark _))))) (pss_cons (ps_set (i := 3) sc__law_pull.nd rfl (.inl rfl) (pe_ix (ix_listK (K := K)) (pe_ix (ix_listK (K := K)) (pv 0) pe_int (fun _ _ => rfl)) (pe_ix (ix_listK (K := K)) (pv 0) pe_int (fun _ _ => rfl)) (fun _ _ => rfl)))
      (pss_cons (ps_asg (pe_op op_add (pe_ix (ix_listK (K := K)) (pv 0) pe_int (fun _ _ => rfl)) pe_int) (pg_sub (pv 0) pe_int set_list))
      (pss_one (ps_if (pt_cmpR op_ge (pe_callB call_abs (by rfl) T.m_abs (by decide +kernel) (pa_cons (pv 3) pa_nil)) (pe_op op_pow pe_int pe_int) (nomark _)) (pss_one (ps_asg (pe_callB call_abs (by rfl) T.m_abs (by decide +kernel) (pa_cons (pv 3) pa_nil)) (pg_sub (pv 0) pe_int set_list))) (pss_one (ps_asg (pe_op op_modN (pe_op op_add (pe_op op_add (pe_op op_mul (pe_ix (ix_listK (K := K)) (pv 0) pe_int (fun _ _ => rfl)) pe_int) (pe_op op_mul (pe_op op_modN (pv 3) pe_int) pe_int)) pe_int) pe_int) (pg_sub (pv 0) pe_int set_list))))))) pss_nil)
      (pss_cons (ps_if (pt_cmpR op_gt (pe_ix (ix_listK (K := K)) (pv 0) pe_int (fun _ _ => rfl)) pe_int (nomark _)) (pss_cons (ps_set (i := 4) sc__law_pull.nd rfl (.inl rfl) (pe_op op_modN (pe_ix (ix_listK (K := K)) (pv 0) pe_int (fun _ _ => rfl)) (pv 1)))
      (pss_cons (ps_asg (pe_op op_fdivN (pe_ix (ix_listK (K := K)) (pv 0) pe_int (fun _ _ => rfl)) (pv 1)) (pg_sub (pv 0) pe_int set_list))
      (pss_one (ps_ret (pv 4))))) pss_nil)
      (pss_cons (ps_set (i := 2) sc__law_pull.nd rfl (.inl rfl) (pe_op op_modN (pe_op op_mul (pe_ix (ix_listK (K := K)) (pv 0) pe_int (fun _ _ => rfl)) (pe_ix (ix_listK (K := K)) (pv 0) pe_int (fun _ _ => rfl))) pe_int))
      (pss_cons (ps_asg (pe_op op_modN (pe_op op_add (pe_op op_add (pe_op op_mul (pv 2) pe_int) (pe_op op_mul (pe_ix (ix_listK (K := K)) (pv 0) pe_int (fun _ _ => rfl)) pe_int)) pe_int) pe_int) (pg_sub (pv 0) pe_int set_list))
      (pss_one (ps_ret (pe_op op_modN (pe_op op_fdivN (pe_ix (ix_listK (K := K)) (pv 0) pe_int (fun _ _ => rfl)) pe_int) (pv 1)))))))), ?_⟩
  refine seqI (fun σ' H' => ∃ (x : Option V) (i g t : Int), σ' = [some (.ref b), some (.int n), none, x, none] ∧ H' = upd H b (.lst [.ref l, .int i, .int g, .int t]) ∧ 0 ≤ i ∧ 0 ≤ g ∧ 0 ≤ t ∧ t < 2147483647) ?_ ?_
  · rintro σ' H' ⟨x, i, g, t, rfl, rfl, hi, hg, ht, ht'⟩
    have hb1 : (upd H b (.lst [.ref l, .int i, .int g, .int t])) b = some (.lst [.ref l, .int i, .int g, .int t]) := upd_same
    refine ⟨_, rfl, b, _, _, _, rfl, rfl, SqL.of hb1, rfl, _, _, rfl, rfl, _, rfl, ite2 (fun c => ?_) (fun c => ?_)⟩
    · have e := fmod_in (a := g) (n := n) (by omega)
      refine ⟨_, rfl, b, _, _, _, rfl, rfl, SqL.of hb1, rfl, _, rfl, _, _, rfl, rfl, by omega, ?_⟩
      refine ⟨_, rfl, b, _, _, _, rfl, rfl, SqL.of hb1, rfl, _, rfl, _, _, rfl, rfl, ⟨by omega, by omega⟩, ?_⟩
      refine ⟨_, rfl, b, _, 2, 2, rfl, rfl, hb1, rfl, _, rfl, ?_⟩
      rw [upd_upd]
      exact q _ _ e.1 e.2 (Bx.bagstep (bag_at nl hl hlen hi (fdiv_in (by omega) hg) ht ht'))
    · refine ⟨_, rfl, b, _, _, _, rfl, rfl, SqL.of hb1, rfl, _, rfl, b, _, _, _, rfl, rfl, SqL.of hb1, rfl, _, _, rfl, rfl, .inl ⟨by omega, by omega⟩, _, _, rfl, rfl, by omega, ?_⟩
      have e1 := fmod_in (a := t * t) (n := 2147483629) (by omega)
      refine ⟨_, rfl, _, _, rfl, rfl, .inl ⟨by omega, by omega⟩, _, rfl, b, _, _, _, rfl, rfl, SqL.of hb1, rfl, _, _, rfl, rfl, .inl ⟨by omega, by omega⟩, _, _, rfl, rfl, _, _, rfl, rfl, _, _, rfl, rfl, by omega, ?_⟩
      have e2 := fmod_in (a := (t * t).fmod 2147483629 * 16807 + t * 40692 + 12345) (n := 2147483647) (by omega)
      refine ⟨_, rfl, b, _, 3, 3, rfl, rfl, hb1, rfl, ?_⟩
      refine ⟨_, rfl, b, _, 3, _, rfl, rfl, SqL.of upd_same, rfl, _, _, rfl, rfl, ⟨by omega, by omega⟩, _, rfl, _, _, rfl, rfl, by omega, ?_⟩
      have e3 := fmod_in (a := (((t * t).fmod 2147483629 * 16807 + t * 40692 + 12345).fmod 2147483647).fdiv 64) (n := n) (by omega)
      rw [upd_upd]
      exact q _ _ e3.1 e3.2 (Bx.bagstep (bag_at nl hl hlen hi hg e2.1 e2.2))
  · intro N hN
    refine ⟨_, rfl, b, _, _, _, rfl, rfl, SqL.of hb, rfl, rfl, _, rfl, ite2 (fun c => ?_) (fun c => ?_)⟩
    · refine ⟨_, rfl, b, _, _, _, rfl, rfl, SqL.of hb, rfl, _, rfl, b, _, _, _, rfl, rfl, SqL.of hb, rfl, l, _, rfl, .inl (SqL.of hl), _, _, rfl, rfl, _, rfl, ite2 (fun c2 => ?_) (fun c2 => ?_)⟩
      · have c3 : i < ns.length := by
          have := of_decide_eq_true c2
          rw [List.length_map] at this
          exact this
        obtain ⟨v, hv⟩ := at_int hi c3
        refine ⟨_, rfl, b, _, _, _, rfl, rfl, SqL.of hb, rfl, _, rfl, b, _, _, _, rfl, rfl, SqL.of hb, rfl, l, _, i, .int v, rfl, rfl, SqL.of hl, hv, ?_⟩
        refine ⟨_, rfl, b, _, _, _, rfl, rfl, SqL.of hb, rfl, _, _, rfl, rfl, _, rfl, b, _, 1, 1, rfl, rfl, hb, rfl, ?_⟩
        refine ⟨_, rfl, v, rfl, 10, 18, rfl, rfl, ⟨by decide, by decide, by decide⟩, _, _, rfl, rfl, _, rfl, ite2 (fun c4 => ?_) (fun c4 => ?_)⟩
        · refine ⟨_, rfl, v, rfl, _, rfl, b, _, 2, 2, rfl, rfl, upd_same, rfl, ?_⟩
          refine hN _ _ ⟨_, i + 1, (if v < 0 then -v else v), t, rfl, ?_, by omega, by split <;> omega, ht, ht'⟩
          rw [upd_upd]
          rfl
        · have e1 := fmod_in (a := v) (n := 1000003) (by omega)
          have e2 := fmod_in (a := t * 48271 + v.fmod 1000003 * 911 + 7) (n := 2147483647) (by omega)
          refine ⟨_, rfl, b, _, 3, .int t, rfl, rfl, SqL.of upd_same, rfl, _, _, rfl, rfl, .inl ⟨by omega, by omega⟩, _, rfl, _, _, rfl, rfl, by omega, _, _, rfl, rfl, .inl ⟨by omega, by omega⟩, _, _, rfl, rfl, _, _, rfl, rfl, _, _, rfl, rfl, by omega, ?_⟩
          refine ⟨_, rfl, b, _, 3, 3, rfl, rfl, upd_same, rfl, ?_⟩
          refine hN _ _ ⟨_, i + 1, g, _, rfl, ?_, by omega, hg, e2.1, e2.2⟩
          rw [upd_upd]
          rfl
      · exact hN _ _ ⟨none, i, g, t, rfl, (upd_id hb).symm, hi, hg, ht, ht'⟩
    · exact hN _ _ ⟨none, i, g, t, rfl, (upd_id hb).symm, hi, hg, ht, ht'⟩
theorem ok__law_ofS {f : Addr} {fd : FuncData} (T : Txt K mg) (F : Fun K "_law_of" "_law_of" s__law_of f fd) : FnOk P w K mg base CX0 2 f fd ["_law_bag_here", "_law_some"] sp_ofS := by
  obtain ⟨f__law_pull, fd__law_pull, F__law_pull, b__law_pull, g__law_pull⟩ := T.h__law_pull
  have G__law_pull := ok__law_pull (P := P) (w := w) (base := base) T F__law_pull
  refine F.ok sc__law_of (fun vs H Q E h => ?_) (fun cdv A outer s H vs Q E hr h => ?_)
  · obtain ⟨b, l, z, rfl, _⟩ := h
    rfl
  obtain ⟨b, l, z, rfl, hb, h1, h2, q⟩ := h
  have hr__law_pull := hr
  refine ⟨_, (pss_one (ps_ret (pe_ix ix_str (pv 1) (pe_call G__law_pull hr__law_pull (by rfl) g__law_pull F__law_pull.kp b__law_pull .nil pass0 (pa_cons (pv 0) (pa_cons (pe_callB call_len_str (by rfl) T.m_len PySem.boot_len (pa_cons (pv 1) pa_nil)) pa_nil))) (fun _ _ => rfl)))), ?_⟩
  refine ⟨_, rfl, _, rfl, _, rfl, z, rfl, szl h2, b, l, _, rfl, hb, by omega, by omega, fun d H' d0 d1 bx => ?_⟩
  have hk : d.toNat < z.cps.toList.length := by
    have : z.cps.toList.length = z.length := rfl
    omega
  have e : atI z.cps.toList d = some z.cps.toList[d.toNat] := by
    have q : atI z.cps.toList ((d.toNat : Nat) : Int) = some z.cps.toList[d.toNat] := atI_nat (List.getElem?_eq_getElem hk)
    rwa [show ((d.toNat : Nat) : Int) = d by omega] at q
  exact ⟨z, d, _, rfl, rfl, szl h2, e, q _ H' (List.getElem_mem hk) bx⟩
theorem ok__law_ofL {f : Addr} {fd : FuncData} (T : Txt K mg) (F : Fun K "_law_of" "_law_of" s__law_of f fd) : FnOk P w K mg base CX0 2 f fd ["_law_bag_here", "_law_some"] (sp_ofL K) := by
  obtain ⟨f__law_pull, fd__law_pull, F__law_pull, b__law_pull, g__law_pull⟩ := T.h__law_pull
  have G__law_pull := ok__law_pull (P := P) (w := w) (base := base) T F__law_pull
  refine F.ok sc__law_of (fun vs H Q E h => ?_) (fun cdv A outer s H vs Q E hr h => ?_)
  · obtain ⟨b, l, a, xs, rfl, _⟩ := h
    rfl
  obtain ⟨b, l, a, xs, rfl, hb, hs, h1, h2, q⟩ := h
  have hr__law_pull := hr
  refine ⟨_, (pss_one (ps_ret (pe_ix (ix_seqK (K := K)) (pv 1) (pe_call G__law_pull hr__law_pull (by rfl) g__law_pull F__law_pull.kp b__law_pull .nil pass0 (pa_cons (pv 0) (pa_cons (pe_callB (call_len_seqK (K := K)) (by rfl) T.m_len PySem.boot_len (pa_cons (pv 1) pa_nil)) pa_nil))) (fun _ _ => rfl)))), ?_⟩
  refine ⟨_, rfl, _, rfl, _, rfl, a, xs, rfl, hs H (Bx.refl hb), b, l, _, rfl, hb, by omega, by omega, fun d H' d0 d1 bx => ?_⟩
  have hk : d.toNat < xs.length := by omega
  have e : atI xs d = some xs[d.toNat] := by
    have q : atI xs ((d.toNat : Nat) : Int) = some xs[d.toNat] := atI_nat (List.getElem?_eq_getElem hk)
    rwa [show ((d.toNat : Nat) : Int) = d by omega] at q
  rcases hs H' bx with hs | hs
  · exact .inl ⟨a, xs, d, _, rfl, rfl, hs, e, q _ H' (List.getElem_mem hk) bx⟩
  · exact .inr (.inl ⟨a, xs, d, _, rfl, rfl, hs, e, q _ H' (List.getElem_mem hk) bx⟩)
def Names (ss : List Str) : Prop := (∀ s ∈ ss, isNm s) ∧ ss.Nodup
def Marks (ss : List Str) : Prop := (∀ s ∈ ss, isVl s) ∧ ss.Nodup
def sp_names (ok : List Str → Prop) (top : Int) : Sp := fun vs H Q _ => ∃ (b l : Addr) (n : Int) (S : List Addr), vs = [.ref b, .int n] ∧ Bag H b l ∧ b ∈ S ∧ Tr H S ∧ 0 ≤ n ∧ n ≤ top ∧
  ∀ (p : Addr) (ss : List Str) (H' : Hp), Bx b l H H' → H p = none → dl H' S p = some (.lst (ss.map V.str)) → ss.length = n.toNat → ok ss → Q (.ref p) H'
theorem ok__law_names {f : Addr} {fd : FuncData} (T : Txt K mg) (F : Fun K "_law_names" "_law_names" s__law_names f fd) : FnOk P w K mg base CX0 3 f fd ["_law_bag_here", "_law_many"] (sp_names Names 26) := by
  obtain ⟨f__law_pull, fd__law_pull, F__law_pull, b__law_pull, g__law_pull⟩ := T.h__law_pull
  obtain ⟨f__law_of, fd__law_of, F__law_of, b__law_of, g__law_of⟩ := T.h__law_of
  have G__law_pull := ok__law_pull (P := P) (w := w) (base := base) T F__law_pull
  have G__law_ofS := ok__law_ofS (P := P) (w := w) (base := base) T F__law_of
  refine F.ok sc__law_names (fun vs H Q E h => ?_) (fun cdv A outer s H vs Q E hr h => ?_)
  · obtain ⟨b, l, n, S, rfl, _⟩ := h
    rfl
  obtain ⟨b, l, n, S, rfl, hb, hbS, tr, hn0, hn1, q⟩ := h
  have hr__law_pull : Room 1 _ := hr.mono (by decide)
  have hr__law_of := hr
  refine ⟨_, (pss_cons (ps_set (i := 2) sc__law_names.nd rfl (.inr rfl) pe_str)
      (pss_cons (ps_set (i := 3) sc__law_names.nd rfl (.inl rfl) (pe_join pe_str (pe_lc (own := [("_law_k", 5)]) (g := gName 5) (by rfl) sc__law_names.nd (pi_range1 (by rfl) T.m_range (pa_cons (pe_call G__law_pull hr__law_pull (by rfl) g__law_pull F__law_pull.kp b__law_pull .nil pass0 (pa_cons (pv 0) (pa_cons pe_int pa_nil))) pa_nil)) (blkOk_by (own := [("_law_k", 5)]) (N := N__law_names) (sc := defScope s__law_names) (by decide +kernel)) (fun _ _ _ _ _ => pg_name (i := 5) sc__law_names.nd rfl (.inl rfl)) (fun _ _ _ _ _ => pts_nil) (fun _ _ _ _ _ => (pe_call G__law_ofS hr__law_of (by rfl) g__law_of F__law_of.kp b__law_of .nil pass0 (pa_cons (pv 0) (pa_cons (pv 2) pa_nil)))))))
      (pss_cons (ps_if (pt_cmpR op_eq (pe_call G__law_pull hr__law_pull (by rfl) g__law_pull F__law_pull.kp b__law_pull .nil pass0 (pa_cons (pv 0) (pa_cons pe_int pa_nil))) pe_int (nomark _)) (pss_one (ps_set (i := 3) sc__law_names.nd rfl (.inl rfl) (pe_op op_repS (pe_slice sl_str (pv 3) po_none (po_some pe_int)) (pe_callB call_len_str (by rfl) T.m_len PySem.boot_len (pa_cons (pv 3) pa_nil))))) pss_nil)
      (pss_cons (ps_par (i := 6) (j := 7) (by rfl) sc__law_names.nd rfl rfl (by decide) rfl rfl (pa_cons (pe_call G__law_pull hr__law_pull (by rfl) g__law_pull F__law_pull.kp b__law_pull .nil pass0 (pa_cons (pv 0) (pa_cons (pe_op op_add (pe_callB call_len_str (by rfl) T.m_len PySem.boot_len (pa_cons (pv 3) pa_nil)) pe_int) pa_nil))) (pa_cons (pe_call G__law_pull hr__law_pull (by rfl) g__law_pull F__law_pull.kp b__law_pull .nil pass0 (pa_cons (pv 0) (pa_cons pe_int pa_nil))) pa_nil)) (by rfl))
      (pss_cons (ps_set (i := 4) sc__law_names.nd rfl (.inl rfl) (pe_lst pa_nil))
      (pss_cons (ps_for PassesOwn.never rfl (pi_range1 (by rfl) T.m_range (pa_cons (pv 1) pa_nil)) (pg_name (i := 5) sc__law_names.nd rfl (.inl rfl)) (pss_cons (ps_set (i := 8) sc__law_names.nd rfl (.inl rfl) (pe_op op_add_str (pe_op op_add_str (pe_slice sl_str (pv 3) po_none (po_some (pv 6))) (pe_ix ix_str (pv 2) (pe_op op_modN (pe_op op_add (pv 7) (pe_op op_mul pe_int (pv 5))) pe_int) (fun _ _ => rfl))) (pe_slice sl_str (pv 3) (po_some (pv 6)) po_none)))
      (pss_one (ps_expr (pe_bm PySem.F.plainAttrs_list PySem.F.slot_list_append PySem.F.type_list_append mt_append (pv 4) (pa_cons (pe_ifExp (pt_cmpR op_eq (pe_call G__law_pull hr__law_pull (by rfl) g__law_pull F__law_pull.kp b__law_pull .nil pass0 (pa_cons (pv 0) (pa_cons pe_int pa_nil))) pe_int (nomark _)) (pe_slice sl_str (pv 8) po_none (po_some (pe_callB (call_max2 rfl) (by rfl) T.m_max (by decide +kernel) (pa_cons (pe_op op_add (pv 6) pe_int) (pa_cons (pe_op op_sub (pe_callB call_len_str (by rfl) T.m_len PySem.boot_len (pa_cons (pv 8) pa_nil)) (pv 5)) pa_nil))))) (pv 8)) pa_nil))))))
      (pss_one (ps_ret (pv 4))))))))), ?_⟩
  have hL : cl "abcdefghijklmnopqrstuvwxyz" = cl "abcdefghijklmnopqrstuvwxyz" := rfl
  -- the stem
  refine ⟨⟨_, rfl⟩, _, rfl, b, l, 7, rfl, hb, by decide, by decide, fun d H1 d0 d1 bx1 => ⟨d, rfl, by omega, by omega, fun D hD => ?_⟩⟩
  refine lc_bag (walk_range (lo := 0) (n := d.toNat)) [b] List.mem_cons_self bx1.bag hD (fun y _ => ∃ c, y = .str ⟨#[c]⟩ ∧ c ∈ cl "abcdefghijklmnopqrstuvwxyz") (fun _ _ _ _ h => h) (fun _ _ => trivial) (by omega) (fun i x H2 H3 Qe Z hi bx2 sm hDl hq hy => ?_) (fun H2 ys bx2 hl hD2 hp => ?_)
  · obtain ⟨rfl, rfl⟩ := hy
    refine ⟨rfl, yes ?_⟩
    exact ⟨_, rfl, _, rfl, b, l, _, rfl, bx2.bag, by decide, by decide, fun c H4 hc bx4 => hq _ H4 bx4 ⟨c, rfl, hc⟩⟩
  obtain ⟨ss, rfl, hss, hsum, hjl, hjc⟩ := stem_of hp
  refine ⟨_, D, ss, rfl, rfl, .inl (SqL.of hD2), by rw [hsum]; show _ + ss.length * 0 ≤ 16777216; omega, ?_⟩
  have bx := bx1.trans bx2
  -- the stem, or one letter of it often
  dsimp only [gName]
  refine seqI (fun σ' H' => ∃ (z : Str), σ' = [some (.ref b), some (.int n), some (.str "abcdefghijklmnopqrstuvwxyz"), some (.str z), none, none, none, none, none] ∧ Bx b l H H' ∧ (cl z).length ≤ 6 ∧ ∀ c ∈ cl z, c ∈ cl "abcdefghijklmnopqrstuvwxyz") ?_ ?_
  rotate_left
  · intro N hN
    have hz : (Txt.join "" ss).length ≤ 100000 := by rw [cl_len, hjl]; omega
    refine ⟨_, rfl, b, l, 2, rfl, bx.bag, by decide, by decide, fun e H3 e0 e1 bx3 => ⟨rfl, _, rfl, ite2 (fun c => ?_) (fun c => ?_)⟩⟩
    · have h1 : cl (cutS (Txt.join "" ss) none (some 1)) = (cl (Txt.join "" ss)).take 1 := cl_take _ (by decide)
      refine ⟨_, rfl, 1, rfl, _, rfl, szl hz, _, rfl, _, rfl, szl hz, _, _, rfl, rfl, by rw [cl_len, h1, List.length_take]; omega, by omega, by rw [cl_len, hjl]; omega, ?_⟩
      refine hN _ _ ⟨_, rfl, bx.trans bx3, ?_, ?_⟩
      · rw [cl_mul _ (by omega), h1, List.length_flatten, List.map_replicate, List.sum_replicate_nat, List.length_take, cl_len, Int.toNat_natCast, hjl]
        have : (List.map V.str ss).length ≤ 6 := by omega
        have h3 : min 1 (List.map V.str ss).length ≤ 1 := Nat.min_le_left _ _
        calc (List.map V.str ss).length * min 1 (List.map V.str ss).length ≤ (List.map V.str ss).length * 1 := Nat.mul_le_mul_left _ h3
          _ ≤ 6 := by omega
      · intro x hx
        rw [cl_mul _ (by omega), h1] at hx
        obtain ⟨l', hl', hx⟩ := List.mem_flatten.mp hx
        rw [List.eq_of_mem_replicate hl'] at hx
        exact hjc x (List.mem_of_mem_take hx)
    · exact hN _ _ ⟨_, rfl, bx.trans bx3, by omega, hjc⟩
  rintro σ' H' ⟨z, rfl, bxz, hz6, hzc⟩
  have hzs : z.length ≤ sizeLine := szl (by rw [cl_len]; omega)
  -- spot, first, found
  refine ⟨_, rfl, _, rfl, z, rfl, hzs, _, _, rfl, rfl, b, l, _, rfl, bxz.bag, by omega, by rw [cl_len]; omega, fun spot H4 s0 s1 bx4 => ⟨_, rfl, b, l, 26, rfl, bx4.bag, by decide, by decide, fun first H5 f0 f1 bx5 => ⟨_, _, rfl, ?_⟩⟩⟩
  refine ⟨Nat.zero_le _, fun D2 hD2 => ?_⟩
  have bxA := (bxz.trans bx4).trans bx5
  have hD2H : H D2 = none := bxA.free hD2
  have nDb : D2 ≠ b := hb.ne_new hD2H
  have nDl : D2 ≠ l := hb.ne_newl hD2H
  have s1' : spot ≤ ((cl z).length : Int) := by rw [cl_len] at s1; omega
  refine ⟨_, rfl, n, rfl, by omega, by omega, for_it (walk_range (lo := 0) (n := n.toNat)) (fun i σ H' => ∃ (ss : List Str) (x5 x8 : Option V), σ = [some (.ref b), some (.int n), some (.str "abcdefghijklmnopqrstuvwxyz"), some (.str z), some (.ref D2), x5, some (.int spot), some (.int first), x8] ∧ Bx b l H H' ∧ H' D2 = some (.lst (ss.map V.str)) ∧ ss.length = i ∧ ∀ j s, ss[j]? = some s → isNm s ∧ (cl s)[spot.toNat]? = some (97 + (first.toNat + 7 * j) % 26))
    ⟨[], none, none, rfl, bxA.trans (Bx.new bxA.bag hD2), upd_same, rfl, fun j s h => by simp at h⟩ (fun _ _ _ _ _ => trivial) (fun i x σ H6 H7 hi hI hy => ?_) (fun σ H6 hI => ?_)⟩
  · obtain ⟨ss, x5, x8, rfl, bx6, hD6, hl, hss⟩ := hI
    obtain ⟨rfl, rfl⟩ := hy
    have hm : ((first + 7 * (0 + (i : Int))).fmod 26) = (((first.toNat + 7 * i) % 26 : Nat) : Int) := by
      rw [Int.fmod_eq_emod_of_nonneg _ (by omega)]
      omega
    have hc := let_at ((first.toNat + 7 * i) % 26) (by omega)
    have hcm : (97 + (first.toNat + 7 * i) % 26) ∈ cl "abcdefghijklmnopqrstuvwxyz" := List.mem_of_getElem? hc
    have hcz := cutS_length z
    have l1 := hcz none (some spot)
    have l2 := hcz (some spot) none
    have hzl : z.length = (cl z).length := rfl
    refine ⟨_, rfl, _, rfl, spot, rfl, z, rfl, hzs, _, rfl, _, rfl, _, rfl, _, _, rfl, rfl, .inl ⟨by decide, by decide⟩, _, _, rfl, rfl, _, _, rfl, rfl, (by show (26 : Int) ≠ 0; decide), _, _, _, rfl, rfl, by decide, at_code (by rw [hm]; omega) (by rw [hm, Int.toNat_natCast]; exact hc), _, _, rfl, rfl, szl (by show _ + 1 ≤ _; omega), ?_⟩
    have e3 : (cutS z none (some spot) ++ (⟨#[97 + (first.toNat + 7 * i) % 26]⟩ : Str)).length = (cutS z none (some spot)).length + 1 := strLen_append _ _
    refine ⟨_, rfl, _, rfl, spot, rfl, z, rfl, hzs, _, _, rfl, rfl, szl (by rw [e3]; omega), ?_⟩
    have hone := put_sign (z := z) (c := 97 + (first.toNat + 7 * i) % 26) s0 s1'
    have hone_len := put_len (l := cl z) (c := 97 + (first.toNat + 7 * i) % 26) (i := spot.toNat) (by omega)
    have hone_at := put_at (l := cl z) (c := 97 + (first.toNat + 7 * i) % 26) (i := spot.toNat) (by omega)
    have hone_mem := put_mem (l := cl z) (i := spot.toNat) hcm hzc
    rw [← hone] at hone_len hone_at hone_mem
    generalize cutS z none (some spot) ++ (⟨#[97 + (first.toNat + 7 * i) % 26]⟩ : Str) ++ cutS z (some spot) none = one at hone_len hone_at hone_mem
    have hos : one.length ≤ sizeLine := szl (by rw [cl_len]; omega)
    -- append
    refine ⟨_, rfl, .inl ⟨rfl, _, SqL.of hD6⟩, _, rfl, b, l, 4, rfl, bx6.bag, by decide, by decide, fun e H8 e0 e1 bx8 => ⟨rfl, _, rfl, ?_⟩⟩
    have hD8 := bx8.keep D2 _ nDb hD6
    have fin : ∀ s : Str, isNm s → (cl s)[spot.toNat]? = some (97 + (first.toNat + 7 * i) % 26) → ∀ N : L2.St → Hp → Prop, (∀ (ss' : List Str) (x5 x8 : Option V) (H9 : Hp), Bx b l H H9 → H9 D2 = some (.lst (ss'.map V.str)) → ss'.length = i + 1 → (∀ j s, ss'[j]? = some s → isNm s ∧ (cl s)[spot.toNat]? = some (97 + (first.toNat + 7 * j) % 26)) → N [some (.ref b), some (.int n), some (.str "abcdefghijklmnopqrstuvwxyz"), some (.str z), some (.ref D2), x5, some (.int spot), some (.int first), x8] H9) → ∃ p xs v, V.ref D2 = .ref p ∧ [V.str s] = [v] ∧ H8 p = some (.lst xs) ∧ xs.length < sizeLine ∧ N [some (.ref b), some (.int n), some (.str "abcdefghijklmnopqrstuvwxyz"), some (.str z), some (.ref D2), some (.int (0 + (i : Int))), some (.int spot), some (.int first), some (.str one)] (upd H8 p (.lst (xs ++ [v]))) := by
      intro s h1 h2 N hN
      refine ⟨D2, _, _, rfl, rfl, hD8, szt (by rw [List.length_map]; omega), hN (ss ++ [s]) _ _ _ ⟨bx8.bag.of (upd_ne nDb.symm) (upd_ne nDl.symm), fun a o na ea => ?_⟩ (by rw [upd_same, List.map_append]; rfl) (by simp [hl]) fun j t ht => ?_⟩
      · rw [upd_ne (ne_of_none ea hD2H)]
        exact bx8.keep a o na (bx6.keep a o na ea)
      · by_cases hj : j < ss.length
        · rw [List.getElem?_append_left hj] at ht
          exact hss j t ht
        · have ej : j = i := by
            have := (List.getElem?_eq_some_iff.mp ht).1
            rw [List.length_append, List.length_singleton] at this
            omega
          subst ej
          rw [List.getElem?_append_right (by omega), hl, Nat.sub_self] at ht
          cases ht
          exact ⟨h1, h2⟩
    refine ite2 (fun c => ?_) (fun c => ?_)
    · refine ⟨_, rfl, _, rfl, _, _, rfl, rfl, _, rfl, _, rfl, hos, _, rfl, _, _, rfl, rfl, _, _, rfl, _, rfl, one, rfl, hos, ?_⟩
      have hge : spot + 1 ≤ (if (one.length : Int) - (0 + (i : Int)) > spot + 1 then (one.length : Int) - (0 + (i : Int)) else spot + 1) := by split <;> omega
      generalize (if (one.length : Int) - (0 + (i : Int)) > spot + 1 then (one.length : Int) - (0 + (i : Int)) else spot + 1) = m at hge
      have et := cl_take one (n := m) (by omega)
      refine fin _ ⟨?_, ?_, fun x hx => ?_⟩ ?_ _ fun ss' x5 x8 H9 a1 a2 a3 a4 => ⟨ss', x5, x8, rfl, a1, a2, a3, a4⟩
      · rw [et, List.length_take]; omega
      · rw [et, List.length_take]; omega
      · rw [et] at hx
        exact hone_mem x (List.mem_of_mem_take hx)
      · rw [et, List.getElem?_take_of_lt (by omega)]
        exact hone_at
    · refine ⟨_, rfl, ?_⟩
      exact fin _ ⟨by omega, by omega, hone_mem⟩ hone_at _ fun ss' x5 x8 H9 a1 a2 a3 a4 => ⟨ss', x5, x8, rfl, a1, a2, a3, a4⟩
  · obtain ⟨ss, x5, x8, rfl, bx6, hD6, hl, hss⟩ := hI
    refine ⟨_, rfl, q D2 ss H6 bx6 hD2H (by rw [dl_ne (tr.fresh hD2H)]; exact hD6) hl ⟨fun s hs => ?_, ?_⟩⟩
    · obtain ⟨j, hj⟩ := List.mem_iff_getElem?.mp hs
      exact (hss j s hj).1
    · refine nodup_of_key (fun j => some (97 + (first.toNat + 7 * j) % 26)) (fun s => (cl s)[spot.toNat]?) (fun j s h => (hss j s h).2) fun i j lt hj e => ?_
      have := Option.some.inj e
      omega
theorem ok__law_marks {f : Addr} {fd : FuncData} (T : Txt K mg) (F : Fun K "_law_marks" "_law_marks" s__law_marks f fd) : FnOk P w K mg base CX0 3 f fd ["_law_bag_here", "_law_many"] (sp_names Marks 36) := by
  obtain ⟨f__law_pull, fd__law_pull, F__law_pull, b__law_pull, g__law_pull⟩ := T.h__law_pull
  obtain ⟨f__law_of, fd__law_of, F__law_of, b__law_of, g__law_of⟩ := T.h__law_of
  have G__law_pull := ok__law_pull (P := P) (w := w) (base := base) T F__law_pull
  have G__law_ofS := ok__law_ofS (P := P) (w := w) (base := base) T F__law_of
  refine F.ok sc__law_marks (fun vs H Q E h => ?_) (fun cdv A outer s H vs Q E hr h => ?_)
  · obtain ⟨b, l, n, S, rfl, _⟩ := h
    rfl
  obtain ⟨b, l, n, S, rfl, hb, hbS, tr, hn0, hn1, q⟩ := h
  have hr__law_pull : Room 1 _ := hr.mono (by decide)
  have hr__law_of := hr
  refine ⟨_, (pss_cons (ps_set (i := 2) sc__law_marks.nd rfl (.inr rfl) pe_str)
      (pss_cons (ps_set (i := 3) sc__law_marks.nd rfl (.inr rfl) (pe_join pe_str (pe_lc (own := [("_law_k", 6)]) (g := gName 6) (by rfl) sc__law_marks.nd (pi_range1 (by rfl) T.m_range (pa_cons (pe_call G__law_pull hr__law_pull (by rfl) g__law_pull F__law_pull.kp b__law_pull .nil pass0 (pa_cons (pv 0) (pa_cons pe_int pa_nil))) pa_nil)) (blkOk_by (own := [("_law_k", 6)]) (N := N__law_marks) (sc := defScope s__law_marks) (by decide +kernel)) (fun _ _ _ _ _ => pg_name (i := 6) sc__law_marks.nd rfl (.inl rfl)) (fun _ _ _ _ _ => pts_nil) (fun _ _ _ _ _ => (pe_call G__law_ofS hr__law_of (by rfl) g__law_of F__law_of.kp b__law_of .nil pass0 (pa_cons (pv 0) (pa_cons (pv 2) pa_nil)))))))
      (pss_cons (ps_asg (pe_tup (pa_cons (pe_call G__law_pull hr__law_pull (by rfl) g__law_pull F__law_pull.kp b__law_pull .nil pass0 (pa_cons (pv 0) (pa_cons (pe_op op_add (pe_callB call_len_str (by rfl) T.m_len PySem.boot_len (pa_cons (pv 3) pa_nil)) pe_int) pa_nil))) (pa_cons (pe_call G__law_pull hr__law_pull (by rfl) g__law_pull F__law_pull.kp b__law_pull .nil pass0 (pa_cons (pv 0) (pa_cons pe_int pa_nil))) pa_nil))) (pg_tup rfl (pgs_cons (pg_name (i := 4) sc__law_marks.nd rfl (.inr rfl)) (pgs_cons (pg_name (i := 5) sc__law_marks.nd rfl (.inr rfl)) pgs_nil))))
      (pss_one (ps_ret (pe_lc (own := [("_law_k", 6)]) (g := gName 6) (by rfl) sc__law_marks.nd (pi_range1 (by rfl) T.m_range (pa_cons (pv 1) pa_nil)) (blkOk_by (own := [("_law_k", 6)]) (N := N__law_marks) (sc := defScope s__law_marks) (by decide +kernel)) (fun _ _ _ _ _ => pg_name (i := 6) sc__law_marks.nd rfl (.inl rfl)) (fun _ _ _ _ _ => pts_nil) (fun _ _ _ _ _ => (pe_op op_add_str (pe_op op_add_str (pe_slice sl_str (pv 3) po_none (po_some (pv 4))) (pe_ix ix_str (pv 2) (pe_op op_modN (pe_op op_add (pv 5) (pe_op op_mul pe_int (pv 6))) pe_int) (fun _ _ => rfl))) (pe_slice sl_str (pv 3) (po_some (pv 4)) po_none))))))))), ?_⟩
  refine ⟨⟨_, rfl⟩, _, rfl, b, l, 8, rfl, hb, by decide, by decide, fun d H1 d0 d1 bx1 => ⟨d, rfl, by omega, by omega, fun D hD => ?_⟩⟩
  refine lc_bag (walk_range (lo := 0) (n := d.toNat)) [b] List.mem_cons_self bx1.bag hD (fun y _ => ∃ c, y = .str ⟨#[c]⟩ ∧ c ∈ cl "abcdefghijklmnopqrstuvwxyz0123456789") (fun _ _ _ _ h => h) (fun _ _ => trivial) (by omega) (fun i x H2 H3 Qe Z hi bx2 sm hDl hq hy => ?_) (fun H2 ys bx2 hl hD2 hp => ?_)
  · obtain ⟨rfl, rfl⟩ := hy
    refine ⟨rfl, yes ?_⟩
    exact ⟨_, rfl, _, rfl, b, l, _, rfl, bx2.bag, by decide, by decide, fun c H4 hc bx4 => hq _ H4 bx4 ⟨c, rfl, hc⟩⟩
  obtain ⟨ss, rfl, hss, hsum, hjl, hzc⟩ := stem_of hp
  refine ⟨_, D, ss, rfl, rfl, .inl (SqL.of hD2), by rw [hsum]; show _ + ss.length * 0 ≤ 16777216; omega, ?_⟩
  have bx := bx1.trans bx2
  have hz7 : (cl (Txt.join "" ss)).length ≤ 7 := by omega
  generalize Txt.join "" ss = z at hz7 hzc
  have hzl : z.length = (cl z).length := rfl
  have hzs : z.length ≤ sizeLine := szl (by omega)
  refine ⟨_, rfl, _, rfl, z, rfl, hzs, _, _, rfl, rfl, b, l, _, rfl, bx.bag, by omega, by omega, fun spot H4 s0 s1 bx4 => ⟨_, rfl, b, l, 36, rfl, bx4.bag, by decide, by decide, fun first H5 f0 f1 bx5 => ⟨by show 2 ≤ sizeLine; decide, fun tp htp => ⟨tp, _, rfl, .inl (.inl upd_same), rfl, _, _, rfl, _, _, rfl, rfl, ?_⟩⟩⟩⟩
  have bxA := ((bx.trans bx4).trans bx5).trans (Bx.new (o := .tup [.int spot, .int first]) bx5.bag htp)
  have s1' : spot ≤ ((cl z).length : Int) := by omega
  refine ⟨_, rfl, n, rfl, by omega, by omega, fun D2 hD2 => ?_⟩
  have hD2H : H D2 = none := bxA.free hD2
  let sg : Nat → Nat := fun m => if m < 26 then 97 + m else 22 + m
  let wd : Nat → Str := fun i => cutS z none (some spot) ++ ⟨#[sg ((first.toNat + 5 * i) % 36)]⟩ ++ cutS z (some spot) none
  refine lc_val (walk_range (lo := 0) (n := n.toNat)) hD2 (fun i => .str (wd i)) (fun _ _ => trivial) (by omega) (fun i x H6 H7 Qe Z hi sm hq hy => ?_) (fun H6 sm hL => ?_)
  · obtain ⟨rfl, rfl⟩ := hy
    have hm : ((first + 5 * (0 + (i : Int))).fmod 36) = (((first.toNat + 5 * i) % 36 : Nat) : Int) := by
      rw [Int.fmod_eq_emod_of_nonneg _ (by omega)]
      omega
    have hc := sgn_at ((first.toNat + 5 * i) % 36) (by omega)
    have hcz := cutS_length z
    have l1 := hcz none (some spot)
    have l2 := hcz (some spot) none
    refine ⟨rfl, yes ?_⟩
    refine ⟨_, rfl, _, rfl, spot, rfl, z, rfl, hzs, _, rfl, _, rfl, _, rfl, _, _, rfl, rfl, .inl ⟨by decide, by decide⟩, _, _, rfl, rfl, _, _, rfl, rfl, (by show (36 : Int) ≠ 0; decide), _, _, _, rfl, rfl, by decide, at_code (by rw [hm]; omega) (by rw [hm, Int.toNat_natCast]; exact hc), _, _, rfl, rfl, szl (by show _ + 1 ≤ _; omega), ?_⟩
    have e3 : (cutS z none (some spot) ++ (⟨#[sg ((first.toNat + 5 * i) % 36)]⟩ : Str)).length = (cutS z none (some spot)).length + 1 := strLen_append _ _
    exact ⟨_, rfl, _, rfl, spot, rfl, z, rfl, hzs, _, _, rfl, rfl, szl (Nat.le_trans (Nat.add_le_add_right (Nat.le_of_eq e3) _) (by omega)), hq _ (Same.refl _)⟩
  · have eL : (List.range n.toNat).map (fun i => V.str (wd i)) = ((List.range n.toNat).map wd).map V.str := by rw [List.map_map]; rfl
    rw [eL] at hL
    refine q D2 _ H6 (bxA.trans (Bx.ofSame bxA.bag sm)) hD2H (by rw [dl_ne (tr.fresh hD2H)]; exact hL) (by simp) ⟨fun s hs => ?_, ?_⟩
    · obtain ⟨i, hi, rfl⟩ := List.mem_map.mp hs
      have hcm : sg ((first.toNat + 5 * i) % 36) ∈ cl "abcdefghijklmnopqrstuvwxyz0123456789" := List.mem_of_getElem? (sgn_at ((first.toNat + 5 * i) % 36) (by omega))
      have hone := put_sign (z := z) (c := sg ((first.toNat + 5 * i) % 36)) s0 s1'
      have h1 := put_len (l := cl z) (c := sg ((first.toNat + 5 * i) % 36)) (i := spot.toNat) (by omega)
      have h2 := put_mem (l := cl z) (i := spot.toNat) hcm hzc
      rw [← hone] at h1 h2
      exact ⟨by show 1 ≤ (cl (wd i)).length; rw [show (cl (wd i)).length = _ from h1]; omega, by show (cl (wd i)).length ≤ 8; rw [show (cl (wd i)).length = _ from h1]; omega, h2⟩
    · refine nodup_of_key (fun j => some (sg ((first.toNat + 5 * j) % 36))) (fun s => (cl s)[spot.toNat]?) (fun j s h => ?_) fun i j lt hj e => ?_
      · rw [List.getElem?_map] at h
        by_cases hj : j < n.toNat
        · rw [List.getElem?_range hj] at h
          cases h
          have hone := put_sign (z := z) (c := sg ((first.toNat + 5 * j) % 36)) s0 s1'
          have h1 := put_at (l := cl z) (c := sg ((first.toNat + 5 * j) % 36)) (i := spot.toNat) (by omega)
          rw [← hone] at h1
          exact h1
        · rw [List.getElem?_eq_none (by simpa using hj)] at h
          cases h
      · rw [List.length_map, List.length_range] at hj
        have e1 : sg ((first.toNat + 5 * i) % 36) = sg ((first.toNat + 5 * j) % 36) := Option.some.inj e
        have e2 : (if (first.toNat + 5 * i) % 36 < 26 then 97 + (first.toNat + 5 * i) % 36 else 22 + (first.toNat + 5 * i) % 36) = (if (first.toNat + 5 * j) % 36 < 26 then 97 + (first.toNat + 5 * j) % 36 else 22 + (first.toNat + 5 * j) % 36) := e1
        split at e2 <;> split at e2 <;> omega
end
end Hr

set_option Elab.async false
set_option linter.all false
set_option maxRecDepth 100000
set_option maxHeartbeats 4000000
namespace Hr
open PySem PySem.Spec PyProof.Rows L2
section
variable {P : Program} {w : World} {K : PySem.W.Frag} {mg : Str → Option Value} {base : Heap}
def FOk (fs : List Fld) : Prop := (∀ f ∈ fs, isNm f.1 ∧ f.1 ≠ "any" ∧ f.1 ≠ "none" ∧ Marks f.2 ∧ 1 ≤ f.2.length ∧ f.2.length ≤ 3) ∧ (fs.map (·.1)).Nodup ∧ 1 ≤ fs.length
def sp_fields (K : PySem.W.Frag) : Sp := fun vs H Q _ => ∃ (b l : Addr) (n : Int) (S : List Addr), vs = [.ref b, .int n] ∧ Bag H b l ∧ b ∈ S ∧ Tr H S ∧ 1 ≤ n ∧ n ≤ 25 ∧
  ∀ (v : V) (fs : List Fld) (H' : Hp), Bx b l H H' → Dp K (dl H' S) v (fldsD fs) → FOk fs → (fs.length : Int) ≤ n → Q v H'
theorem ok__law_fields {f : Addr} {fd : FuncData} (T : Txt K mg) (F : Fun K "_law_fields" "_law_fields" s__law_fields f fd) : FnOk P w K mg base CX0 4 f fd ["_law_bag_here", "_law_most"] (sp_fields K) := by
  obtain ⟨f__law_names, fd__law_names, F__law_names, b__law_names, g__law_names⟩ := T.h__law_names
  obtain ⟨f__law_marks, fd__law_marks, F__law_marks, b__law_marks, g__law_marks⟩ := T.h__law_marks
  obtain ⟨f__law_pull, fd__law_pull, F__law_pull, b__law_pull, g__law_pull⟩ := T.h__law_pull
  have G__law_pull := ok__law_pull (P := P) (w := w) (base := base) T F__law_pull
  have G__law_names := ok__law_names (P := P) (w := w) (base := base) T F__law_names
  have G__law_marks := ok__law_marks (P := P) (w := w) (base := base) T F__law_marks
  refine F.ok sc__law_fields (fun vs H Q E h => ?_) (fun cdv A outer s H vs Q E hr h => ?_)
  · obtain ⟨b, l, n, S, rfl, _⟩ := h
    rfl
  obtain ⟨b, l, n, S, rfl, hb, hbS, tr, hn0, hn1, q⟩ := h
  have hr__law_pull : Room 1 _ := hr.mono (by decide)
  have hr__law_names := hr
  have hr__law_marks := hr
  refine ⟨_, (pss_cons (ps_setLc (i := 2) (own := [("_law_name", 3)]) (g := gName 3) rfl sc__law_fields.nd rfl rfl (sw_true rfl rfl rfl (by decide +kernel)) (pi_listK (K := K) (pe_call G__law_names hr__law_names (by rfl) g__law_names F__law_names.kp b__law_names .nil pass0 (pa_cons (pv 0) (pa_cons (pe_op op_add pe_int (pe_call G__law_pull hr__law_pull (by rfl) g__law_pull F__law_pull.kp b__law_pull .nil pass0 (pa_cons (pv 0) (pa_cons (pv 1) pa_nil)))) pa_nil)))) (blkOk_by (own := [("_law_name", 3)]) (N := N__law_fields) (sc := defScope s__law_fields) (by decide +kernel)) (fun _ _ _ _ _ => pg_name (i := 3) sc__law_fields.nd rfl (.inl rfl)) (fun _ _ _ _ _ => (pts_one (pt_cmpR (op_notIn_seqK (K := K)) (pv 3) (pe_tup (pa_cons pe_str (pa_cons pe_str pa_nil))) (by rfl)))) (fun _ _ _ _ _ => (pv 3)))
      (pss_cons (ps_set (i := 2) sc__law_fields.nd rfl (.inl rfl) (pe_ifExp (pt_cmpR (op_neDK (K := K) hr.units) (pv 2) (pe_lst pa_nil) (nomark _)) (pv 2) (pe_lst (pa_cons pe_str pa_nil))))
      (pss_one (ps_ret (pe_lc (own := [("_law_name", 3)]) (g := gName 3) (by rfl) sc__law_fields.nd (pi_listK (K := K) (pv 2)) (blkOk_by (own := [("_law_name", 3)]) (N := N__law_fields) (sc := defScope s__law_fields) (by decide +kernel)) (fun _ _ _ _ _ => pg_name (i := 3) sc__law_fields.nd rfl (.inl rfl)) (fun _ _ _ _ _ => pts_nil) (fun _ _ _ _ _ => (pe_tup (pa_cons (pv 3) (pa_cons (pe_call G__law_marks hr__law_marks (by rfl) g__law_marks F__law_marks.kp b__law_marks .nil pass0 (pa_cons (pv 0) (pa_cons (pe_op op_add pe_int (pe_call G__law_pull hr__law_pull (by rfl) g__law_pull F__law_pull.kp b__law_pull .nil pass0 (pa_cons (pv 0) (pa_cons pe_int pa_nil)))) pa_nil))) pa_nil))))))))), ?_⟩
  refine ⟨_, rfl, _, rfl, _, rfl, b, l, n, rfl, hb, hn0, by omega, fun d H1 d0 d1 bx1 => ⟨1, d, rfl, rfl, b, l, 1 + d, S, rfl, bx1.bag, hbS, tr.bx bx1, by omega, by omega, fun p ss H2 bx2 hp hpS hlen hok => ⟨p, rfl, ⟨_, SqL.of (dl_some hpS).2⟩, fun D hD => ?_⟩⟩⟩
  have bxA := bx1.trans bx2
  have hp2 := (dl_some hpS).2
  refine lc_filt (xs := ss.map V.str) walk_list hD (fun v => v) (fun v => !inV v [.str "any", .str "none"]) (fun H' s' => s'.seq (SqL.of hp2)) (by rw [List.length_map]; omega) (fun i x H3 R Z hx sm hR hZ => ?_) (fun H3 sm hL => ?_)
  · obtain ⟨s, hs, rfl⟩ := str_at hx
    refine ⟨rfl, _, rfl, by show 2 ≤ sizeLine; decide, fun t ht => ⟨t, _, rfl, .inr (.inl (.inl upd_same)), rfl, rfl, _, rfl, ?_⟩⟩
    have st := same_new (o := .tup [.str "any", .str "none"]) ht
    refine ite2 (fun c => ⟨_, rfl, hR c _ st⟩) fun c => hZ (Bool.eq_false_iff.mpr c) _ st
  have eL : ((ss.map V.str).filter fun v => !inV v [.str "any", .str "none"]).map (fun v => v) = (ss.filter notW).map V.str := by
    rw [List.map_id', List.filter_map]
    rfl
  rw [eL] at hL
  have hDH : H D = none := bxA.free hD
  have bxB := bxA.trans (Bx.ofSame bxA.bag sm)
  have hLS : dl H3 S D = some (.lst ((ss.filter notW).map V.str)) := by rw [dl_ne (tr.fresh hDH)]; exact hL
  have hsub : ∀ s ∈ ss.filter notW, isNm s ∧ s ≠ "any" ∧ s ≠ "none" := fun s hs => by
    obtain ⟨h1, h2⟩ := List.mem_filter.mp hs
    exact ⟨hok.1 s h1, notW_iff.mp h2⟩
  have hnd : (ss.filter notW).Nodup := hok.2.filter _
  have hfl : (ss.filter notW).length ≤ n.toNat := by
    have := List.length_filter_le notW ss
    omega
  generalize ss.filter notW = ns at hL hLS hsub hnd hfl
  dsimp only [gName]
  refine seqI (fun σ' H' => ∃ (a2 : Addr) (ns : List Str), σ' = [some (.ref b), some (.int n), some (.ref a2), none] ∧ Bx b l H H' ∧ dl H' S a2 = some (.lst (ns.map V.str)) ∧ (∀ s ∈ ns, isNm s ∧ s ≠ "any" ∧ s ≠ "none") ∧ ns.Nodup ∧ 1 ≤ ns.length ∧ ns.length ≤ n.toNat) ?_ ?_
  rotate_left
  · intro N hN
    refine ⟨_, rfl, Nat.zero_le _, fun e he => ?_⟩
    have se := same_new (o := .lst []) he
    refine ⟨.list (ns.map PyData.str), .list [], .lst (SqL.of (se _ _ hL)) (dpa_strs ns), .lst (SqL.of upd_same) .nil, shaped_strs (fun s hs => (hsub s hs).1.ok) (by omega), rfl, _, rfl, ?_⟩
    rw [eqv_nil]
    refine ite2 (fun c => ⟨_, rfl, ?_⟩) fun c => ⟨by show 1 ≤ sizeLine; decide, fun r hr' => ?_⟩
    · refine hN _ _ ⟨D, ns, rfl, bxB.trans (Bx.ofSame bxB.bag se), (dl_mono se) _ _ hLS, hsub, hnd, ?_, hfl⟩
      cases ns with
      | nil => simp at c
      | cons x r => simp
    · have sr := same_new (o := .lst [.str "role"]) hr'
      have bxC := bxB.trans (Bx.ofSame bxB.bag (se.trans sr))
      have hrH : H r = none := (bxB.trans (Bx.ofSame bxB.bag se)).free hr'
      refine hN _ _ ⟨r, ["role"], rfl, bxC, by rw [dl_ne (tr.fresh hrH), upd_same]; rfl, fun s hs => ?_, by simp, by simp, by show 1 ≤ _; omega⟩
      rw [List.mem_singleton.mp hs]
      exact ⟨⟨by decide, by decide, by decide⟩, by decide, by decide⟩
  rintro σ' H4 ⟨a2, ns, rfl, bx4, ha2, hnm, hnd, hn1', hnn⟩
  have ha2H := (dl_some ha2).2
  have nab : a2 ≠ b := fun z => (dl_some ha2).1 (by rw [z]; exact hbS)
  refine ⟨_, rfl, a2, rfl, ⟨_, SqL.of ha2H⟩, fun D3 hD3 => ?_⟩
  have hD3H : H D3 = none := bx4.free hD3
  refine lc_bagI (walk_list (xs := ns.map V.str)) S hbS bx4.bag hD3 (fun i y G => ∃ f : Fld, ns[i]? = some f.1 ∧ Dp K G y (fldD f) ∧ Marks f.2 ∧ 1 ≤ f.2.length ∧ f.2.length ≤ 3) (fun i y G G' sm ⟨f, h1, h2, h3⟩ => ⟨f, h1, dp_mono sm h2, h3⟩) (fun H' bx => bx_seq bx nab (SqL.of ha2H)) (by rw [List.length_map]; omega) (fun i x H5 H6 Qe Z hi bx5 sm hDl hq hy => ?_) (fun H5 ys bx5 hyl hD5 hp => ?_)
  · obtain ⟨rfl, hx⟩ := hy
    obtain ⟨nm, hnmi, rfl⟩ := str_at hx
    obtain ⟨xsD, hxD⟩ := hDl
    have trD : Tr H6 (D3 :: S) := ((tr.bx bx4).bx bx5).cons hxD
    refine ⟨rfl, yes ?_⟩
    refine ⟨_, rfl, _, rfl, _, rfl, b, l, 3, rfl, bx5.bag, by decide, by decide, fun d2 H7 d20 d21 bx7 => ⟨1, d2, rfl, rfl, b, l, 1 + d2, D3 :: S, rfl, bx7.bag, List.mem_cons_of_mem _ hbS, trD.bx bx7, by omega, by omega, fun p3 ms H8 bx8 hp3 hp3S hml hmo => ⟨by show 2 ≤ sizeLine; decide, fun t ht => ?_⟩⟩⟩
    have trE := (trD.bx bx7).bx bx8
    refine hq _ _ ((bx7.trans bx8).trans (Bx.new bx8.bag ht)) ⟨(nm, ms), hnmi, .tup (SqT.of (dl_upd_at trE ht)) (.cons (.str _) (.cons (.lst (SqL.of (dl_same_new trE ht _ _ hp3S)) (dpa_strs ms)) .nil)), hmo, ?_, ?_⟩
    · show 1 ≤ ms.length
      omega
    · show ms.length ≤ 3
      omega
  · rw [List.length_map] at hyl
    obtain ⟨fs, hfl, hfs⟩ := choose_list (R := fun i y (f : Fld) => ns[i]? = some f.1 ∧ Dp K (dl H5 (D3 :: S)) y (fldD f) ∧ Marks f.2 ∧ 1 ≤ f.2.length ∧ f.2.length ≤ 3) hp
    have at_f : ∀ (i : Nat) f, fs[i]? = some f → ∃ y, ys[i]? = some y := fun i f hf => by
      have := (List.getElem?_eq_some_iff.mp hf).1
      exact ⟨_, List.getElem?_eq_getElem (by omega)⟩
    have en : fs.map (·.1) = ns := by
      apply List.ext_getElem?
      intro i
      rw [List.getElem?_map]
      cases ef : fs[i]? with
      | none =>
        have : fs.length ≤ i := List.getElem?_eq_none_iff.mp ef
        rw [List.getElem?_eq_none (by omega)]
        rfl
      | some f =>
        obtain ⟨y, hy⟩ := at_f i f ef
        rw [(hfs i y f hy ef).1]
        rfl
    refine q _ fs H5 (bx4.trans bx5) (.lst (SqL.of (by rw [dl_ne (tr.fresh hD3H)]; exact hD5)) (dpa_of (by rw [List.length_map, hfl]) fun i v d hv hd => ?_)) ⟨fun f hf => ?_, by rw [en]; exact hnd, by omega⟩ (by omega)
    · rw [List.getElem?_map] at hd
      cases ef : fs[i]? with
      | none => rw [ef] at hd; cases hd
      | some f =>
        rw [ef] at hd
        cases hd
        exact dp_mono (dl_sub fun a ha => List.mem_cons_of_mem _ ha) (hfs i v f hv ef).2.1
    · obtain ⟨i, ef⟩ := List.mem_iff_getElem?.mp hf
      obtain ⟨y, hy⟩ := at_f i f ef
      have h := hfs i y f hy ef
      have h1 := hnm f.1 (List.mem_of_getElem? h.1)
      exact ⟨h1.1, h1.2.1, h1.2.2, h.2.2⟩
end
end Hr

set_option Elab.async false
set_option linter.all false
set_option maxRecDepth 100000
set_option maxHeartbeats 4000000
namespace Hr
open PySem PySem.Spec PyProof.Rows L2
section
variable {P : Program} {w : World} {K : PySem.W.Frag} {mg : Str → Option Value} {base : Heap}
theorem ok_consists_of {f : Addr} {fd : FuncData} (T : Txt K mg) (F : Fun K "consists_of" "consists_of" s_consists_of f fd) : FnOk P w K mg base CX0 1 f fd ["text", "characters"] sp_consists := by
  refine F.ok sc_consists_of (fun vs H Q E h => ?_) (fun cdv A outer s H vs Q E hr h => ?_)
  · obtain ⟨t, cs, rfl, _⟩ := h
    rfl
  obtain ⟨t, cs, rfl, ht, q⟩ := h
  refine ⟨_, (pss_one (ps_ret (pe_and (pe_chain op_le op_le pe_int (pe_callB call_len_str (by rfl) T.m_len PySem.boot_len (pa_cons (pv 0) pa_nil)) (pe_gv (by rfl) T.c_MAX_NAME)) (pe_one (pe_callB (cr_allK (K := K) rfl) (by rfl) T.m_all (by decide +kernel) (pa_cons (pe_lc (own := [("character", 2)]) (g := gName 2) (by rfl) sc_consists_of.nd (pi_str (pv 0)) (blkOk_by (own := [("character", 2)]) (N := N_consists_of) (sc := defScope s_consists_of) (by decide +kernel)) (fun _ _ _ _ _ => pg_name (i := 2) sc_consists_of.nd rfl (.inl rfl)) (fun _ _ _ _ _ => pts_nil) (fun _ _ _ _ _ => (pe_cmpR op_in_sign (pv 2) (pv 1) (by rfl)))) pa_nil)))))), ?_⟩
  refine ⟨_, rfl, t, rfl, szl (Nat.le_trans ht (by decide)), 1, _, rfl, rfl, _, rfl, ?_⟩
  refine ite2 (fun c1 => ?_) (fun c1 => ?_)
  · refine ⟨_, _, rfl, rfl, _, rfl, ite2 (fun c2 => ?_) (fun c2 => ?_)⟩
    · refine ⟨_, rfl, t, rfl, fun D hD => ?_⟩
      refine lc_val walk_str hD (fun i => .bl (decide (t.cps.toList.getD i 0 ∈ cs.cps.toList))) (fun _ _ => trivial) (Nat.lt_of_le_of_lt (len_le t ht) (by decide)) (fun i x H1 H' Qe Z hi sm hq hy => ?_) (fun H1 sm hL => ?_)
      · obtain ⟨rfl, c, hc, rfl⟩ := hy
        refine ⟨rfl, yes ?_⟩
        refine ⟨_, rfl, _, rfl, c, cs, rfl, rfl, ?_⟩
        rw [← sign_at hc]
        exact hq _ (Same.refl _)
      · exact all_end rfl c1 c2 hL (q H1 sm)
    · have e : consists t cs = false := by
        unfold consists
        rw [c1, Bool.eq_false_iff.mpr c2]
        rfl
      exact e ▸ q _ (Same.refl _)
  · have e : consists t cs = false := by
      unfold consists
      rw [Bool.eq_false_iff.mpr c1]
      rfl
    exact ⟨_, rfl, iteF (e ▸ q _ (Same.refl _))⟩
theorem ok_is_name {f : Addr} {fd : FuncData} (T : Txt K mg) (F : Fun K "is_name" "is_name" s_is_name f fd) : FnOk P w K mg base CX0 2 f fd ["text"] (sp_word nameC) := by
  obtain ⟨f_consists_of, fd_consists_of, F_consists_of, b_consists_of, g_consists_of⟩ := T.h_consists_of
  have G_consists_of := ok_consists_of (P := P) (w := w) (base := base) T F_consists_of
  refine F.ok sc_is_name (fun vs H Q E h => ?_) (fun cdv A outer s H vs Q E hr h => ?_)
  · obtain ⟨t, rfl, _⟩ := h
    rfl
  obtain ⟨t, rfl, ht, q⟩ := h
  have hr_consists_of := hr
  refine ⟨_, (pss_one (ps_ret (pe_call G_consists_of hr_consists_of (by rfl) g_consists_of F_consists_of.kp b_consists_of .nil pass0 (pa_cons (pv 0) (pa_cons (pe_gv (by rfl) T.c_NAME_CHARACTERS) pa_nil))))), ?_⟩
  exact ⟨_, rfl, t, _, rfl, ht, q⟩
theorem ok_is_value {f : Addr} {fd : FuncData} (T : Txt K mg) (F : Fun K "is_value" "is_value" s_is_value f fd) : FnOk P w K mg base CX0 2 f fd ["text"] (sp_word valueC) := by
  obtain ⟨f_consists_of, fd_consists_of, F_consists_of, b_consists_of, g_consists_of⟩ := T.h_consists_of
  have G_consists_of := ok_consists_of (P := P) (w := w) (base := base) T F_consists_of
  refine F.ok sc_is_value (fun vs H Q E h => ?_) (fun cdv A outer s H vs Q E hr h => ?_)
  · obtain ⟨t, rfl, _⟩ := h
    rfl
  obtain ⟨t, rfl, ht, q⟩ := h
  have hr_consists_of := hr
  refine ⟨_, (pss_one (ps_ret (pe_call G_consists_of hr_consists_of (by rfl) g_consists_of F_consists_of.kp b_consists_of .nil pass0 (pa_cons (pv 0) (pa_cons (pe_gv (by rfl) T.c_VALUE_CHARACTERS) pa_nil))))), ?_⟩
  exact ⟨_, rfl, t, _, rfl, ht, q⟩
def sp_field : Sp := fun vs H Q _ => ∃ t, vs = [.str t] ∧ t.length ≤ 50000 ∧ ∀ H', Same H H' → Q (.bl (fieldOk t)) H'
theorem ok_is_field_name {f : Addr} {fd : FuncData} (T : Txt K mg) (F : Fun K "is_field_name" "is_field_name" s_is_field_name f fd) : FnOk P w K mg base CX0 3 f fd ["text"] sp_field := by
  obtain ⟨f_is_name, fd_is_name, F_is_name, b_is_name, g_is_name⟩ := T.h_is_name
  have G_is_name := ok_is_name (P := P) (w := w) (base := base) T F_is_name
  refine F.ok sc_is_field_name (fun vs H Q E h => ?_) (fun cdv A outer s H vs Q E hr h => ?_)
  · obtain ⟨t, rfl, _⟩ := h
    rfl
  obtain ⟨t, rfl, ht, q⟩ := h
  have hr_is_name := hr
  refine ⟨_, (pss_one (ps_ret (pe_and (pe_call G_is_name hr_is_name (by rfl) g_is_name F_is_name.kp b_is_name .nil pass0 (pa_cons (pv 0) pa_nil)) (pe_one (pe_cmpR op_ne (pv 0) pe_str (nomark _)))))), ?_⟩
  refine ⟨_, rfl, t, rfl, ht, fun H1 s1 => ⟨_, rfl, ?_⟩⟩
  cases e : consists t nameC with
  | true =>
    refine iteT ⟨_, rfl, rfl, ?_⟩
    have e2 : fieldOk t = !decide (V.str t = V.str "any") := by
      unfold fieldOk
      rw [e, Bool.true_and, Bool.eq_iff_iff]
      simp
    rw [← e2]
    exact q H1 s1
  | false =>
    have e2 : fieldOk t = false := by
      unfold fieldOk
      rw [e]
      rfl
    exact iteF (e2 ▸ q H1 s1)
def sp_count : Sp := fun vs H Q _ => ∃ (m t : Int), vs = [.int m, .int t] ∧ 1 ≤ m ∧ m ≤ t ∧ ∀ H', Same H H' → Q .non H'
theorem ok_check_count {f : Addr} {fd : FuncData} (T : Txt K mg) (F : Fun K "check_count" "check_count" s_check_count f fd) : FnOk P w K mg base CX0 1 f fd ["many", "limit"] sp_count := by
  refine F.ok sc_check_count (fun vs H Q E h => ?_) (fun cdv A outer s H vs Q E hr h => ?_)
  · obtain ⟨m, t, rfl, _⟩ := h
    rfl
  obtain ⟨m, t, rfl, h1, h2, q⟩ := h
  refine ⟨_, (pss_one (ps_if (PW.pt (pw_or (pt_cmpR op_lt (pv 0) pe_int (nomark _)) (pw_or1 (pt_cmpR op_gt (pv 0) (pv 1) (nomark _))))) (pss_one ps_never) pss_nil)), ?_⟩
  exact ⟨_, rfl, _, _, rfl, rfl, _, rfl, ifF (by omega) ⟨_, rfl, _, rfl, _, _, rfl, rfl, _, rfl, ifF (by omega) (q H (Same.refl _))⟩⟩
def sp_values (K : PySem.W.Frag) : Sp := fun vs H Q _ => ∃ (v : V) (ms : List Str), vs = [v] ∧ Dp K H v (.list (ms.map PyData.str)) ∧ Marks ms ∧ 1 ≤ ms.length ∧ ms.length ≤ 6 ∧
  ∀ (p : Addr) (H' : Hp), Same H H' → H p = none → FTup H' p (ms.map V.str) → Q (.ref p) H'
theorem ok_checked_values {f : Addr} {fd : FuncData} (T : Txt K mg) (F : Fun K "checked_values" "checked_values" s_checked_values f fd) : FnOk P w K mg base CX0 3 f fd ["values"] (sp_values K) := by
  obtain ⟨f_check_count, fd_check_count, F_check_count, b_check_count, g_check_count⟩ := T.h_check_count
  obtain ⟨f_is_value, fd_is_value, F_is_value, b_is_value, g_is_value⟩ := T.h_is_value
  have G_check_count := ok_check_count (P := P) (w := w) (base := base) T F_check_count
  have G_is_value := ok_is_value (P := P) (w := w) (base := base) T F_is_value
  refine F.ok sc_checked_values (fun vs H Q E h => ?_) (fun cdv A outer s H vs Q E hr h => ?_)
  · obtain ⟨v, ms, rfl, _⟩ := h
    rfl
  obtain ⟨v, ms, rfl, hv, hm, h1, h2, q⟩ := h
  have hr_check_count : Room 1 _ := hr.mono (by decide)
  have hr_is_value : Room 2 _ := hr.mono (by decide)
  refine ⟨_, (pss_cons (ps_expr (pe_call G_check_count hr_check_count (by rfl) g_check_count F_check_count.kp b_check_count .nil pass0 (pa_cons (pe_callB (call_len_seqK (K := K)) (by rfl) T.m_len PySem.boot_len (pa_cons (pv 0) pa_nil)) (pa_cons (pe_gv (by rfl) T.c_MAX_VALUES) pa_nil))))
      (pss_cons (ps_set (i := 1) sc_checked_values.nd rfl (.inl rfl) (pe_lst pa_nil))
      (pss_cons (ps_for PassesOwn.never rfl (pi_listK (K := K) (pv 0)) (pg_name (i := 2) sc_checked_values.nd rfl (.inl rfl)) (pss_cons (ps_if (pt_not (pt_val (pe_call G_is_value hr_is_value (by rfl) g_is_value F_is_value.kp b_is_value .nil pass0 (pa_cons (pv 2) pa_nil)))) (pss_one ps_never) pss_nil)
      (pss_cons (ps_if (pt_cmpR (op_in_seqK (K := K)) (pv 2) (pv 1) (by rfl)) (pss_one ps_never) pss_nil)
      (pss_one (ps_expr (pe_bm PySem.F.plainAttrs_list PySem.F.slot_list_append PySem.F.type_list_append mt_append (pv 1) (pa_cons (pv 2) pa_nil)))))))
      (pss_one (ps_ret (pe_callTy (call_tupFK (K := K)) (by rfl) T.m_tuple (by decide +kernel) (pa_cons (pv 1) pa_nil))))))), ?_⟩
  cases hv with
  | lst hs ht =>
    rename_i a xs
    obtain rfl := strs_inv ht
    refine ⟨_, rfl, a, _, rfl, .inl hs, _, 6, rfl, by rw [List.length_map]; omega, by rw [List.length_map]; omega, fun H1 s1 => ⟨Nat.zero_le _, fun D hD => ?_⟩⟩
    have s2 := s1.trans (same_new (o := .lst []) hD)
    refine ⟨_, rfl, a, rfl, ⟨_, s2.seq hs⟩, ?_⟩
    refine for_it (walk_list (xs := ms.map V.str)) (fun i σ H' => ∃ x2 : Option V, σ = [some (.ref a), some (.ref D), x2] ∧ Same H H' ∧ H' D = some (.lst ((ms.take i).map V.str)))
      ⟨none, rfl, s2, upd_same⟩ (fun i σ H' _ ⟨_, _, h, _⟩ => h.seq hs) (fun i x σ H2 H3 hi hI hy => ?_) (fun σ H2 hI => ?_)
    · obtain ⟨x2, rfl, sm, hD2⟩ := hI
      obtain ⟨rfl, hx⟩ := hy
      obtain ⟨m, hmi, rfl⟩ := str_at hx
      have hvm := hm.1 m (List.mem_of_getElem? hmi)
      refine ⟨_, rfl, m, rfl, Nat.le_trans hvm.2.1 (by decide), fun H4 s4 => ?_⟩
      have hD4 := s4 _ _ hD2
      refine ⟨_, rfl, bF (by rw [consists_vl hvm]; rfl) ⟨_, rfl, _, rfl, D, _, rfl, .inl (SqL.of hD4), rfl, flat_strs _, _, rfl, bF ((inV_str _ _).trans (decide_eq_false (nodup_take hm.2 hmi))) ⟨_, rfl, .inl ⟨rfl, _, SqL.of hD4⟩, _, rfl, D, _, _, rfl, rfl, hD4, szt (by rw [List.length_map, List.length_take]; omega), ?_⟩⟩⟩
      refine ⟨_, rfl, fun b o e => ?_, by rw [upd_same, take_step hmi, List.map_append]; rfl⟩
      rw [upd_ne (ne_of_none (s1 _ _ e) hD)]
      exact s4 _ _ (sm _ _ e)
    · obtain ⟨x2, rfl, sm, hD2⟩ := hI
      rw [List.length_map, List.take_length] at hD2
      exact ⟨_, rfl, D, _, rfl, SqL.of hD2, fun p o hp ho => q p _ (sm.trans (same_new hp)) (sm.free hp) (FTup.new ho)⟩
def keysOf (fs : List Fld) : List Key := fs.map fun f => Sum.inr f.1
def sp_cfields (K : PySem.W.Frag) : Sp := fun vs H Q _ => ∃ (v : V) (fs : List Fld), vs = [v] ∧ Dp K H v (fldsD fs) ∧ FOk fs ∧ fs.length ≤ 5 ∧
  ∀ (D : Addr) (kvs : List (Key × V)) (H' : Hp), Same H H' → H D = none → H' D = some (.dK kvs) → kvs.map (·.1) = keysOf fs → DpAll K (dl H' [D]) (kvs.map (·.2)) (fs.map valD) → FrzAll (dl H' [D]) (kvs.map (·.2)) fs → Q (.ref D) H'
theorem ok_checked_fields {f : Addr} {fd : FuncData} (T : Txt K mg) (F : Fun K "checked_fields" "checked_fields" s_checked_fields f fd) : FnOk P w K mg base CX0 4 f fd ["fields"] (sp_cfields K) := by
  obtain ⟨f_check_count, fd_check_count, F_check_count, b_check_count, g_check_count⟩ := T.h_check_count
  obtain ⟨f_checked_values, fd_checked_values, F_checked_values, b_checked_values, g_checked_values⟩ := T.h_checked_values
  obtain ⟨f_is_field_name, fd_is_field_name, F_is_field_name, b_is_field_name, g_is_field_name⟩ := T.h_is_field_name
  have G_check_count := ok_check_count (P := P) (w := w) (base := base) T F_check_count
  have G_is_field_name := ok_is_field_name (P := P) (w := w) (base := base) T F_is_field_name
  have G_checked_values := ok_checked_values (P := P) (w := w) (base := base) T F_checked_values
  refine F.ok sc_checked_fields (fun vs H Q E h => ?_) (fun cdv A outer s H vs Q E hr h => ?_)
  · obtain ⟨v, fs, rfl, _⟩ := h
    rfl
  obtain ⟨v, fs, rfl, hv, hf, h2, q⟩ := h
  have hr_check_count : Room 1 _ := hr.mono (by decide)
  have hr_is_field_name : Room 3 _ := hr.mono (by decide)
  have hr_checked_values : Room 3 _ := hr.mono (by decide)
  refine ⟨_, (pss_cons (ps_expr (pe_call G_check_count hr_check_count (by rfl) g_check_count F_check_count.kp b_check_count .nil pass0 (pa_cons (pe_callB (call_len_seqK (K := K)) (by rfl) T.m_len PySem.boot_len (pa_cons (pv 0) pa_nil)) (pa_cons (pe_gv (by rfl) T.c_MAX_FIELDS) pa_nil))))
      (pss_cons (ps_set (i := 1) sc_checked_fields.nd rfl (.inl rfl) pe_dnewK)
      (pss_cons (ps_for PassesOwn.never rfl (pi_listK (K := K) (pv 0)) (pg_tup rfl (pgs_cons (pg_name (i := 2) sc_checked_fields.nd rfl (.inl rfl)) (pgs_cons (pg_name (i := 3) sc_checked_fields.nd rfl (.inl rfl)) pgs_nil))) (pss_cons (ps_if (pt_not (pt_val (pe_call G_is_field_name hr_is_field_name (by rfl) g_is_field_name F_is_field_name.kp b_is_field_name .nil pass0 (pa_cons (pv 2) pa_nil)))) (pss_one ps_never) pss_nil)
      (pss_cons (ps_if (pt_cmp (pc_din (hu_of hr) (pv 2) (pv 1))) (pss_one ps_never) pss_nil)
      (pss_one (ps_dput (hu_of hr) (pv 1) (pv 2) (pe_call G_checked_values hr_checked_values (by rfl) g_checked_values F_checked_values.kp b_checked_values .nil pass0 (pa_cons (pv 3) pa_nil)) rfl)))))
      (pss_one (ps_ret (pv 1)))))), ?_⟩
  have h1 := hf.2.2
  cases hv with
  | lst hs ht =>
    rename_i a xs
    have hl := dpa_len' ht
    refine ⟨_, rfl, a, _, rfl, .inl hs, _, 5, rfl, by omega, by omega, fun H1 s1 => fun D hD => ?_⟩
    have s2 := s1.trans (same_new (o := .dK []) hD)
    refine ⟨_, rfl, a, rfl, ⟨_, s2.seq hs⟩, ?_⟩
    refine for_it (walk_list (xs := xs)) (fun i σ H' => ∃ (kvs : List (Key × V)) (x2 x3 : Option V), σ = [some (.ref a), some (.ref D), x2, x3] ∧ Same H H' ∧ H' D = some (.dK kvs) ∧ kvs.map (·.1) = keysOf (fs.take i) ∧ DpAll K (dl H' [D]) (kvs.map (·.2)) ((fs.take i).map valD) ∧ FrzAll (dl H' [D]) (kvs.map (·.2)) (fs.take i))
      ⟨[], none, none, rfl, s2, upd_same, rfl, .nil, FrzAll.nil⟩ (fun i σ H' _ ⟨_, _, _, _, h, _⟩ => h.seq hs) (fun i x σ H2 H3 hi hI hy => ?_) (fun σ H2 hI => ?_)
    · obtain ⟨kvs, x2, x3, rfl, sm, hD2, hk, hd, hfz⟩ := hI
      obtain ⟨rfl, hx⟩ := hy
      have hfi := List.getElem?_eq_getElem (show i < fs.length by omega)
      generalize fs[i] = fl at hfi
      have hfm := hf.1 fl (List.mem_of_getElem? hfi)
      have hdx := dp_mono sm (dpa_get' ht hx hfi)
      cases hdx with
      | tup hts htt =>
        rename_i b ys
        cases htt with
        | cons y1 r1 =>
          cases y1
          cases r1 with
          | cons y2 r2 =>
            cases r2
            rename_i v2
            refine ⟨b, _, rfl, hts, rfl, ?_⟩
            have hkn : valV kvs (Sum.inr fl.1 : Key) = none := valV_none (by
              rw [hk]
              intro z
              obtain ⟨g, hg, eg⟩ := List.mem_map.mp z
              have hn := nodup_take hf.2.1 (i := i) (x := fl.1) (by rw [List.getElem?_map, hfi]; rfl)
              rw [← List.map_take] at hn
              exact hn (List.mem_map.mpr ⟨g, hg, Sum.inr.inj eg⟩))
            have hkl : kvs.length ≤ i := by
              have := congrArg List.length hk
              unfold keysOf at this
              rw [List.length_map, List.length_map, List.length_take] at this
              omega
            refine ⟨_, _, rfl, _, _, rfl, rfl, ?_⟩
            refine ⟨_, rfl, fl.1, rfl, Nat.le_trans hfm.1.2.1 (by decide), fun H4 s4 => ⟨_, rfl, bF (by rw [fieldOk_nm hfm.1 hfm.2.1]; rfl) ⟨_, rfl, _, rfl, D, _, rfl, DGet.k (k := Sum.inr fl.1) (s4 _ _ hD2), _, rfl, bF (by rw [hkn]; rfl) ?_⟩⟩⟩
            refine ⟨_, rfl, v2, fl.2, rfl, dp_mono s4 y2, hfm.2.2.2.1, hfm.2.2.2.2.1, by have := hfm.2.2.2.2.2; omega, fun p H5 s5 hp hp5 => ⟨_, rfl, _, rfl, D, _, rfl, DPut.k (k := Sum.inr fl.1) (s5 _ _ (s4 _ _ hD2)) (szt (by omega)), ?_⟩⟩
            have npD : p ≠ D := fun z => by rw [z, s4 _ _ hD2] at hp; cases hp
            have hp6 : FTup (dl H5 [D]) p (fl.2.map V.str) := by
              obtain ⟨o, e1, e2⟩ := hp5
              exact ⟨o, e1, by rw [dl_ne (by simpa using npD)]; exact e2⟩
            refine ⟨_, _, _, rfl, fun b' o e => ?_, upd_same, ?_, ?_, ?_⟩
            · rw [upd_ne (ne_of_none (s1 _ _ e) hD)]
              exact s5 _ _ (s4 _ _ (sm _ _ e))
            · rw [putK_new _ hkn, List.map_append, hk, take_step hfi]
              unfold keysOf
              rw [List.map_append]
              rfl
            · rw [putK_new _ hkn, dl_upd List.mem_cons_self, List.map_append, take_step hfi, List.map_append]
              refine dpa_app (dpa_mono (dl_mono (s4.trans s5)) hd) (.cons (.tup hp6.sq (dpa_strs _)) .nil)
            · rw [putK_new _ hkn, dl_upd List.mem_cons_self, List.map_append, take_step hfi]
              exact (hfz.same (dl_mono (s4.trans s5))).snoc hp6
    · obtain ⟨kvs, x2, x3, rfl, sm, hD2, hk, hd, hfz⟩ := hI
      rw [hl, List.take_length] at hk hd hfz
      exact ⟨_, rfl, q D kvs _ sm (s1.free hD) hD2 hk hd hfz⟩
end
end Hr

set_option Elab.async false
set_option linter.all false
set_option maxRecDepth 100000
set_option maxHeartbeats 4000000
namespace Hr
open PySem PySem.Spec PyProof.Rows L2
section
variable {P : Program} {w : World} {K : PySem.W.Frag} {mg : Str → Option Value} {base : Heap}
def sp_cnt (K : PySem.W.Frag) : Sp := fun vs H Q _ => ∃ (v : V) (fs : List Fld), vs = [v] ∧ Dp K H v (choD fs) ∧ (∀ f ∈ fs, f.2.length ≤ 3) ∧ ∀ H', Same H H' → Q (.int (tot fs)) H'
theorem ok_count_requests {f : Addr} {fd : FuncData} (T : Txt K mg) (F : Fun K "count_requests" "count_requests" s_count_requests f fd) : FnOk P w K mg base CX0 1 f fd ["choices"] (sp_cnt K) := by
  refine F.ok sc_count_requests (fun vs H Q E h => ?_) (fun cdv A outer s H vs Q E hr h => ?_)
  · obtain ⟨v, fs, rfl, _⟩ := h
    rfl
  obtain ⟨v, fs, rfl, hv, hf, q⟩ := h
  refine ⟨_, (pss_cons (ps_set (i := 1) sc_count_requests.nd rfl (.inl rfl) pe_int)
      (pss_cons (ps_for PassesOwn.never rfl (pi_tupK (K := K) (pv 0)) (pg_name (i := 2) sc_count_requests.nd rfl (.inl rfl)) (pss_one (ps_aug (i := 1) sc_count_requests.nd rfl (.inl rfl) (pe_callB (call_len_seqK (K := K)) (by rfl) T.m_len PySem.boot_len (pa_cons (pv 2) pa_nil)) iop_mul)))
      (pss_one (ps_ret (pv 1))))), ?_⟩
  cases hv with
  | tup hs ht =>
    rename_i a xs
    have hl := dpa_len' ht
    refine ⟨_, rfl, a, rfl, ⟨_, hs⟩, ?_⟩
    refine for_it (walk_tup (xs := xs)) (fun i σ H' => ∃ x2 : Option V, σ = [some (.ref a), some (.int (tot (fs.take i))), x2] ∧ Same H H')
      ⟨none, rfl, Same.refl _⟩ (fun i σ H' _ ⟨_, _, h⟩ => Same.seqT h hs) (fun i x σ H2 H3 hi hI hy => ?_) (fun σ H2 hI => ?_)
    · obtain ⟨x2, rfl, sm⟩ := hI
      obtain ⟨rfl, hx⟩ := hy
      have hfi := List.getElem?_eq_getElem (show i < fs.length by omega)
      generalize fs[i] = fl at hfi
      have hfm := hf fl (List.mem_of_getElem? hfi)
      have hdx := dp_mono sm (dpa_get' ht hx hfi)
      cases hdx with
      | tup h1 h2 =>
        obtain rfl := strs_inv h2
        rename_i b
        refine ⟨_, rfl, _, rfl, b, _, rfl, .inr h1, _, _, rfl, rfl, .inr ⟨by rw [List.length_map]; omega, by rw [List.length_map]; omega⟩, ?_⟩
        refine ⟨some (.ref b), ?_, sm⟩
        have e : ((tot (fs.take i) : Int) * ((fl.2.map V.str).length : Int)) = ((tot (fs.take (i + 1)) : Nat) : Int) := by
          rw [take_step hfi, tot_snoc, List.length_map, Int.natCast_mul]
        rw [← e]
        rfl
    · obtain ⟨x2, rfl, sm⟩ := hI
      rw [hl, List.take_length]
      exact ⟨_, rfl, q _ sm⟩
def sp_init (K : PySem.W.Frag) (C : Addr) : Sp := fun vs H Q _ => ∃ (p dx : Addr) (v : V) (fs : List Fld), vs = [.ref p, v] ∧ H p = some (.ins C dx []) ∧ Dp K H v (fldsD fs) ∧ FOk fs ∧ fs.length ≤ 5 ∧ tot fs ≤ 400 ∧
  ∀ H', (∀ b o, b ≠ p → H b = some o → H' b = some o) → SchAt K C H' p fs → Q .non H'
theorem ok_Schema___init__ {f : Addr} {fd : FuncData} (T : Txt K mg) (F : Fun K "__init__" "Schema.__init__" s_Schema___init__ f fd) : FnOk P w K mg base CX0 5 f fd ["self", "fields"] (sp_init K (adr (mg "Schema"))) := by
  obtain ⟨f_checked_fields, fd_checked_fields, F_checked_fields, b_checked_fields, g_checked_fields⟩ := T.h_checked_fields
  obtain ⟨f_count_requests, fd_count_requests, F_count_requests, b_count_requests, g_count_requests⟩ := T.h_count_requests
  have G_checked_fields := ok_checked_fields (P := P) (w := w) (base := base) T F_checked_fields
  have G_count_requests := ok_count_requests (P := P) (w := w) (base := base) T F_count_requests
  refine F.ok sc_Schema___init__ (fun vs H Q E h => ?_) (fun cdv A outer s H vs Q E hr h => ?_)
  · obtain ⟨p, dx, v, fs, rfl, _⟩ := h
    rfl
  obtain ⟨p, dx, v, fs, rfl, hp, hv, hf, hfl, ht, q⟩ := h
  have hr_checked_fields : Room 4 _ := hr.mono (by decide)
  have hr_count_requests : Room 1 _ := hr.mono (by decide)
  refine ⟨_, (pss_cons (ps_set (i := 2) sc_Schema___init__.nd rfl (.inl rfl) (pe_call G_checked_fields hr_checked_fields (by rfl) g_checked_fields F_checked_fields.kp b_checked_fields .nil pass0 (pa_cons (pv 1) pa_nil)))
      (pss_cons (ps_fld (pv 0) (pe_callTy (call_tupD rfl) (by rfl) T.m_tuple (by decide +kernel) (pa_cons (pv 2) pa_nil)) rfl)
      (pss_cons (ps_fld (pv 0) (pe_tupVals rfl (by rfl) T.m_tuple (pv 2)) rfl)
      (pss_cons (ps_fld (pv 0) (pe_call G_count_requests hr_count_requests (by rfl) g_count_requests F_count_requests.kp b_count_requests .nil pass0 (pa_cons (pe_fld (pv 0) rfl) pa_nil)) rfl)
      (pss_one (ps_if (pt_cmpR op_gt (pe_fld (pv 0) rfl) (pe_gv (by rfl) T.c_MAX_REQUESTS) (nomark _)) (pss_one ps_never) pss_nil)))))), ?_⟩
  refine ⟨_, rfl, v, fs, rfl, hv, hf, hfl, fun D kvs H1 s1 hD hD1 hk hd hfz => ?_⟩
  have np : p ≠ D := ne_of_none hp hD
  have hp1 := s1 _ _ hp
  -- self.labels = tuple(kept)
  refine ⟨_, rfl, D, kvs, rfl, hD1, fun t1 ob1 ht1 hob1 => ⟨_, rfl, p, _, dx, _, rfl, (same_new ht1) _ _ hp1, T.k_Schema, T.n_Schema_labels, by show 0 < 1000; decide, ?_⟩⟩
  have n1 : p ≠ t1 := ne_of_none hp1 ht1
  have nD1 : D ≠ t1 := ne_of_none hD1 ht1
  -- self.choices = tuple(kept.values())
  refine ⟨_, rfl, D, kvs, rfl, by rw [upd_ne np.symm, upd_ne nD1]; exact hD1, fun t2 ht2 => ?_⟩
  have n2 : p ≠ t2 := fun z => by rw [← z, upd_same] at ht2; cases ht2
  have n21 : t2 ≠ t1 := fun z => by rw [z, upd_ne n1.symm, upd_same] at ht2; cases ht2
  have ht2' : H1 t2 = none := by rw [upd_ne n2.symm, upd_ne n21] at ht2; exact ht2
  refine ⟨_, rfl, p, _, dx, _, rfl, by rw [upd_ne n2, upd_same], T.k_Schema, T.n_Schema_choices, by show 1 < 1000; decide, ?_⟩
  -- self.total = count_requests(self.choices)
  have kp : ∀ (o1 o2 o3 o4 : HO) b o, b ≠ p → H1 b = some o → (upd (upd (upd (upd H1 t1 o1) p o2) t2 o3) p o4) b = some o := fun o1 o2 o3 o4 b o hb e => by
    rw [upd_ne hb, upd_ne (ne_of_none e ht2'), upd_ne hb, upd_ne (ne_of_none e ht1)]
    exact e
  refine ⟨_, rfl, p, _, dx, _, _, rfl, upd_same, T.k_Schema, T.n_Schema_choices, by rw [lookup_putF, if_pos rfl], .ref t2, fs, rfl, .tup (SqT.of (by rw [upd_ne n2.symm, upd_same])) (dpa_off (noSq_ins hp1) (kp _ _ _ _) (dpa_mono dl_le hd)), fun f hf' => (hf.1 f hf').2.2.2.2.2, fun H6 s6 => ?_⟩
  refine ⟨_, rfl, p, _, dx, _, rfl, s6 _ _ upd_same, T.k_Schema, T.n_Schema_total, Nat.lt_of_le_of_lt (putF_len _ _ _) (by show 2 < 1000; decide), ?_⟩
  have kp7 : ∀ (o : HO) b u, b ≠ p → H1 b = some u → (upd H6 p o) b = some u := fun o b u hb e => by
    rw [upd_ne hb]
    exact s6 _ _ (kp _ _ _ _ b u hb e)
  refine ⟨_, rfl, p, _, dx, _, _, rfl, upd_same, T.k_Schema, T.n_Schema_total, sch_total _ _ _, _, _, rfl, rfl, _, rfl, ifF (by omega) (q _ (fun b o hb e => kp7 _ b o hb (s1 _ _ e)) ⟨⟨dx, .ref t1, .ref t2, upd_same, ?_, ?_⟩, fun dx' a' c' h' => ?_⟩)⟩
  · have e1 : (upd H6 p (.ins (adr (mg "Schema")) dx (sch (.ref t1) (.ref t2) (tot fs)))) t1 = some (.frz ob1 (.tup (kvs.map fun kv => kV kv.1))) := by
      rw [upd_ne n1.symm]
      exact s6 _ _ (by rw [upd_ne n1.symm, upd_ne n21.symm, upd_ne n1.symm, upd_same])
    rw [keys_str hk] at e1
    exact ⟨t1, ob1, rfl, hob1, e1⟩
  · refine .tup (SqT.of ?_) (dpa_off (noSq_ins hp1) (kp7 _) (dpa_mono dl_le hd))
    rw [upd_ne n2.symm]
    exact s6 _ _ (by rw [upd_ne n2.symm, upd_same])
  · rw [upd_same] at h'
    injection h' with h'
    injection h' with _ _ h'
    rw [← sch_inj h']
    refine ⟨t2, _, rfl, ?_, (hfz.same dl_le).off (noSq_ins hp1) (kp7 _)⟩
    rw [upd_ne n2.symm]
    exact s6 _ _ (by rw [upd_ne n2.symm, upd_same])
end
end Hr

set_option Elab.async false
set_option linter.all false
set_option maxRecDepth 100000
set_option maxHeartbeats 4000000
namespace Hr
open PySem PySem.Spec PyProof.Rows L2
section
variable {P : Program} {w : World} {K : PySem.W.Frag} {mg : Str → Option Value} {base : Heap}
theorem lab_open {H : Hp} {v : V} {fs : List Fld} (h : LabAt H v fs) : ∃ a, v = .ref a ∧ SqT K H a ((fs.map (·.1)).map V.str) ∧ ∃ o, o.dict = none ∧ H a = some (.frz o (.tup ((fs.map (·.1)).map V.str))) := by
  obtain ⟨a, o, rfl, e2, e3⟩ := h
  exact ⟨a, rfl, .inl (.inr ⟨o, e3⟩), o, e2, e3⟩
theorem cho_open {H : Hp} {v : V} {fs : List Fld} (h : Dp K H v (choD fs)) : ∃ a xs, v = .ref a ∧ SqT K H a xs ∧ xs.length = fs.length ∧ ∀ (i : Nat) x f, xs[i]? = some x → fs[i]? = some f → ∃ b, x = .ref b ∧ SqT K H b (f.2.map V.str) := by
  unfold choD at h
  cases h with
  | tup h1 h2 =>
    refine ⟨_, _, rfl, h1, dpa_len' h2, fun i x f hx hf => ?_⟩
    have h3 := dpa_get' h2 hx hf
    unfold valD at h3
    cases h3 with
    | tup h4 h5 =>
      obtain rfl := strs_inv h5
      exact ⟨_, rfl, h4⟩
theorem at_dig {ms : List Str} {r : Nat} (h : 1 ≤ ms.length) : atI (ms.map V.str) ((r : Int).fmod ((ms.map V.str).length : Int)) = some (.str (ms.getD (r % ms.length) "")) := by
  have hm : r % ms.length < ms.length := Nat.mod_lt _ h
  have e : (r : Int).fmod ((ms.map V.str).length : Int) = ((r % ms.length : Nat) : Int) := by
    rw [List.length_map, Int.fmod_eq_emod_of_nonneg _ (by omega), Int.natCast_emod]
  rw [e]
  refine atI_nat ?_
  rw [List.getElem?_map, List.getD_eq_getElem?_getD, List.getElem?_eq_getElem hm]
  rfl
def sp_reqOf (K : PySem.W.Frag) (C : Addr) : Sp := fun vs H Q _ => ∃ (p : Addr) (fs : List Fld) (n : Nat), vs = [.ref p, .int n] ∧ SchAt K C H p fs ∧ (∀ f ∈ fs, 1 ≤ f.2.length ∧ f.2.length ≤ 3) ∧ fs.length ≤ 5 ∧ n < tot fs ∧
  ∀ (a : Addr) (H' : Hp), Same H H' → H a = none → H' a = some (.tup ((req fs n).map V.str)) → Q (.ref a) H'
theorem ok_Schema_request_of {f : Addr} {fd : FuncData} (T : Txt K mg) (F : Fun K "request_of" "Schema.request_of" s_Schema_request_of f fd) : FnOk P w K mg base CX0 1 f fd ["self", "number"] (sp_reqOf K (adr (mg "Schema"))) := by
  refine F.ok sc_Schema_request_of (fun vs H Q E h => ?_) (fun cdv A outer s H vs Q E hr h => ?_)
  · obtain ⟨p, fs, n, rfl, _⟩ := h
    rfl
  obtain ⟨p, fs, n, rfl, hS, hf, hl5, hn, q⟩ := h
  obtain ⟨dx, a, c, hp, hla, hch⟩ := hS.ob
  obtain ⟨c', xs, rfl, hc, hxl, hxs⟩ := cho_open hch
  refine ⟨_, (pss_cons (ps_if (PW.pt (pw_or (pt_cmpR op_lt (pv 1) pe_int (nomark _)) (pw_or1 (pt_cmpR op_ge (pv 1) (pe_fld (pv 0) rfl) (nomark _))))) (pss_one ps_never) pss_nil)
      (pss_cons (ps_set (i := 2) sc_Schema_request_of.nd rfl (.inl rfl) (pe_lst pa_nil))
      (pss_cons (ps_set (i := 3) sc_Schema_request_of.nd rfl (.inl rfl) (pv 1))
      (pss_cons (ps_for PassesOwn.never rfl (RT.pi_revA (by rfl) T.m_reversed (pe_fld (pv 0) rfl)) (pg_name (i := 4) sc_Schema_request_of.nd rfl (.inl rfl)) (pss_cons (ps_expr (pe_bm PySem.F.plainAttrs_list PySem.F.slot_list_append PySem.F.type_list_append mt_append (pv 2) (pa_cons (pe_ix (ix_tupK (K := K)) (pv 4) (pe_op op_modN (pv 3) (pe_callB (call_len_seqK (K := K)) (by rfl) T.m_len PySem.boot_len (pa_cons (pv 4) pa_nil))) (fun _ _ => rfl)) pa_nil)))
      (pss_one (ps_aug (i := 3) sc_Schema_request_of.nd rfl (.inl rfl) (pe_callB (call_len_seqK (K := K)) (by rfl) T.m_len PySem.boot_len (pa_cons (pv 4) pa_nil)) iop_fdiv))))
      (pss_one (ps_ret (RT.pe_tupRev rfl (by rfl) T.m_tuple (by rfl) T.m_reversed (pv 2)))))))), ?_⟩
  refine ⟨_, rfl, _, _, rfl, rfl, _, rfl, ifF (by omega) ⟨_, rfl, _, rfl, p, _, dx, _, _, rfl, hp, T.k_Schema, T.n_Schema_total, sch_total _ _ _, _, _, rfl, rfl, _, rfl, ifF (by omega) ?_⟩⟩
  refine ⟨Nat.zero_le _, fun D hD => ⟨_, rfl, ?_⟩⟩
  have s0 := same_new (o := .lst []) hD
  refine ⟨_, rfl, p, _, dx, _, _, rfl, s0 _ _ hp, T.k_Schema, T.n_Schema_choices, sch_choices _ _ _, c', xs, rfl, .inr ⟨Same.seqT s0 hc, ?_⟩⟩
  refine RT.for_ItvT (xs := xs) (fun i σ H' => ∃ x4 : Option V, σ = [some (.ref p), some (.int n), some (.ref D), some (.int (left (fs.reverse.take i) n)), x4] ∧ Same H H' ∧ H' D = some (.lst ((digs (fs.reverse.take i) n).map V.str)))
    ⟨none, rfl, s0, upd_same⟩ (fun i σ H' ⟨_, _, h, _⟩ => Same.seqT h hc) (fun i x σ H3 hi hx hI => ?_) (fun σ H2 hI => ?_)
  · obtain ⟨x4, rfl, sm, hD2⟩ := hI
    have hfi := List.getElem?_eq_getElem (show fs.length - 1 - i < fs.length by omega)
    generalize fs[fs.length - 1 - i] = fl at hfi
    have hfm := hf fl (List.mem_of_getElem? hfi)
    have hri : fs.reverse[i]? = some fl := by rw [List.getElem?_reverse (by omega)]; exact hfi
    rw [hxl] at hx
    obtain ⟨b, rfl, hb⟩ := hxs _ x fl hx hfi
    have hb3 := Same.seqT sm hb
    have hlen : (fl.2.map V.str).length = fl.2.length := List.length_map _
    refine ⟨_, rfl, .inl ⟨rfl, _, SqL.of hD2⟩, _, rfl, _, rfl, _, rfl, b, _, rfl, .inr hb3, _, _, rfl, rfl, by rw [hlen]; omega, b, _, _, .str (fl.2.getD (left (fs.reverse.take i) n % fl.2.length) ""), rfl, rfl, hb3, at_dig hfm.1, D, _, _, rfl, rfl, hD2, szt (by rw [List.length_map, digs_len, List.length_take]; omega), ?_⟩
    have sm4 : ∀ o, Same H (upd H3 D o) := fun o b' u e => by
      rw [upd_ne (ne_of_none e hD)]
      exact sm _ _ e
    refine ⟨_, rfl, _, rfl, b, _, rfl, .inr (Same.seqT (sm4 _) hb), _, _, rfl, rfl, ⟨by rw [hlen]; omega, by rw [hlen]; omega⟩, some (.ref b), ?_, sm4 _, ?_⟩
    · have e : ((left (fs.reverse.take i) n : Nat) : Int) / ((fl.2.map V.str).length : Int) = ((left (fs.reverse.take (i + 1)) n : Nat) : Int) := by
        rw [take_step hri, left_snoc, hlen, Int.natCast_ediv]
      rw [← e]
      rfl
    · rw [upd_same, take_step hri, digs_snoc, List.map_append]
      rfl
  · obtain ⟨x4, rfl, sm, hD2⟩ := hI
    rw [hxl, ← List.length_reverse (as := fs), List.take_length] at hD2
    refine ⟨_, rfl, D, _, rfl, SqL.of hD2, fun t ht => q t _ (sm.trans (same_new ht)) (sm.free ht) ?_⟩
    rw [upd_same]
    unfold req
    rw [List.map_reverse]
/-- the number of a request, from the left -/
def numOf : List Fld → List Str → Nat → Nat
  | [], _, n => n
  | _, [], n => n
  | f :: fs, s :: ss, n => numOf fs ss (n * f.2.length + f.2.idxOf s)
def isReq (fs : List Fld) (rq : List Str) : Prop := rq.length = fs.length ∧ ∀ (i : Nat) f s, fs[i]? = some f → rq[i]? = some s → s ∈ f.2
theorem numOf_snoc : ∀ (fs : List Fld) (rq : List Str) (f : Fld) (s : Str) (n : Nat), fs.length = rq.length → numOf (fs ++ [f]) (rq ++ [s]) n = numOf fs rq n * f.2.length + f.2.idxOf s
  | [], [], f, s, n, _ => rfl
  | [], _ :: _, _, _, _, h => by cases h
  | _ :: _, [], _, _, _, h => by cases h
  | g :: fs, t :: ss, f, s, n, h => numOf_snoc fs ss f s _ (Nat.succ.inj h)
theorem numOf_lt : ∀ (fs : List Fld) (rq : List Str) (n : Nat), isReq fs rq → numOf fs rq n < (n + 1) * tot fs
  | [], rq, n, _ => by show n < (n + 1) * 1; omega
  | f :: fs, [], n, h => by have := h.1; cases this
  | f :: fs, s :: ss, n, h => by
    have hs : s ∈ f.2 := h.2 0 f s rfl rfl
    have hi := List.idxOf_lt_length_iff.mpr hs
    have ih := numOf_lt fs ss (n * f.2.length + f.2.idxOf s) ⟨Nat.succ.inj h.1, fun i g t hg ht => h.2 (i + 1) g t (by simpa using hg) (by simpa using ht)⟩
    show numOf fs ss (n * f.2.length + f.2.idxOf s) < (n + 1) * (f.2.length * tot fs)
    refine Nat.lt_of_lt_of_le ih ?_
    rw [← Nat.mul_assoc]
    refine Nat.mul_le_mul_right _ ?_
    rw [Nat.add_mul, Nat.one_mul]
    omega
theorem tot_take : ∀ {fs : List Fld}, (∀ f ∈ fs, 1 ≤ f.2.length ∧ f.2.length ≤ 3) → ∀ i, tot (fs.take i) ≤ tot fs
  | [], _, i => by rw [List.take_nil]; exact Nat.le_refl _
  | f :: r, h, 0 => by
    show 1 ≤ f.2.length * tot r
    have h1 := (h f List.mem_cons_self).1
    have h2 := tot_take (fs := r) (fun g hg => h g (List.mem_cons_of_mem _ hg)) 0
    have h3 : 1 ≤ tot r := by simpa [tot] using h2
    exact Nat.mul_le_mul h1 h3
  | f :: r, h, i + 1 => Nat.mul_le_mul_left _ (tot_take (fun g hg => h g (List.mem_cons_of_mem _ hg)) i)
def sp_numOf (K : PySem.W.Frag) (C : Addr) : Sp := fun vs H Q _ => ∃ (p r : Addr) (fs : List Fld) (rq : List Str), vs = [.ref p, .ref r] ∧ SchAt K C H p fs ∧ SqT K H r (rq.map V.str) ∧ isReq fs rq ∧ fs.length ≤ 5 ∧ tot fs ≤ 400 ∧ (∀ f ∈ fs, 1 ≤ f.2.length ∧ f.2.length ≤ 3) ∧ ∀ H', Same H H' → Q (.int (numOf fs rq 0)) H'
theorem ok_Schema_number_of {f : Addr} {fd : FuncData} (T : Txt K mg) (F : Fun K "number_of" "Schema.number_of" s_Schema_number_of f fd) : FnOk P w K mg base CX0 1 f fd ["self", "request"] (sp_numOf K (adr (mg "Schema"))) := by
  refine F.ok sc_Schema_number_of (fun vs H Q E h => ?_) (fun cdv A outer s H vs Q E hr h => ?_)
  · obtain ⟨p, r, fs, rq, rfl, _⟩ := h
    rfl
  obtain ⟨p, r, fs, rq, rfl, hS, hr', hq, hl5, htot, h3, q⟩ := h
  obtain ⟨dx, la, ch, hp, hla, hch⟩ := hS.ob
  obtain ⟨ca, xs, rfl, hca, hfz⟩ := hS.ch dx la ch hp
  have hxl := hfz.1
  refine ⟨_, (pss_cons (ps_if (pt_cmpR op_ne (pe_callB (call_len_seqK (K := K)) (by rfl) T.m_len PySem.boot_len (pa_cons (pv 1) pa_nil)) (pe_callB (call_len_seqK (K := K)) (by rfl) T.m_len PySem.boot_len (pa_cons (pe_fld (pv 0) rfl) pa_nil)) (nomark _)) (pss_one ps_never) pss_nil)
      (pss_cons (ps_set (i := 2) sc_Schema_number_of.nd rfl (.inl rfl) pe_int)
      (pss_cons (ps_for PassesOwn.never rfl (pi_enumAK (K := K) (by rfl) T.m_enumerate (pa_cons (pe_fld (pv 0) rfl) pa_nil)) (pg_tup rfl (pgs_cons (pg_name (i := 3) sc_Schema_number_of.nd rfl (.inl rfl)) (pgs_cons (pg_name (i := 4) sc_Schema_number_of.nd rfl (.inl rfl)) pgs_nil))) (pss_cons (ps_if (pt_cmpR (op_notIn_seqK (K := K)) (pe_ix (ix_tupK (K := K)) (pv 1) (pv 3) (fun _ _ => rfl)) (pv 4) (by rfl)) (pss_one ps_never) pss_nil)
      (pss_one (ps_set (i := 2) sc_Schema_number_of.nd rfl (.inl rfl) (pe_op op_add (pe_op op_mul (pv 2) (pe_callB (call_len_seqK (K := K)) (by rfl) T.m_len PySem.boot_len (pa_cons (pv 4) pa_nil))) (pe_tupIx (pv 4) (pa_cons (pe_ix (ix_tupK (K := K)) (pv 1) (pv 3) (fun _ _ => rfl)) pa_nil)))))))
      (pss_one (ps_ret (pv 2)))))), ?_⟩
  refine ⟨_, rfl, r, _, rfl, .inr hr', _, rfl, p, _, dx, _, _, rfl, hp, T.k_Schema, T.n_Schema_choices, sch_choices _ _ _, ca, _, rfl, .inr (SqT.of hca), rfl, _, rfl, ?_⟩
  refine bF ?_ ?_
  · show (!decide (V.int ((rq.map V.str).length : Int) = V.int (xs.length : Int))) = false
    rw [decide_eq_true (by rw [List.length_map, hxl, hq.1])]
    rfl
  refine ⟨_, rfl, p, _, dx, _, _, rfl, hp, T.k_Schema, T.n_Schema_choices, sch_choices _ _ _, ca, xs, rfl, .inr ⟨SqT.of hca, ?_⟩⟩
  refine for_it (walk_enumT (K := K) (a := ca) (xs := xs)) (fun i σ H' => ∃ x3 x4 : Option V, σ = [some (.ref p), some (.ref r), some (.int (numOf (fs.take i) (rq.take i) 0)), x3, x4] ∧ Same H H')
    ⟨none, none, rfl, Same.refl _⟩ (fun i σ H' _ ⟨_, _, _, h⟩ => SqT.of (h _ _ hca)) (fun i x σ H2 H3 hi hI hy => ?_) (fun σ H2 hI => ?_)
  · obtain ⟨x3, x4, rfl, sm⟩ := hI
    obtain ⟨t, u, y, rfl, ht, rfl, e1, e2⟩ := hy
    obtain rfl : V.int (i : Nat) = u := Option.some.inj e1
    have hfi := List.getElem?_eq_getElem (show i < fs.length by omega)
    generalize fs[i] = fl at hfi
    have hrl : i < rq.length := by have := hq.1; omega
    have hri := List.getElem?_eq_getElem hrl
    generalize rq[i] = sr at hri
    have hmem := hq.2 i fl sr hfi hri
    have hfm := h3 fl (List.mem_of_getElem? hfi)
    obtain ⟨b, rfl, ob, hob, hb⟩ := hfz.2 i y fl e2 hfi
    have st := same_new (o := .tup [.int (i : Nat), .ref b]) ht
    have sA := sm.trans st
    have hbs : SqT K (upd H2 t (.tup [.int (i : Nat), .ref b])) b (fl.2.map V.str) := .inl (.inr ⟨ob, sA _ _ hb⟩)
    have hrs := Same.seqT sA hr'
    have hat : atI (rq.map V.str) ((i : Nat) : Int) = some (.str sr) := atI_nat (by rw [List.getElem?_map, hri]; rfl)
    refine ⟨t, _, rfl, SqT.of upd_same, rfl, _, _, rfl, _, _, rfl, rfl, ?_⟩
    refine ⟨_, rfl, _, rfl, r, _, i, .str sr, rfl, rfl, hrs, hat, _, rfl, b, _, rfl, .inr hbs, rfl, flat_strs _, _, rfl, bF (by show (!inV _ _) = false; rw [inV_str, decide_eq_true hmem]; rfl) ?_⟩
    have hj := List.idxOf_lt_length_iff.mpr hmem
    have hlen : (fl.2.map V.str).length = fl.2.length := List.length_map _
    have hnum : numOf (fs.take i) (rq.take i) 0 < 400 := by
      have := numOf_lt (fs.take i) (rq.take i) 0 ⟨by rw [List.length_take, List.length_take, hq.1], fun j g s hg hs => by
        have hji : j < i := by
          have := (List.getElem?_eq_some_iff.mp hg).1
          rw [List.length_take] at this
          omega
        rw [List.getElem?_take_of_lt hji] at hg hs
        exact hq.2 j g s hg hs⟩
      refine Nat.lt_of_lt_of_le this ?_
      rw [Nat.zero_add, Nat.one_mul]
      exact Nat.le_trans (tot_take h3 i) htot
    refine ⟨_, rfl, _, rfl, b, _, rfl, .inr hbs, _, _, rfl, rfl, .inr ⟨by rw [hlen]; omega, by rw [hlen]; omega⟩, ?_⟩
    refine ⟨_, rfl, b, fl.2, ob, rfl, sA _ _ hb, hob, _, rfl, _, rfl, r, _, i, .str sr, rfl, rfl, hrs, hat, sr, fl.2.idxOf sr, rfl, sA _ _ hb, ?_, fun m hm => idx_first hm, _, _, rfl, rfl, ?_⟩
    · rw [List.getElem?_eq_getElem hj, List.getElem_idxOf hj]
    · refine ⟨some (.int (i : Nat)), some (.ref b), ?_, sA⟩
      have e : ((numOf (fs.take i) (rq.take i) 0 : Int) * ((fl.2.map V.str).length : Int)) + ((fl.2.idxOf sr : Nat) : Int) = ((numOf (fs.take (i + 1)) (rq.take (i + 1)) 0 : Nat) : Int) := by
        rw [take_step hfi, take_step hri, numOf_snoc _ _ _ _ _ (by rw [List.length_take, List.length_take, hq.1]), hlen]
        omega
      rw [← e]
      rfl
  · obtain ⟨x3, x4, rfl, sm⟩ := hI
    rw [hxl, List.take_length, ← hq.1, List.take_length]
    exact ⟨_, rfl, q _ sm⟩
end
end Hr

set_option Elab.async false
set_option linter.all false
set_option maxRecDepth 100000
set_option maxHeartbeats 4000000
namespace Hr
open PySem PySem.Spec PyProof.Rows L2
section
variable {P : Program} {w : World} {K : PySem.W.Frag} {mg : Str → Option Value} {base : Heap}
def sp_lsize (K : PySem.W.Frag) : Sp := fun vs H Q _ => ∃ (v : V) (fs : List Fld), vs = [v] ∧ Dp K H v (fldsD fs) ∧ (∀ f ∈ fs, f.2.length ≤ 3) ∧ ∀ H', Same H H' → Q (.int (tot fs)) H'
theorem fld_open {H : Hp} {x : V} {f : Fld} (h : Dp K H x (fldD f)) : ∃ (t m : Addr), x = .ref t ∧ SqT K H t [.str f.1, .ref m] ∧ SqL K H m (f.2.map V.str) := by
  unfold fldD at h
  cases h with
  | tup h1 h2 =>
    cases h2 with
    | cons y1 r1 =>
      cases y1
      cases r1 with
      | cons y2 r2 =>
        cases r2
        cases y2 with
        | lst h3 h4 =>
          obtain rfl := strs_inv h4
          exact ⟨_, _, rfl, h1, h3⟩
theorem ok__law_size {f : Addr} {fd : FuncData} (T : Txt K mg) (F : Fun K "_law_size" "_law_size" s__law_size f fd) : FnOk P w K mg base CX0 1 f fd ["_law_fields_here"] (sp_lsize K) := by
  refine F.ok sc__law_size (fun vs H Q E h => ?_) (fun cdv A outer s H vs Q E hr h => ?_)
  · obtain ⟨v, fs, rfl, _⟩ := h
    rfl
  obtain ⟨v, fs, rfl, hv, hf, q⟩ := h
  refine ⟨_, (pss_cons (ps_set (i := 1) sc__law_size.nd rfl (.inl rfl) pe_int)
      (pss_cons (ps_for PassesOwn.never rfl (pi_listK (K := K) (pv 0)) (pg_tup rfl (pgs_cons (pg_name (i := 2) sc__law_size.nd rfl (.inl rfl)) (pgs_cons (pg_name (i := 3) sc__law_size.nd rfl (.inl rfl)) pgs_nil))) (pss_one (ps_set (i := 1) sc__law_size.nd rfl (.inl rfl) (pe_op op_mul (pv 1) (pe_callB (call_len_seqK (K := K)) (by rfl) T.m_len PySem.boot_len (pa_cons (pv 3) pa_nil))))))
      (pss_one (ps_ret (pv 1))))), ?_⟩
  cases hv with
  | lst hs ht =>
    rename_i a xs
    have hl := dpa_len' ht
    refine ⟨_, rfl, a, rfl, ⟨_, hs⟩, ?_⟩
    refine for_it (walk_list (xs := xs)) (fun i σ H' => ∃ x2 x3 : Option V, σ = [some (.ref a), some (.int (tot (fs.take i))), x2, x3] ∧ Same H H')
      ⟨none, none, rfl, Same.refl _⟩ (fun i σ H' _ ⟨_, _, _, h⟩ => h.seq hs) (fun i x σ H2 H3 hi hI hy => ?_) (fun σ H2 hI => ?_)
    · obtain ⟨x2, x3, rfl, sm⟩ := hI
      obtain ⟨rfl, hx⟩ := hy
      have hfi := List.getElem?_eq_getElem (show i < fs.length by omega)
      generalize fs[i] = fl at hfi
      have hfm := hf fl (List.mem_of_getElem? hfi)
      obtain ⟨t, m, rfl, h1, h2⟩ := fld_open (dp_mono sm (dpa_get' ht hx hfi))
      refine ⟨t, _, rfl, h1, rfl, _, _, rfl, _, _, rfl, rfl, ?_⟩
      refine ⟨_, rfl, _, rfl, m, _, rfl, .inl h2, _, _, rfl, rfl, .inr ⟨by rw [List.length_map]; omega, by rw [List.length_map]; omega⟩, ?_⟩
      refine ⟨some (.str fl.1), some (.ref m), ?_, sm⟩
      have e : ((tot (fs.take i) : Int) * ((fl.2.map V.str).length : Int)) = ((tot (fs.take (i + 1)) : Nat) : Int) := by
        rw [take_step hfi, tot_snoc, List.length_map, Int.natCast_mul]
      rw [← e]
      rfl
    · obtain ⟨x2, x3, rfl, sm⟩ := hI
      rw [hl, List.take_length]
      exact ⟨_, rfl, q _ sm⟩
def sp_lschema (K : PySem.W.Frag) (C : Addr) : Sp := fun vs H Q _ => ∃ (v : V) (fs : List Fld), vs = [v] ∧ Dp K H v (fldsD fs) ∧ FOk fs ∧ fs.length ≤ 5 ∧ tot fs ≤ 400 ∧ ∀ (p : Addr) (H' : Hp), Same H H' → SchAt K C H' p fs → Q (.ref p) H'
theorem ok__law_schema {f : Addr} {fd : FuncData} (T : Txt K mg) (F : Fun K "_law_schema" "_law_schema" s__law_schema f fd) : FnOk P w K mg base CX0 7 f fd ["_law_fields_here"] (sp_lschema K (adr (mg "Schema"))) := by
  obtain ⟨f_Schema___init__, fd_Schema___init__, F_Schema___init__, b_Schema___init__, m_Schema___init__⟩ := T.h_Schema___init__
  have G_Schema___init__ := ok_Schema___init__ (P := P) (w := w) (base := base) T F_Schema___init__
  refine F.ok sc__law_schema (fun vs H Q E h => ?_) (fun cdv A outer s H vs Q E hr h => ?_)
  · obtain ⟨v, fs, rfl, _⟩ := h
    rfl
  obtain ⟨v, fs, rfl, hv, hf, hl5, htot, q⟩ := h
  have hr_Schema___init__ : Room 6 _ := hr
  refine ⟨_, (pss_one (ps_ret (pe_make m_Schema___init__ G_Schema___init__ hr_Schema___init__ (by rfl) T.g_Schema b_Schema___init__ .nil pass0 (pa_cons (pe_lc (own := [("_law_name", 1), ("_law_marks_here", 2)]) (g := gTup K 2 (gCons (gName 1) (gCons (gName 2) gNil))) (by rfl) sc__law_schema.nd (pi_listK (K := K) (pv 0)) (blkOk_by (own := [("_law_name", 1), ("_law_marks_here", 2)]) (N := N__law_schema) (sc := defScope s__law_schema) (by decide +kernel)) (fun _ _ _ _ _ => pg_tup rfl (pgs_cons (pg_name (i := 1) sc__law_schema.nd rfl (.inl rfl)) (pgs_cons (pg_name (i := 2) sc__law_schema.nd rfl (.inl rfl)) pgs_nil))) (fun _ _ _ _ _ => pts_nil) (fun _ _ _ _ _ => (pe_tup (pa_cons (pv 1) (pa_cons (pe_callTy (call_list_ofK (K := K)) (by rfl) T.m_list (by decide +kernel) (pa_cons (pv 2) pa_nil)) pa_nil))))) pa_nil)))), ?_⟩
  cases hv with
  | lst hs ht =>
    rename_i a xs
    have hl := dpa_len' ht
    refine ⟨_, rfl, a, rfl, ⟨_, hs⟩, fun D hD => ?_⟩
    refine lc_dat (walk_list (xs := xs)) [] hD (fun i y G => ∃ fl : Fld, fs[i]? = some fl ∧ Dp K G y (fldD fl)) (fun i y G G' sm ⟨fl, h1, h2⟩ => ⟨fl, h1, dp_mono sm h2⟩) (fun H' s' => s'.seq hs) (by omega) (fun i x H2 H3 Qe Z hi sm sd hDl hq hy => ?_) (fun H2 ys sm hyl hD2 hp => ?_)
    · obtain ⟨rfl, hx⟩ := hy
      have hfi := List.getElem?_eq_getElem (show i < fs.length by omega)
      generalize fs[i] = fl at hfi
      obtain ⟨t, m, rfl, h1, h2⟩ := fld_open (dp_mono sm (dpa_get' ht hx hfi))
      refine ⟨t, _, rfl, h1, rfl, _, _, rfl, _, _, rfl, rfl, rfl, yes ?_⟩
      obtain ⟨ds, hds⟩ := hDl
      refine ⟨_, rfl, _, rfl, m, _, rfl, .inl h2, fun l hl' => ⟨by show 2 ≤ sizeLine; decide, fun t2 ht2 => ?_⟩⟩
      have sl := same_new (o := .lst (fl.2.map V.str)) hl'
      have st := same_new (o := .tup [.str fl.1, .ref l]) ht2
      have nlD : l ∉ [D] := fun z => by rw [List.mem_singleton.mp z, hds] at hl'; cases hl'
      have ntD : t2 ∉ [D] := fun z => by rw [List.mem_singleton.mp z, sl _ _ hds] at ht2; cases ht2
      refine hq _ _ (sl.trans st) ⟨fl, hfi, .tup (SqT.of (by rw [dl_ne ntD, upd_same])) (.cons (.str _) (.cons (.lst (SqL.of ?_) (dpa_strs _)) .nil))⟩
      rw [dl_ne nlD]
      exact st _ _ upd_same
    · intro x dx hx hdx hne
      have hxs : DpAll K (dl H2 [D]) ys (fs.map fldD) := dpa_of (by rw [List.length_map]; omega) fun i y d hy hd => by
        obtain ⟨fl, h1, h2⟩ := hp i y hy
        rw [List.getElem?_map, h1] at hd
        cases hd
        exact h2
      have s3 := same_new (o := .own x) hdx
      have hx3 : (upd H2 dx (.own x)) x = none := by rw [upd_ne hne.symm]; exact hx
      have s4 := same_new (o := .ins (adr (mg "Schema")) dx []) hx3
      have s34 := s3.trans s4
      refine ⟨x, dx, .ref D, fs, rfl, upd_same, .lst (SqL.of (s34 _ _ hD2)) (dpa_mono (dl_le.trans s34) hxs), hf, hl5, htot, fun H5 k5 hS => ⟨rfl, q x H5 (fun b o e => ?_) hS⟩⟩
      exact k5 b o (ne_of_none (sm _ _ e) hx) (s34 _ _ (sm _ _ e))
theorem ok__law_same_step {f : Addr} {fd : FuncData} {n : Nat} (T : Txt K mg) (F : Fun K "_law_same" "_law_same" s__law_same f fd) (G__law_same : FnOk P w K mg base CX0 n f fd ["_law_found", "_law_due"] (sp_same K n)) (b__law_same : Binds K fd ["_law_found", "_law_due"] []) (g__law_same : mg "_law_same" = some (.ref f)) : FnOk P w K mg base CX0 (n + 1) f fd ["_law_found", "_law_due"] (sp_same K (n + 1)) := by
  have F__law_same := F
  refine F.ok sc__law_same (fun vs H Q E h => ?_) (fun cdv A outer s H vs Q E hr h => ?_)
  · obtain ⟨x, y, d, rfl, _⟩ := h
    rfl
  obtain ⟨x, y, d, rfl, hx, hy, hd, q⟩ := h
  have hr__law_same := hr
  refine ⟨_, (pss_cons (ps_if (pt_cmpR op_isN (pv 1) pe_non (nomark _)) (pss_one (ps_ret (pe_cmpR op_isN (pv 0) pe_non (nomark _)))) pss_nil)
      (pss_cons (ps_if (PW.pt (pw_or (pt_val (pe_callB (call_isiK' (K := K)) (by rfl) T.m_isinstance (by decide +kernel) (pa_cons (pv 1) (pa_cons (pe_bltn (v := .ty "bool") (by rfl) T.m_bool (by decide +kernel) rfl) pa_nil)))) (pw_or1 (pt_val (pe_callB (call_isiK' (K := K)) (by rfl) T.m_isinstance (by decide +kernel) (pa_cons (pv 0) (pa_cons (pe_bltn (v := .ty "bool") (by rfl) T.m_bool (by decide +kernel) rfl) pa_nil))))))) (pss_one (ps_ret (pe_and (pe_callB (call_isiK' (K := K)) (by rfl) T.m_isinstance (by decide +kernel) (pa_cons (pv 1) (pa_cons (pe_bltn (v := .ty "bool") (by rfl) T.m_bool (by decide +kernel) rfl) pa_nil))) (pe_and (pe_callB (call_isiK' (K := K)) (by rfl) T.m_isinstance (by decide +kernel) (pa_cons (pv 0) (pa_cons (pe_bltn (v := .ty "bool") (by rfl) T.m_bool (by decide +kernel) rfl) pa_nil))) (pe_one (pe_cmpR op_eq (pv 0) (pv 1) (nomark _))))))) pss_nil)
      (pss_cons (ps_if (PW.pt (pw_or (pt_val (pe_callB (call_isiK' (K := K)) (by rfl) T.m_isinstance (by decide +kernel) (pa_cons (pv 1) (pa_cons (pe_bltn (v := .ty "int") (by rfl) T.m_int (by decide +kernel) rfl) pa_nil)))) (pw_or1 (pt_val (pe_callB (call_isiK' (K := K)) (by rfl) T.m_isinstance (by decide +kernel) (pa_cons (pv 1) (pa_cons (pe_bltn (v := .ty "str") (by rfl) T.m_str (by decide +kernel) rfl) pa_nil))))))) (pss_one (ps_ret (pe_and (pe_cmpR op_eq (pe_callB (call_isiK' (K := K)) (by rfl) T.m_isinstance (by decide +kernel) (pa_cons (pv 0) (pa_cons (pe_bltn (v := .ty "int") (by rfl) T.m_int (by decide +kernel) rfl) pa_nil))) (pe_callB (call_isiK' (K := K)) (by rfl) T.m_isinstance (by decide +kernel) (pa_cons (pv 1) (pa_cons (pe_bltn (v := .ty "int") (by rfl) T.m_int (by decide +kernel) rfl) pa_nil))) (nomark _)) (pe_and (pe_cmpR op_eq (pe_callB (call_isiK' (K := K)) (by rfl) T.m_isinstance (by decide +kernel) (pa_cons (pv 0) (pa_cons (pe_bltn (v := .ty "str") (by rfl) T.m_str (by decide +kernel) rfl) pa_nil))) (pe_callB (call_isiK' (K := K)) (by rfl) T.m_isinstance (by decide +kernel) (pa_cons (pv 1) (pa_cons (pe_bltn (v := .ty "str") (by rfl) T.m_str (by decide +kernel) rfl) pa_nil))) (nomark _)) (pe_one (pe_cmpR op_eq (pv 0) (pv 1) (nomark _))))))) pss_nil)
      (pss_cons (ps_if (PW.pt (pw_or (pt_cmpR op_ne (pe_callB (call_isiK' (K := K)) (by rfl) T.m_isinstance (by decide +kernel) (pa_cons (pv 1) (pa_cons (pe_bltn (v := .ty "list") (by rfl) T.m_list (by decide +kernel) rfl) pa_nil))) (pe_callB (call_isiK' (K := K)) (by rfl) T.m_isinstance (by decide +kernel) (pa_cons (pv 0) (pa_cons (pe_bltn (v := .ty "list") (by rfl) T.m_list (by decide +kernel) rfl) pa_nil))) (nomark _)) (pw_or1 (pt_cmpR op_ne (pe_callB (call_isiK' (K := K)) (by rfl) T.m_isinstance (by decide +kernel) (pa_cons (pv 1) (pa_cons (pe_bltn (v := .ty "tuple") (by rfl) T.m_tuple (by decide +kernel) rfl) pa_nil))) (pe_callB (call_isiK' (K := K)) (by rfl) T.m_isinstance (by decide +kernel) (pa_cons (pv 0) (pa_cons (pe_bltn (v := .ty "tuple") (by rfl) T.m_tuple (by decide +kernel) rfl) pa_nil))) (nomark _))))) (pss_one (ps_ret pe_bl)) pss_nil)
      (pss_one (ps_ret (pe_and (pe_cmpR op_eq (pe_callB (call_len_seqK (K := K)) (by rfl) T.m_len PySem.boot_len (pa_cons (pv 0) pa_nil)) (pe_callB (call_len_seqK (K := K)) (by rfl) T.m_len PySem.boot_len (pa_cons (pv 1) pa_nil)) (nomark _)) (pe_one (pe_callB (cr_allK (K := K) rfl) (by rfl) T.m_all (by decide +kernel) (pa_cons (pe_lc (own := [("_law_one", 2), ("_law_two", 3)]) (g := gTup K 2 (gCons (gName 2) (gCons (gName 3) gNil))) (by rfl) sc__law_same.nd (RZ.pi_zipA (by rfl) T.m_zip (pa_cons (pv 0) (pa_cons (pv 1) pa_nil))) (blkOk_by (own := [("_law_one", 2), ("_law_two", 3)]) (N := N__law_same) (sc := defScope s__law_same) (by decide +kernel)) (fun _ _ _ _ _ => pg_tup rfl (pgs_cons (pg_name (i := 2) sc__law_same.nd rfl (.inl rfl)) (pgs_cons (pg_name (i := 3) sc__law_same.nd rfl (.inl rfl)) pgs_nil))) (fun _ _ _ _ _ => pts_nil) (fun _ _ _ _ _ => (pe_call G__law_same hr__law_same (by rfl) g__law_same F__law_same.kp b__law_same .nil pass0 (pa_cons (pv 2) (pa_cons (pv 3) pa_nil))))) pa_nil)))))))))), ?_⟩
  have hxx := hx
  have hyy := hy
  have qq := q H (Same.refl _)
  rcases deep_cases d with ⟨ds, rfl⟩ | ⟨ds, rfl⟩ | ⟨ds, rfl⟩ | rfl | ⟨b, rfl⟩ | ⟨i, rfl⟩ | ⟨z, rfl⟩
  · cases hx with
    | @lst a xs _ h1 t1 =>
      cases hy with
      | @lst a2 ys _ h2 t2 =>
        have l1 := dpa_len t1
        have l2 := dpa_len t2
        refine ⟨_, rfl, rfl, _, rfl, ifF (fun z => nomatch z) ?_⟩
        refine ⟨_, rfl, _, _, _, _, _, rfl, .ty _, ty_of hyy, kit_ty kit_list_bool, ⟨_, rfl, iteF ⟨_, rfl, _, _, _, _, _, rfl, .ty _, ty_of hxx, kit_ty kit_list_bool, ⟨_, rfl, iteF ?_⟩⟩⟩⟩
        refine ⟨_, rfl, _, _, _, _, _, rfl, .ty _, ty_of hyy, kit_ty kit_list_int, ⟨_, rfl, iteF ⟨_, rfl, _, _, _, _, _, rfl, .ty _, ty_of hyy, kit_ty kit_list_str, ⟨_, rfl, iteF ?_⟩⟩⟩⟩
        refine ⟨_, rfl, _, _, _, _, _, rfl, .ty _, ty_of hyy, kit_ty kit_list_list, ⟨_, rfl, _, _, _, _, _, rfl, .ty _, ty_of hxx, kit_ty kit_list_list, ⟨rfl, _, rfl, iteF ⟨_, rfl, _, _, _, _, _, rfl, .ty _, ty_of hyy, kit_ty kit_list_tuple, ⟨_, rfl, _, _, _, _, _, rfl, .ty _, ty_of hxx, kit_ty kit_list_tuple, ⟨rfl, _, rfl, iteF ?_⟩⟩⟩⟩⟩⟩
        refine ⟨_, rfl, a, xs, rfl, .inl h1, _, rfl, a2, ys, rfl, .inl h2, rfl, _, rfl, ifT (by rw [l1, l2]) ?_⟩
        refine ⟨_, rfl, _, rfl, a, a2, xs, ys, rfl, .inl ⟨h1, h2, fun D hD => ?_⟩⟩
        refine lc_val (n := ds.length) (walk_zip (xs := xs) (ys := ys) (by rw [l1, l2]; simp)) hD (fun _ => .bl true) (fun H' s' => ⟨s'.seq h1, s'.seq h2⟩) (Nat.lt_trans (deep_list hd).1 (by decide)) (fun i x H1 H' Qe Z hi sm hq hy => ?_) (fun H1 sm hL => ?_)
        · obtain ⟨p, u, v, rfl, np, rfl, e1, e2⟩ := hy
          obtain ⟨d1, g1, k1⟩ := dpa_get t1 e1
          obtain ⟨d2, g2, k2⟩ := dpa_get t2 e2
          have ed : d1 = d2 := Option.some.inj (g1.symm.trans g2)
          subst ed
          have s1 := same_new (o := .tup [u, v]) np
          refine ⟨p, [u, v], rfl, .inl (.inl upd_same), rfl, u, [v], rfl, v, [], rfl, rfl, rfl, yes ?_⟩
          exact ⟨_, rfl, _, rfl, u, v, d1, rfl, dp_mono (sm.trans s1) k1, dp_mono (sm.trans s1) k2, deep_get (deep_list hd).2 g1, fun H4 s4 => hq H4 (s1.trans s4)⟩
        · exact ⟨D, List.replicate ds.length true, rfl, .inl (.inl (by rw [hL, all_true.1])), by rw [all_true.2]; exact q H1 sm⟩
  · cases hx with
    | @tup a xs _ h1 t1 =>
      cases hy with
      | @tup a2 ys _ h2 t2 =>
        have l1 := dpa_len t1
        have l2 := dpa_len t2
        refine ⟨_, rfl, rfl, _, rfl, ifF (fun z => nomatch z) ?_⟩
        refine ⟨_, rfl, _, _, _, _, _, rfl, .ty _, ty_of hyy, kit_ty kit_tuple_bool, ⟨_, rfl, iteF ⟨_, rfl, _, _, _, _, _, rfl, .ty _, ty_of hxx, kit_ty kit_tuple_bool, ⟨_, rfl, iteF ?_⟩⟩⟩⟩
        refine ⟨_, rfl, _, _, _, _, _, rfl, .ty _, ty_of hyy, kit_ty kit_tuple_int, ⟨_, rfl, iteF ⟨_, rfl, _, _, _, _, _, rfl, .ty _, ty_of hyy, kit_ty kit_tuple_str, ⟨_, rfl, iteF ?_⟩⟩⟩⟩
        refine ⟨_, rfl, _, _, _, _, _, rfl, .ty _, ty_of hyy, kit_ty kit_tuple_list, ⟨_, rfl, _, _, _, _, _, rfl, .ty _, ty_of hxx, kit_ty kit_tuple_list, ⟨rfl, _, rfl, iteF ⟨_, rfl, _, _, _, _, _, rfl, .ty _, ty_of hyy, kit_ty kit_tuple_tuple, ⟨_, rfl, _, _, _, _, _, rfl, .ty _, ty_of hxx, kit_ty kit_tuple_tuple, ⟨rfl, _, rfl, iteF ?_⟩⟩⟩⟩⟩⟩
        refine ⟨_, rfl, a, xs, rfl, .inr h1, _, rfl, a2, ys, rfl, .inr h2, rfl, _, rfl, ifT (by rw [l1, l2]) ?_⟩
        refine ⟨_, rfl, _, rfl, a, a2, xs, ys, rfl, .inr ⟨h1, h2, fun D hD => ?_⟩⟩
        refine lc_val (n := ds.length) (walk_zipT (xs := xs) (ys := ys) l1 l2) hD (fun _ => .bl true) (fun H' s' => ⟨Same.seqT s' h1, Same.seqT s' h2⟩) (Nat.lt_trans (deep_tuple hd).1 (by decide)) (fun i x H1 H' Qe Z hi sm hq hy => ?_) (fun H1 sm hL => ?_)
        · obtain ⟨p, u, v, rfl, np, rfl, e1, e2⟩ := hy
          obtain ⟨d1, g1, k1⟩ := dpa_get t1 e1
          obtain ⟨d2, g2, k2⟩ := dpa_get t2 e2
          have ed : d1 = d2 := Option.some.inj (g1.symm.trans g2)
          subst ed
          have s1 := same_new (o := .tup [u, v]) np
          refine ⟨p, [u, v], rfl, .inl (.inl upd_same), rfl, u, [v], rfl, v, [], rfl, rfl, rfl, yes ?_⟩
          exact ⟨_, rfl, _, rfl, u, v, d1, rfl, dp_mono (sm.trans s1) k1, dp_mono (sm.trans s1) k2, deep_get (deep_tuple hd).2 g1, fun H4 s4 => hq H4 (s1.trans s4)⟩
        · exact ⟨D, List.replicate ds.length true, rfl, .inl (.inl (by rw [hL, all_true.1])), by rw [all_true.2]; exact q H1 sm⟩
  · cases hx
  · cases hx
    cases hy
    exact ⟨_, rfl, rfl, _, rfl, ifT rfl ⟨_, rfl, rfl, qq⟩⟩
  · cases hx
    cases hy
    refine ⟨_, rfl, rfl, _, rfl, ifF (fun z => nomatch z) ?_⟩
    refine ⟨_, rfl, _, _, _, _, _, rfl, .ty _, ty_of hyy, kit_ty kit_bool_bool, ⟨_, rfl, iteT ?_⟩⟩
    refine iteT ⟨_, rfl, _, _, _, _, _, rfl, .ty _, ty_of hyy, kit_ty kit_bool_bool, ⟨_, rfl, iteT ⟨_, rfl, _, _, _, _, _, rfl, .ty _, ty_of hxx, kit_ty kit_bool_bool, ⟨_, rfl, iteT ⟨_, rfl, _, rfl, rfl, ?_⟩⟩⟩⟩⟩
    rw [decide_eq_true rfl]
    exact qq
  · cases hx
    cases hy
    refine ⟨_, rfl, rfl, _, rfl, ifF (fun z => nomatch z) ?_⟩
    refine ⟨_, rfl, _, _, _, _, _, rfl, .ty _, ty_of hyy, kit_ty kit_int_bool, ⟨_, rfl, iteF ⟨_, rfl, _, _, _, _, _, rfl, .ty _, ty_of hxx, kit_ty kit_int_bool, ⟨_, rfl, iteF ?_⟩⟩⟩⟩
    refine ⟨_, rfl, _, _, _, _, _, rfl, .ty _, ty_of hyy, kit_ty kit_int_int, ⟨_, rfl, iteT ?_⟩⟩
    refine iteT ⟨_, rfl, _, _, _, _, _, rfl, .ty _, ty_of hxx, kit_ty kit_int_int, ⟨_, rfl, _, _, _, _, _, rfl, .ty _, ty_of hyy, kit_ty kit_int_int, ⟨rfl, _, rfl, ifT rfl ⟨_, rfl, _, _, _, _, _, rfl, .ty _, ty_of hxx, kit_ty kit_int_str, ⟨_, rfl, _, _, _, _, _, rfl, .ty _, ty_of hyy, kit_ty kit_int_str, ⟨rfl, _, rfl, ifT rfl ⟨_, rfl, _, rfl, rfl, ?_⟩⟩⟩⟩⟩⟩⟩
    rw [decide_eq_true rfl]
    exact qq
  · cases hx
    cases hy
    refine ⟨_, rfl, rfl, _, rfl, ifF (fun z => nomatch z) ?_⟩
    refine ⟨_, rfl, _, _, _, _, _, rfl, .ty _, ty_of hyy, kit_ty kit_str_bool, ⟨_, rfl, iteF ⟨_, rfl, _, _, _, _, _, rfl, .ty _, ty_of hxx, kit_ty kit_str_bool, ⟨_, rfl, iteF ?_⟩⟩⟩⟩
    refine ⟨_, rfl, _, _, _, _, _, rfl, .ty _, ty_of hyy, kit_ty kit_str_int, ⟨_, rfl, iteF ⟨_, rfl, _, _, _, _, _, rfl, .ty _, ty_of hyy, kit_ty kit_str_str, ⟨_, rfl, ?_⟩⟩⟩⟩
    refine iteT ⟨_, rfl, _, _, _, _, _, rfl, .ty _, ty_of hxx, kit_ty kit_str_int, ⟨_, rfl, _, _, _, _, _, rfl, .ty _, ty_of hyy, kit_ty kit_str_int, ⟨rfl, _, rfl, ifT rfl ⟨_, rfl, _, _, _, _, _, rfl, .ty _, ty_of hxx, kit_ty kit_str_str, ⟨_, rfl, _, _, _, _, _, rfl, .ty _, ty_of hyy, kit_ty kit_str_str, ⟨rfl, _, rfl, ifT rfl ⟨_, rfl, _, rfl, rfl, ?_⟩⟩⟩⟩⟩⟩⟩
    rw [decide_eq_true rfl]
    exact qq
theorem ok__law_same (T : Txt K mg) {f : Addr} {fd : FuncData} (F : Fun K "_law_same" "_law_same" s__law_same f fd) (b : Binds K fd ["_law_found", "_law_due"] []) (g : mg "_law_same" = some (.ref f)) : ∀ n, FnOk P w K mg base CX0 n f fd ["_law_found", "_law_due"] (sp_same K n)
  | 0 => by
    have no : ∀ vs H Q E, ¬ sp_same K 0 vs H Q E := fun vs H Q E h => by
      obtain ⟨x, y, d, _, _, _, hd, _⟩ := h
      rw [deep_zero] at hd
      cases hd
    exact ⟨fun vs H Q E h => absurd h (no vs H Q E), fun A outer s H args us vs Q E _ _ _ _ h => absurd h (no vs H Q E)⟩
  | n + 1 => ok__law_same_step T F (ok__law_same T F b g n) b g
def sp_lreq (K : PySem.W.Frag) : Sp := fun vs H Q _ => ∃ (v : V) (fs : List Fld) (n : Nat), vs = [v, .int n] ∧ Dp K H v (fldsD fs) ∧ (∀ f ∈ fs, 1 ≤ f.2.length ∧ f.2.length ≤ 3) ∧ fs.length ≤ 5 ∧ n ≤ 1000 ∧
  ∀ (a : Addr) (H' : Hp), Same H H' → H a = none → H' a = some (.tup ((req fs n).map V.str)) → Q (.ref a) H'
theorem ok__law_request {f : Addr} {fd : FuncData} (T : Txt K mg) (F : Fun K "_law_request" "_law_request" s__law_request f fd) : FnOk P w K mg base CX0 1 f fd ["_law_fields_here", "_law_number_z"] (sp_lreq K) := by
  refine F.ok sc__law_request (fun vs H Q E h => ?_) (fun cdv A outer s H vs Q E hr h => ?_)
  · obtain ⟨v, fs, n, rfl, _⟩ := h
    rfl
  obtain ⟨v, fs, n, rfl, hv, hf, hl5, hn, q⟩ := h
  refine ⟨_, (pss_cons (ps_set (i := 2) sc__law_request.nd rfl (.inl rfl) (pe_lst pa_nil))
      (pss_cons (ps_for PassesOwn.never rfl (pi_listK (K := K) (pe_revLK (K := K) (pv 0))) (pg_tup rfl (pgs_cons (pg_name (i := 3) sc__law_request.nd rfl (.inl rfl)) (pgs_cons (pg_name (i := 4) sc__law_request.nd rfl (.inl rfl)) pgs_nil))) (pss_cons (ps_expr (pe_bm PySem.F.plainAttrs_list PySem.F.slot_list_append PySem.F.type_list_append mt_append (pv 2) (pa_cons (pe_ix (ix_listK (K := K)) (pv 4) (pe_op op_modN (pv 1) (pe_callB (call_len_seqK (K := K)) (by rfl) T.m_len PySem.boot_len (pa_cons (pv 4) pa_nil))) (fun _ _ => rfl)) pa_nil)))
      (pss_one (ps_set (i := 1) sc__law_request.nd rfl (.inl rfl) (pe_op op_fdivN (pv 1) (pe_callB (call_len_seqK (K := K)) (by rfl) T.m_len PySem.boot_len (pa_cons (pv 4) pa_nil)))))))
      (pss_one (ps_ret (pe_callTy (call_tuple_ofK (K := K)) (by rfl) T.m_tuple (by decide +kernel) (pa_cons (pe_revLK (K := K) (pv 2)) pa_nil)))))), ?_⟩
  cases hv with
  | lst hs ht =>
    rename_i a xs
    have hxl := dpa_len' ht
    refine ⟨Nat.zero_le _, fun D hD => ?_⟩
    have s0 := same_new (o := .lst []) hD
    refine ⟨_, rfl, a, xs, rfl, s0.seq hs, fun r hr' => ⟨r, rfl, ⟨_, SqL.of upd_same⟩, ?_⟩⟩
    have s1 := same_new (o := .lst xs.reverse) hr'
    have hr1 := upd_same (H := upd H D (.lst [])) (a := r) (o := .lst xs.reverse)
    have nrD : r ≠ D := fun z => by rw [z, upd_same] at hr'; cases hr'
    have hD1 : (upd (upd H D (.lst [])) r (.lst xs.reverse)) D = some (.lst []) := by rw [upd_ne nrD.symm, upd_same]
    have s01 := s0.trans s1
    generalize upd (upd H D (.lst [])) r (.lst xs.reverse) = H1 at *
    have hrl : xs.reverse.length = fs.length := by rw [List.length_reverse]; omega
    refine for_it (walk_list (xs := xs.reverse)) (fun i σ H' => ∃ x3 x4 : Option V, σ = [some (.ref a), some (.int (left (fs.reverse.take i) n)), some (.ref D), x3, x4] ∧ Same H H' ∧ H' r = some (.lst xs.reverse) ∧ H' D = some (.lst ((digs (fs.reverse.take i) n).map V.str)) ∧ left (fs.reverse.take i) n ≤ 1000)
      ⟨none, none, rfl, s01, hr1, hD1, hn⟩ (fun i σ H' _ ⟨_, _, _, _, h, _⟩ => SqL.of h) (fun i x σ H2 H3 hi hI hy => ?_) (fun σ H2 hI => ?_)
    · obtain ⟨x3, x4, rfl, sm, hr2, hD2, hle⟩ := hI
      obtain ⟨rfl, hx⟩ := hy
      have hil : i < fs.length := by omega
      have hil' : i < fs.reverse.length := by rw [List.length_reverse]; exact hil
      have hfi := List.getElem?_eq_getElem hil'
      generalize fs.reverse[i] = fl at hfi
      have hfm := hf fl (List.mem_reverse.mp (List.mem_of_getElem? hfi))
      have hdd : DpAll K H xs.reverse (fs.reverse.map fldD) := by
        refine dpa_of (by rw [List.length_map, List.length_reverse, List.length_reverse]; exact hxl) fun j y d hy hd => ?_
        have hj : j < xs.length := by
          have := (List.getElem?_eq_some_iff.mp hy).1
          rw [List.length_reverse] at this
          exact this
        rw [List.getElem?_reverse hj] at hy
        rw [List.getElem?_map, List.getElem?_reverse (by omega)] at hd
        obtain ⟨d', h1, h2⟩ := dpa_get ht hy
        rw [List.getElem?_map, hxl, hd] at h1
        cases h1
        exact h2
      obtain ⟨t, m, rfl, h1, h2⟩ := fld_open (dpa_get' hdd hx hfi)
      have hlen : (fl.2.map V.str).length = fl.2.length := List.length_map _
      refine ⟨t, _, rfl, Same.seqT sm h1, rfl, _, _, rfl, _, _, rfl, rfl, ?_⟩
      refine ⟨_, rfl, .inl ⟨rfl, _, SqL.of hD2⟩, _, rfl, _, rfl, _, rfl, m, _, rfl, .inl (sm.seq h2), _, _, rfl, rfl, by rw [hlen]; omega, m, _, _, .str (fl.2.getD (left (fs.reverse.take i) n % fl.2.length) ""), rfl, rfl, sm.seq h2, at_dig hfm.1, D, _, _, rfl, rfl, hD2, szt (by rw [List.length_map, digs_len, List.length_take]; omega), ?_⟩
      have sm4 : ∀ o, Same H (upd H3 D o) := fun o b' u e => by
        rw [upd_ne (ne_of_none e hD)]
        exact sm _ _ e
      refine ⟨_, rfl, _, rfl, m, _, rfl, .inl ((sm4 _).seq h2), _, _, rfl, rfl, ⟨by rw [hlen]; omega, by rw [hlen]; omega⟩, some (.str fl.1), some (.ref m), ?_, sm4 _, ?_, ?_, ?_⟩
      · have e : Int.fdiv ((left (fs.reverse.take i) n : Nat) : Int) ((fl.2.map V.str).length : Int) = ((left (fs.reverse.take (i + 1)) n : Nat) : Int) := by
          rw [take_step hfi, left_snoc, hlen, Int.natCast_ediv, Int.fdiv_eq_ediv_of_nonneg _ (by omega)]
        rw [← e]
        rfl
      · rw [upd_ne nrD]; exact hr2
      · rw [upd_same, take_step hfi, digs_snoc, List.map_append]
        rfl
      · rw [take_step hfi, left_snoc]
        exact Nat.le_trans (Nat.div_le_self _ _) hle
    · obtain ⟨x3, x4, rfl, sm, hr2, hD2, hle⟩ := hI
      rw [hrl, ← List.length_reverse (as := fs), List.take_length] at hD2
      refine ⟨_, rfl, D, _, rfl, SqL.of hD2, fun l hl => ⟨l, _, rfl, .inl ⟨SqL.of upd_same, fun t ht => ?_⟩⟩⟩
      have sA := sm.trans ((same_new (o := .lst ((digs fs.reverse n).map V.str).reverse) hl).trans (same_new (o := .tup ((digs fs.reverse n).map V.str).reverse) ht))
      refine q t _ sA (sm.free ((same_new hl).free ht)) ?_
      rw [upd_same]
      unfold req
      rw [List.map_reverse]
def sp_mix (K : PySem.W.Frag) : Sp := fun vs H Q _ => ∃ (b l a : Addr) (xs : List V) (S : List Addr), vs = [.ref b, .ref a] ∧ Bag H b l ∧ b ∈ S ∧ Tr H S ∧ SqL K (dl H S) a xs ∧ xs.length ≤ 1000 ∧ ∀ (p : Addr) (ys : List V) (H' : Hp), Bx b l H H' → H p = none → H' p = some (.lst ys) → ys.Perm xs → Q (.ref p) H'
theorem ok__law_mixed {f : Addr} {fd : FuncData} (T : Txt K mg) (F : Fun K "_law_mixed" "_law_mixed" s__law_mixed f fd) : FnOk P w K mg base CX0 2 f fd ["_law_bag_here", "_law_some"] (sp_mix K) := by
  obtain ⟨f__law_pull, fd__law_pull, F__law_pull, b__law_pull, g__law_pull⟩ := T.h__law_pull
  have G__law_pull := ok__law_pull (P := P) (w := w) (base := base) T F__law_pull
  refine F.ok sc__law_mixed (fun vs H Q E h => ?_) (fun cdv A outer s H vs Q E hr h => ?_)
  · obtain ⟨b, l, a, xs, S, rfl, _⟩ := h
    rfl
  obtain ⟨b, l, a, xs, S, rfl, hb, hbS, tr, ha, hl, q⟩ := h
  have hr__law_pull : Room 1 _ := hr
  refine ⟨_, (pss_cons (ps_set (i := 2) sc__law_mixed.nd rfl (.inl rfl) (pe_lst pa_nil))
      (pss_cons (ps_for PassesOwn.never rfl (pi_listK (K := K) (pv 1)) (pg_name (i := 3) sc__law_mixed.nd rfl (.inl rfl)) (pss_one (ps_expr (pe_bm PySem.F.plainAttrs_list PySem.F.slot_list_insert PySem.F.type_list_insert mt_insert (pv 2) (pa_cons (pe_call G__law_pull hr__law_pull (by rfl) g__law_pull F__law_pull.kp b__law_pull .nil pass0 (pa_cons (pv 0) (pa_cons (pe_op op_add (pe_callB (call_len_seqK (K := K)) (by rfl) T.m_len PySem.boot_len (pa_cons (pv 2) pa_nil)) pe_int) pa_nil))) (pa_cons (pv 3) pa_nil))))))
      (pss_one (ps_ret (pv 2))))), ?_⟩
  refine ⟨Nat.zero_le _, fun D hD => ?_⟩
  have bx0 := Bx.new (o := .lst []) hb hD
  have dB : D ≠ b := hb.ne_new hD
  have nL : D ≠ l := hb.ne_newl hD
  have hH : ∀ H', Bx b l H H' → SqL K H' a xs := fun H' bx => dl_le.seq ((bx.same hbS).seq ha)
  dsimp only [gName]
  refine ⟨_, rfl, a, rfl, ⟨_, hH _ bx0⟩, ?_⟩
  refine for_it (walk_list (xs := xs)) (fun i σ H' => ∃ x3 ys, σ = [some (.ref b), some (.ref a), some (.ref D), x3] ∧ Bx b l H H' ∧ H' D = some (.lst ys) ∧ ys.Perm (xs.take i)) ⟨none, [], rfl, bx0, upd_same, by rw [List.take_zero]⟩ (fun i σ H' _ ⟨_, _, _, h, _⟩ => hH _ h) (fun i x σ H2 H3 hi hI hy => ?_) (fun σ H2 hI => ?_)
  · obtain ⟨x3, ys, rfl, bx, hD2, hpm⟩ := hI
    obtain ⟨rfl, hx⟩ := hy
    have hyl : ys.length = i := by
      rw [hpm.length_eq, List.length_take]
      omega
    dsimp only [gName]
    refine ⟨_, rfl, .inl ⟨rfl, _, SqL.of hD2⟩, _, rfl, _, rfl, D, ys, rfl, .inl (SqL.of hD2), _, _, rfl, rfl, b, l, _, rfl, bx.bag, by omega, by omega, fun d H4 d0 d1 bx4 => ?_⟩
    have hD4 := bx4.keep D _ dB hD2
    refine ⟨_, rfl, D, ys, d, x, rfl, rfl, hD4, szt (by omega), by omega, by omega, _, _, rfl, ⟨?_, fun c o nc e => ?_⟩, upd_same, ?_⟩
    · exact bx4.bag.of (upd_ne dB.symm) (upd_ne nL.symm)
    · rw [upd_ne (ne_of_none e hD)]
      exact bx4.keep c o nc (bx.keep c o nc e)
    · rw [take_step hx]
      refine List.Perm.trans ?_ (hpm.append_right [x])
      rw [List.append_assoc]
      refine List.Perm.trans (List.Perm.append_left _ List.perm_append_comm) ?_
      rw [← List.append_assoc, List.take_append_drop]
  · obtain ⟨x3, ys, rfl, bx, hD2, hpm⟩ := hI
    rw [List.take_length] at hpm
    exact ⟨_, rfl, q D ys _ bx hD hD2 hpm⟩
end
end Hr

set_option Elab.async false
set_option linter.all false
set_option maxRecDepth 100000
set_option maxHeartbeats 4000000
namespace Hr
open PySem PySem.Spec PyProof.Rows L2
section
variable {P : Program} {w : World} {K : PySem.W.Frag} {mg : Str → Option Value} {base : Heap}
theorem tot_le : ∀ {fs : List Fld}, (∀ f ∈ fs, f.2.length ≤ 3) → tot fs ≤ 3 ^ fs.length
  | [], _ => Nat.le_refl _
  | f :: r, h => by
    show f.2.length * tot r ≤ 3 ^ (r.length + 1)
    rw [Nat.pow_succ, Nat.mul_comm]
    exact Nat.mul_le_mul (tot_le fun g hg => h g (List.mem_cons_of_mem _ hg)) (h f List.mem_cons_self)
theorem tot_small {fs : List Fld} (h : ∀ f ∈ fs, f.2.length ≤ 3) (hl : fs.length ≤ 5) : tot fs ≤ 243 := Nat.le_trans (tot_le h) (Nat.pow_le_pow_right (by decide) hl)
theorem req_snoc {l : List Fld} {f : Fld} {n : Nat} : req (l ++ [f]) n = req l (n / f.2.length) ++ [f.2.getD (n % f.2.length) ""] := by
  unfold req
  rw [List.reverse_append]
  show (digs (f :: l.reverse) n).reverse = _
  show (_ :: digs l.reverse (n / f.2.length)).reverse = _
  rw [List.reverse_cons]
theorem req_len {l : List Fld} {n : Nat} : (req l n).length = l.length := by
  unfold req
  rw [List.length_reverse, digs_len, List.length_reverse]
theorem dig_in {ms : List Str} (h : 1 ≤ ms.length) (n : Nat) : ms.getD (n % ms.length) "" ∈ ms ∧ (ms.Nodup → ms.idxOf (ms.getD (n % ms.length) "") = n % ms.length) := by
  have lt : n % ms.length < ms.length := Nat.mod_lt _ h
  have e := List.getElem?_eq_getElem lt
  rw [List.getD_eq_getElem?_getD, e]
  exact ⟨List.getElem_mem lt, fun nd => nd.idxOf_getElem _ lt⟩
theorem req_is : ∀ (l : List Fld), (∀ f ∈ l, 1 ≤ f.2.length) → ∀ n, isReq l.reverse (req l.reverse n)
  | [], _, n => ⟨rfl, fun i f s h => by simp at h⟩
  | f :: l, hf, n => by
    obtain ⟨h1, h2⟩ := req_is l (fun g hg => hf g (List.mem_cons_of_mem _ hg)) (n / f.2.length)
    have dg := (dig_in (hf f List.mem_cons_self) n).1
    rw [List.reverse_cons, req_snoc]
    refine ⟨by rw [List.length_append, List.length_append, h1]; rfl, fun i g s hg hs => ?_⟩
    rcases Nat.lt_or_ge i l.reverse.length with c | c
    · rw [List.getElem?_append_left c] at hg
      rw [List.getElem?_append_left (by rw [h1]; exact c)] at hs
      exact h2 i g s hg hs
    · have e0 : i = l.reverse.length := by
        have := (List.getElem?_eq_some_iff.mp hg).1
        rw [List.length_append, List.length_singleton] at this
        omega
      rw [List.getElem?_append_right c, e0, Nat.sub_self] at hg
      rw [List.getElem?_append_right (by rw [h1]; exact c), h1, e0, Nat.sub_self] at hs
      obtain rfl : f = g := Option.some.inj hg
      obtain rfl : _ = s := Option.some.inj hs
      exact dg
theorem num_req : ∀ (l : List Fld), (∀ f ∈ l, 1 ≤ f.2.length ∧ f.2.Nodup) → ∀ n, n < tot l.reverse → numOf l.reverse (req l.reverse n) 0 = n
  | [], _, n, h => by
    have h1 : n < 1 := h
    have : n = 0 := by omega
    subst this
    rfl
  | f :: l, hf, n, h => by
    obtain ⟨f1, f2⟩ := hf f List.mem_cons_self
    rw [List.reverse_cons, tot_snoc] at h
    have ih := num_req l (fun g hg => hf g (List.mem_cons_of_mem _ hg)) (n / f.2.length) (Nat.div_lt_of_lt_mul (by rw [Nat.mul_comm]; exact h))
    rw [List.reverse_cons, req_snoc, numOf_snoc _ _ _ _ _ (by rw [req_len]), ih, (dig_in f1 n).2 f2]
    have := Nat.div_add_mod n f.2.length
    rw [Nat.mul_comm] at this
    exact this
theorem fok_is {fs : List Fld} (h : FOk fs) (n : Nat) : isReq fs (req fs n) := by
  have z := req_is fs.reverse (fun f hf => (h.1 f (List.mem_reverse.mp hf)).2.2.2.2.1) n
  rwa [List.reverse_reverse] at z
theorem fok_num {fs : List Fld} (h : FOk fs) {n : Nat} (hn : n < tot fs) : numOf fs (req fs n) 0 = n := by
  have z := num_req fs.reverse (fun f hf => ⟨(h.1 f (List.mem_reverse.mp hf)).2.2.2.2.1, (h.1 f (List.mem_reverse.mp hf)).2.2.2.1.2⟩) n
  rw [List.reverse_reverse] at z
  exact z hn
theorem fok_nodup {fs : List Fld} (h : FOk fs) : ((List.range (tot fs)).map (req fs)).Nodup := by
  refine List.pairwise_map.mpr (List.Pairwise.imp_of_mem (fun {a b} ha hb hne e => hne ?_) List.nodup_range)
  have z := congrArg (fun r => numOf fs r 0) e
  have z' : numOf fs (req fs a) 0 = numOf fs (req fs b) 0 := z
  rwa [fok_num h (List.mem_range.mp ha), fok_num h (List.mem_range.mp hb)] at z'
theorem req_zero {fs : List Fld} : req fs 0 = fs.map fun f => f.2.getD 0 "" := by
  have z : ∀ l : List Fld, req l.reverse 0 = l.reverse.map fun f => f.2.getD 0 "" := fun l => by
    induction l with
    | nil => rfl
    | cons f l ih =>
      rw [List.reverse_cons, req_snoc, Nat.zero_div, Nat.zero_mod, ih, List.map_append]
      rfl
  have y := z fs.reverse
  rwa [List.reverse_reverse] at y
theorem tot_one {fs : List Fld} (h : ∀ f ∈ fs, 1 ≤ f.2.length) : 1 ≤ tot fs := by
  induction fs with
  | nil => exact Nat.le_refl 1
  | cons f r ih => exact Nat.mul_le_mul (h f List.mem_cons_self) (ih fun g hg => h g (List.mem_cons_of_mem _ hg))
end
end Hr

set_option Elab.async false
set_option linter.all false
set_option maxRecDepth 100000
set_option maxHeartbeats 4000000
namespace Hr
open PySem PySem.Spec PyProof.Rows L2
section
variable {P : Program} {w : World} {K : PySem.W.Frag} {mg : Str → Option Value} {base : Heap}
theorem rq_deep {fs : List Fld} {n : Nat} (h : FOk fs) (h5 : fs.length ≤ 5) (i : Nat) : deep (n + 2) (.tuple ((req fs i).map PyData.str)) = true := by
  refine deep_tuple_of (by rw [List.length_map, req_len]; omega) fun d hd => ?_
  obtain ⟨s, hs, rfl⟩ := List.mem_map.mp hd
  obtain ⟨j, hj⟩ := List.mem_iff_getElem?.mp hs
  obtain ⟨h1, h2⟩ := fok_is h i
  have jl : j < fs.length := by
    rw [← h1]
    exact (List.getElem?_eq_some_iff.mp hj).1
  have e := List.getElem?_eq_getElem jl
  have hm := h2 j _ s e hj
  exact deep_str (((h.1 _ (List.mem_of_getElem? e)).2.2.2.1.1 s hm).ok)
theorem setTx_on {H : Hp} {Q : VK} {a : Addr} {zs : List (Addr × List Str)} (h1 : SqL K H a (zs.map fun z => V.ref z.1)) (h2 : ∀ z, z ∈ zs → SqT K H z.1 (z.2.map V.str)) (h3 : (zs.map (·.2)).Nodup) (h4 : zs.length ≤ 243) (q : ∀ p : Addr, H p = none → Q (.ref p) (upd H p (SetNO p zs.length))) : rSetTx K [.ref a] H Q := by
  unfold rSetTx
  exact ⟨a, zs, rfl, h1, h2, h3, h4, q⟩
theorem ok_law {f : Addr} {fd : FuncData} (T : Txt K mg) (F : Fun K "law" "law" s_law f fd) : FnOk P w K mg base CX0 60 f fd ["_law_script"] (sp_law K) := by
  obtain ⟨f__law_bag, fd__law_bag, F__law_bag, b__law_bag, g__law_bag⟩ := T.h__law_bag
  obtain ⟨f__law_fields, fd__law_fields, F__law_fields, b__law_fields, g__law_fields⟩ := T.h__law_fields
  obtain ⟨f__law_schema, fd__law_schema, F__law_schema, b__law_schema, g__law_schema⟩ := T.h__law_schema
  obtain ⟨f__law_size, fd__law_size, F__law_size, b__law_size, g__law_size⟩ := T.h__law_size
  obtain ⟨f_Schema_request_of, fd_Schema_request_of, F_Schema_request_of, b_Schema_request_of, m_Schema_request_of, kb_Schema_request_of⟩ := T.h_Schema_request_of
  obtain ⟨f__law_same, fd__law_same, F__law_same, b__law_same, g__law_same⟩ := T.h__law_same
  obtain ⟨f__law_request, fd__law_request, F__law_request, b__law_request, g__law_request⟩ := T.h__law_request
  obtain ⟨f_Schema_number_of, fd_Schema_number_of, F_Schema_number_of, b_Schema_number_of, m_Schema_number_of, kb_Schema_number_of⟩ := T.h_Schema_number_of
  obtain ⟨f__law_mixed, fd__law_mixed, F__law_mixed, b__law_mixed, g__law_mixed⟩ := T.h__law_mixed
  have G__law_bag := ok__law_bag (P := P) (w := w) (base := base) T F__law_bag
  have G__law_fields := ok__law_fields (P := P) (w := w) (base := base) T F__law_fields
  have G__law_schema := ok__law_schema (P := P) (w := w) (base := base) T F__law_schema
  have G__law_size := ok__law_size (P := P) (w := w) (base := base) T F__law_size
  have G__law_request := ok__law_request (P := P) (w := w) (base := base) T F__law_request
  have G__law_mixed := ok__law_mixed (P := P) (w := w) (base := base) T F__law_mixed
  have G__law_same := ok__law_same (P := P) (w := w) (base := base) T F__law_same b__law_same g__law_same 4
  have G_Schema_request_of := ok_Schema_request_of (P := P) (w := w) (base := base) T F_Schema_request_of
  have G_Schema_number_of := ok_Schema_number_of (P := P) (w := w) (base := base) T F_Schema_number_of
  refine F.ok sc_law (fun vs H Q E h => ?_) (fun cdv A outer s H vs Q E hr h => ?_)
  · obtain ⟨a, ns, rfl, _⟩ := h
    rfl
  obtain ⟨a, ns, rfl, hS, hn, q⟩ := h
  have hr__law_bag : Room 1 _ := hr.mono (by decide)
  have hr__law_fields : Room 4 _ := hr.mono (by decide)
  have hr__law_schema : Room 7 _ := hr.mono (by decide)
  have hr__law_size : Room 1 _ := hr.mono (by decide)
  have hr__law_request : Room 1 _ := hr.mono (by decide)
  have hr__law_mixed : Room 2 _ := hr.mono (by decide)
  have hr__law_same : Room 4 _ := hr.mono (by decide)
  have hr_Schema_request_of : Room 1 _ := hr.mono (by decide)
  have hr_Schema_number_of : Room 1 _ := hr.mono (by decide)
  refine ⟨_, (pss_cons (ps_set (i := 1) sc_law.nd rfl (.inl rfl) (pe_call G__law_bag hr__law_bag (by rfl) g__law_bag F__law_bag.kp b__law_bag .nil pass0 (pa_cons (pv 0) pa_nil)))
      (pss_cons (ps_set (i := 2) sc_law.nd rfl (.inl rfl) (pe_call G__law_fields hr__law_fields (by rfl) g__law_fields F__law_fields.kp b__law_fields .nil pass0 (pa_cons (pv 1) (pa_cons pe_int pa_nil))))
      (pss_cons (ps_asg (pe_tup (pa_cons (pe_call (FnOk.frame G__law_schema) hr__law_schema (by rfl) g__law_schema F__law_schema.kp b__law_schema .nil pass0 (pa_cons (pv 2) pa_nil)) (pa_cons (pe_call G__law_size hr__law_size (by rfl) g__law_size F__law_size.kp b__law_size .nil pass0 (pa_cons (pv 2) pa_nil)) (pa_cons (pe_lst pa_nil) pa_nil)))) (pg_tup rfl (pgs_cons (pg_name (i := 4) sc_law.nd rfl (.inr rfl)) (pgs_cons (pg_name (i := 5) sc_law.nd rfl (.inl rfl)) (pgs_cons (pg_name (i := 6) sc_law.nd rfl (.inl rfl)) pgs_nil)))))
      (pss_cons (ps_for PassesOwn.never rfl (pi_range1 (by rfl) T.m_range (pa_cons (pv 5) pa_nil)) (pg_name (i := 3) sc_law.nd rfl (.inl rfl)) (pss_cons (ps_set (i := 7) sc_law.nd rfl (.inl rfl) (pe_meth (pv 4) T.k_Schema m_Schema_request_of G_Schema_request_of hr_Schema_request_of b_Schema_request_of .nil pass0 (pa_cons (pv 3) pa_nil)))
      (pss_cons (ps_if (pt_not (pt_val (pe_call G__law_same hr__law_same (by rfl) g__law_same F__law_same.kp b__law_same .nil pass0 (pa_cons (pv 7) (pa_cons (pe_call G__law_request hr__law_request (by rfl) g__law_request F__law_request.kp b__law_request .nil pass0 (pa_cons (pv 2) (pa_cons (pv 3) pa_nil))) pa_nil))))) (pss_one (ps_ret pe_bl)) pss_nil)
      (pss_cons (ps_if (pt_not (pt_val (pe_call G__law_same hr__law_same (by rfl) g__law_same F__law_same.kp b__law_same .nil pass0 (pa_cons (pe_lst (pa_cons (pe_meth (pv 4) T.k_Schema m_Schema_number_of G_Schema_number_of hr_Schema_number_of b_Schema_number_of .nil pass0 (pa_cons (pv 7) pa_nil)) (pa_cons (pe_methKw (pv 4) T.k_Schema m_Schema_number_of G_Schema_number_of hr_Schema_number_of kb_Schema_number_of pass0 (pk_cons (pv 7) pk_nil)) pa_nil))) (pa_cons (pe_lst (pa_cons (pv 3) (pa_cons (pv 3) pa_nil))) pa_nil))))) (pss_one (ps_ret pe_bl)) pss_nil)
      (pss_one (ps_expr (pe_bm PySem.F.plainAttrs_list PySem.F.slot_list_append PySem.F.type_list_append mt_append (pv 6) (pa_cons (pv 7) pa_nil))))))))
      (pss_cons (ps_if (PW.pt (pw_or (pt_cmpR op_ne (pe_callB cr_lenSet (by rfl) T.m_len PySem.boot_len (pa_cons (pe_callTy (cr_setTx rfl hr.units) (by rfl) T.m_set (by decide +kernel) (pa_cons (pv 6) pa_nil)) pa_nil)) (pv 5) (nomark _)) (pw_or1 (pt_not (pt_val (pe_call G__law_same hr__law_same (by rfl) g__law_same F__law_same.kp b__law_same .nil pass0 (pa_cons (pe_methKw (pv 4) T.k_Schema m_Schema_request_of G_Schema_request_of hr_Schema_request_of kb_Schema_request_of pass0 (pk_cons pe_int pk_nil)) (pa_cons (pe_callTy (call_tuple_ofK (K := K)) (by rfl) T.m_tuple (by decide +kernel) (pa_cons (pe_lc (own := [("_law_name", 8), ("_law_marks_here", 9)]) (g := gTup K 2 (gCons (gName 8) (gCons (gName 9) gNil))) (by rfl) sc_law.nd (pi_listK (K := K) (pv 2)) (blkOk_by (own := [("_law_name", 8), ("_law_marks_here", 9)]) (N := N_law) (sc := defScope s_law) (by decide +kernel)) (fun _ _ _ _ _ => pg_tup rfl (pgs_cons (pg_name (i := 8) sc_law.nd rfl (.inl rfl)) (pgs_cons (pg_name (i := 9) sc_law.nd rfl (.inl rfl)) pgs_nil))) (fun _ _ _ _ _ => pts_nil) (fun _ _ _ _ _ => (pe_ix (ix_listK (K := K)) (pv 9) pe_int (fun _ _ => rfl)))) pa_nil)) pa_nil)))))))) (pss_one (ps_ret pe_bl)) pss_nil)
      (pss_one (ps_ret (pe_cmpR (op_eqDK (K := K) hr.units) (pe_callB (cr_sortedAK (K := K)) (by rfl) T.m_sorted (by decide +kernel) (pa_cons (pe_lc (own := [("_law_request_z", 7)]) (g := gName 7) (by rfl) sc_law.nd (pi_listK (K := K) (pe_call G__law_mixed hr__law_mixed (by rfl) g__law_mixed F__law_mixed.kp b__law_mixed .nil pass0 (pa_cons (pv 1) (pa_cons (pv 6) pa_nil)))) (blkOk_by (own := [("_law_request_z", 7)]) (N := N_law) (sc := defScope s_law) (by decide +kernel)) (fun _ _ _ _ _ => pg_name (i := 7) sc_law.nd rfl (.inl rfl)) (fun _ _ _ _ _ => pts_nil) (fun _ _ _ _ _ => (pe_meth (pv 4) T.k_Schema m_Schema_number_of G_Schema_number_of hr_Schema_number_of b_Schema_number_of .nil pass0 (pa_cons (pv 7) pa_nil)))) pa_nil)) (pe_listRg rfl (by rfl) T.m_list (prg_1 (by rfl) T.m_range (pv 5))) (nomark _))))))))), ?_⟩
  refine ⟨_, rfl, a, ns, rfl, hS, hn, fun b l H1 hb _ _ => ?_⟩
  have hbS : b ∈ [b] := List.mem_cons_self
  dsimp only [gName]
  refine ⟨_, rfl, b, l, 5, [b], rfl, hb, hbS, Tr.one hb, by decide, by decide, fun fv fs H2 bx2 hfv hok hfl => ?_⟩
  have h3' : ∀ f ∈ fs, 1 ≤ f.2.length ∧ f.2.length ≤ 3 := fun f hf => ⟨(hok.1 f hf).2.2.2.2.1, (hok.1 f hf).2.2.2.2.2⟩
  have h3 : ∀ f ∈ fs, f.2.length ≤ 3 := fun f hf => (h3' f hf).2
  have hf5 : fs.length ≤ 5 := by omega
  have htot : tot fs ≤ 243 := tot_small h3 hf5
  have pos := tot_one fun f hf => (h3' f hf).1
  obtain ⟨fa, rfl⟩ : ∃ fa, fv = .ref fa := by
    cases hfv with
    | @lst fa fxs _ hfs hfall => exact ⟨fa, rfl⟩
  have hb2 := bx2.bag
  dsimp only [gName]
  refine ⟨_, rfl, [b], hb2.lists, .ref fa, fs, rfl, hfv, hok, hf5, by omega, fun p H3' s3' hS3' fr => ?_⟩
  have bx3 := Bx.back hb2 hbS s3'
  have hS3 : SchAt K (adr (mg "Schema")) (dl (bk H3' H2 [b]) [b]) p fs := by rw [dl_bk fr]; exact hS3'
  generalize bk H3' H2 [b] = H3 at *
  have hfv3 := dp_mono (bx3.same hbS) hfv
  have hb3 := bx3.bag
  clear hS3' s3' fr bx3 bx2 hfv hb2
  refine ⟨_, rfl, .ref fa, fs, rfl, dp_mono dl_le hfv3, h3, fun H4 s4 => ⟨Nat.zero_le _, fun D hD => ⟨by show 3 ≤ sizeLine; decide, fun t0 ht0 => ⟨t0, _, rfl, SqT.of upd_same, rfl, _, _, rfl, _, _, rfl, _, _, rfl, rfl, ?_⟩⟩⟩⟩
  have sD := same_new (o := .lst []) hD
  have sT := same_new (o := .tup [.ref p, .int (tot fs), .ref D]) ht0
  have hD5 := sT _ _ (upd_same (H := H4) (a := D) (o := .lst []))
  have nDb : D ≠ b := (hb3.ofSame s4).ne_new hD
  have nDl : D ≠ l := (hb3.ofSame s4).ne_newl hD
  have toS : Same (dl H3 [b]) (dl (upd (upd H4 D (.lst [])) t0 (.tup [.ref p, .int (tot fs), .ref D])) [b, D]) := fun c o e => by
    have nb : c ≠ b := fun z => by
      rw [z, dl_at List.mem_cons_self] at e
      cases e
    have e3 := dl_le _ _ e
    have nD : c ≠ D := ne_of_none (s4 _ _ e3) hD
    rw [dl_ne (by simp [nb, nD])]
    exact sT _ _ (sD _ _ (s4 _ _ e3))
  have hb5 := ((hb3.ofSame s4).ofSame sD).ofSame sT
  have hfv5 := dp_mono toS hfv3
  have hS5 := hS3.same toS
  generalize upd (upd H4 D (.lst [])) t0 (.tup [.ref p, .int (tot fs), .ref D]) = H5 at *
  clear toS sT sD hS3 hfv3 hb3 ht0
  dsimp only [gName]
  refine st_is [some (.ref a), some (.ref b), some (.ref fa), none, some (.ref p), some (.int (tot fs)), some (.ref D), none, none, none] rfl ?_
  refine ⟨_, rfl, tot fs, rfl, by omega, by omega, ?_⟩
  refine for_it (walk_range (lo := 0) (n := ((tot fs : Int)).toNat)) (fun i σ H' => ∃ (zs : List (Addr × List Str)) (x3 x7 : Option V), σ = [some (.ref a), some (.ref b), some (.ref fa), x3, some (.ref p), some (.int (tot fs)), some (.ref D), x7, none, none] ∧ Bag H' b l ∧ Dp K (dl H' [b, D]) (.ref fa) (fldsD fs) ∧ SchAt K (adr (mg "Schema")) (dl H' [b, D]) p fs ∧
    H' D = some (.lst (zs.map fun z => V.ref z.1)) ∧ (∀ z, z ∈ zs → H' z.1 = some (.tup (z.2.map V.str))) ∧ zs.map (·.2) = (List.range i).map (req fs)) ⟨[], none, none, rfl, hb5, hfv5, hS5, hD5, fun z hz => absurd hz List.not_mem_nil, rfl⟩ (fun _ _ _ _ _ => trivial) (fun i x σ H6 H6' hi hI hy => ?_) (fun σ H6 hI => ?_)
  · obtain ⟨zs, x3, x7, rfl, hb6, hfv6, hS6, hD6, hz6, hk6⟩ := hI
    obtain ⟨rfl, rfl⟩ := hy
    have hil : i < tot fs := by omega
    dsimp only [gName]
    rw [Int.zero_add]
    have hS6' := hS6.same dl_le
    obtain ⟨dx, la, ca, hp, _, _⟩ := hS6'.ob
    refine ⟨_, rfl, p, dx, _, rfl, hp, sch_no _ _ _ (by decide +kernel) (by decide +kernel) (by decide +kernel), _, rfl, p, fs, i, rfl, hS6', h3', hf5, hil, fun r H7 s7 hr0 hr7 => ?_⟩
    dsimp only [gName]
    have htk : ∀ {H8 : Hp}, Same H7 H8 → SqT K H8 r ((req fs i).map V.str) := fun s => SqT.of (s _ _ hr7)
    have okd := rq_deep (n := 2) hok hf5 i
    refine ⟨_, rfl, _, rfl, _, rfl, .ref fa, fs, i, rfl, dp_mono (dl_le.trans s7) hfv6, h3', hf5, by omega, fun r2 H8 s8 hr20 hr28 => ?_⟩
    refine ⟨_, _, .tuple ((req fs i).map PyData.str), rfl, .tup (htk s8) (dpa_strs _), .tup (SqT.of hr28) (dpa_strs _), okd, fun H9 s9 => ⟨_, rfl, iteF ?_⟩⟩
    dsimp only [tNext]
    have s79 := s8.trans s9
    have s69 := s7.trans s79
    have hS9 := hS6'.same s69
    have hp9 := s69 _ _ hp
    refine ⟨_, rfl, p, dx, _, rfl, hp9, sch_no _ _ _ (by decide +kernel) (by decide +kernel) (by decide +kernel), _, rfl, p, r, fs, req fs i, rfl, hS9, htk s79, fok_is hok i, hf5, by omega, h3', fun HA sA => ?_⟩
    refine ⟨_, rfl, p, dx, _, rfl, sA _ _ hp9, sch_no _ _ _ (by decide +kernel) (by decide +kernel) (by decide +kernel), _, rfl, rfl, p, r, fs, req fs i, rfl, hS9.same sA, htk (s79.trans sA), fok_is hok i, hf5, by omega, h3', fun HB sB => ?_⟩
    rw [fok_num hok hil]
    refine ⟨by show 2 ≤ sizeLine; decide, fun p1 hp1 => ⟨_, rfl, _, rfl, by show 2 ≤ sizeLine; decide, fun p2 hp2 => ?_⟩⟩
    have k1 := same_new (o := .lst [.int (i : Nat), .int (i : Nat)]) hp1
    have k2 := same_new (o := .lst [.int (i : Nat), .int (i : Nat)]) hp2
    have dd : deep 4 (.list [.int (i : Nat), .int (i : Nat)]) = true := deep_list_of (n := 3) (by show 2 < 50000; decide) fun d hd => by
      simp only [List.mem_cons, List.not_mem_nil, or_false] at hd
      rcases hd with rfl | rfl <;> exact deep_int
    refine ⟨_, _, .list [.int (i : Nat), .int (i : Nat)], rfl, .lst (SqL.of (k2 _ _ upd_same)) (.cons (.int _) (.cons (.int _) .nil)), .lst (SqL.of upd_same) (.cons (.int _) (.cons (.int _) .nil)), dd, fun HC sC => ⟨_, rfl, iteF ?_⟩⟩
    dsimp only [tNext]
    have s7C := (s79.trans (sA.trans sB)).trans ((k1.trans k2).trans sC)
    have s6C := s7.trans s7C
    have hDC := s6C _ _ hD6
    have hrC := s7C _ _ hr7
    have nrD : r ≠ D := fun z => by rw [z, hD6] at hr0; cases hr0
    have zl : zs.length = i := by
      have z := congrArg List.length hk6
      rwa [List.length_map, List.length_map, List.length_range] at z
    refine ⟨_, rfl, .inl ⟨rfl, _, SqL.of hDC⟩, _, rfl, D, _, _, rfl, rfl, hDC, szt (by rw [List.length_map]; omega), ?_⟩
    have hDS : D ∈ [b, D] := List.mem_cons_of_mem _ List.mem_cons_self
    refine ⟨zs ++ [(r, req fs i)], _, _, rfl, (hb6.ofSame s6C).of (upd_ne nDb.symm) (upd_ne nDl.symm), ?_, ?_, ?_, fun z hz => ?_, ?_⟩
    · rw [dl_upd hDS]
      exact dp_mono (dl_mono s6C) hfv6
    · rw [dl_upd hDS]
      exact hS6.same (dl_mono s6C)
    · rw [upd_same, List.map_append]
      rfl
    · rcases List.mem_append.mp hz with hz | hz
      · have e := s6C _ _ (hz6 z hz)
        rw [upd_ne (fun c => by rw [c, hDC] at e; cases e)]
        exact e
      · rw [List.mem_singleton.mp hz, upd_ne nrD]
        exact hrC
    · rw [List.map_append, hk6, List.range_succ, List.map_append]
      rfl
  · obtain ⟨zs, x3, x7, rfl, hb6, hfv6, hS6, hD6, hz6, hk6⟩ := hI
    rw [Int.toNat_natCast] at hk6
    have zl : zs.length = tot fs := by
      have z := congrArg List.length hk6
      rwa [List.length_map, List.length_map, List.length_range] at z
    have nd : (zs.map (·.2)).Nodup := by rw [hk6]; exact fok_nodup hok
    have hS6' := hS6.same dl_le
    obtain ⟨dx, la, ca, hp, _, _⟩ := hS6'.ob
    refine ⟨_, rfl, setTx_on (SqL.of hD6) (fun z hz => SqT.of (hz6 z hz)) nd (by omega) fun sp hsp => ?_⟩
    have k1 := same_new (o := SetNO sp zs.length) hsp
    refine ⟨sp, zs.length, rfl, upd_same, _, rfl, rfl, _, rfl, bF ?_ ?_⟩
    · show (!decide (V.int (zs.length : Nat) = V.int (tot fs : Nat))) = false
      rw [zl, decide_eq_true rfl]
      rfl
    have hS7 := hS6'.same k1
    have hp7 := k1 _ _ hp
    refine ⟨_, rfl, p, dx, _, rfl, hp7, sch_no _ _ _ (by decide +kernel) (by decide +kernel) (by decide +kernel), rfl, p, fs, 0, rfl, hS7, h3', hf5, pos, fun r H8 s8 hr0 hr8 => ?_⟩
    have hfv8 := dp_mono ((dl_le.trans k1).trans s8) hfv6
    cases hfv8 with
    | @lst _ fxs _ hf1 hf2 =>
    have hfl' := dpa_len' hf2
    refine ⟨_, rfl, fa, rfl, ⟨_, hf1⟩, fun D2 hD2 => ?_⟩
    refine lc_each fs hfl' (walk_list (xs := fxs)) hD2 (fun f => .str (f.2.getD 0 "")) (fun H' s' => s'.seq hf1) (by omega) (fun j x f H9 Qe Z hx hfj sm hq => ?_) (fun H9 s9 hD9 => ?_)
    · obtain ⟨t, m, rfl, h1, h2⟩ := fld_open (dp_mono sm (dpa_get' hf2 hx hfj))
      have hm := h3' f (List.mem_of_getElem? hfj)
      refine ⟨t, _, rfl, h1, rfl, _, _, rfl, _, _, rfl, rfl, rfl, yes ?_⟩
      have e0 := List.getElem?_eq_getElem (show 0 < f.2.length by omega)
      refine ⟨_, rfl, m, _, 0, .str (f.2.getD 0 ""), rfl, rfl, h2, (show atI _ ((0 : Nat) : Int) = _ from atI_nat (by rw [List.getElem?_map, List.getD_eq_getElem?_getD, e0]; rfl)), hq _ (Same.refl _)⟩
    have eD9 : H9 D2 = some (.lst ((req fs 0).map V.str)) := by
      rw [hD9, req_zero, List.map_map]
      rfl
    refine ⟨D2, _, rfl, .inl ⟨SqL.of eD9, fun tp htp => ?_⟩⟩
    have kt := same_new (o := .tup ((req fs 0).map V.str)) htp
    have okd := rq_deep (n := 2) hok hf5 0
    refine ⟨_, _, .tuple ((req fs 0).map PyData.str), rfl, .tup (SqT.of ((s9.trans kt) _ _ hr8)) (dpa_strs _), .tup (SqT.of upd_same) (dpa_strs _), okd, fun HA sA => ⟨_, rfl, bF rfl ?_⟩⟩
    dsimp only [tNext]
    have s6A := (k1.trans s8).trans ((s9.trans kt).trans sA)
    have hbA := hb6.ofSame s6A
    have hDA := s6A _ _ hD6
    have hDA' : dl HA [b] D = some (.lst (zs.map fun z => V.ref z.1)) := by
      rw [dl_ne (by simpa using nDb)]
      exact hDA
    refine ⟨_, rfl, _, rfl, b, l, D, _, [b], rfl, hbA, hbS, Tr.one hbA, SqL.of hDA', by rw [List.length_map]; omega, fun pm ys HB bxB hpm0 hpm hperm => ?_⟩
    obtain ⟨zs', pz, rfl⟩ := perm_back zs hperm
    have hSB : SchAt K (adr (mg "Schema")) HB p fs := (((hS6.same (dl_mono (S := [b, D]) s6A)).same (dl_sub fun c hc => by rw [List.mem_singleton.mp hc]; exact List.mem_cons_self)).same (bxB.same hbS)).same dl_le
    have hzB : ∀ z, z ∈ zs' → HB z.1 = some (.tup (z.2.map V.str)) := fun z hz => by
      have e := s6A _ _ (hz6 z (pz.mem_iff.mp hz))
      refine bxB.keep _ _ (fun c => ?_) e
      obtain ⟨xs, ex⟩ := hbA.tracked
      rw [c, ex] at e
      cases e
    obtain ⟨dx2, la2, ca2, hpB, _, _⟩ := hSB.ob
    have zl' : zs'.length = tot fs := by rw [pz.length_eq, zl]
    refine ⟨pm, rfl, ⟨_, SqL.of hpm⟩, fun D3 hD3 => ?_⟩
    refine lc_each zs' (by rw [List.length_map]) (walk_list (xs := zs'.map fun z => V.ref z.1)) hD3 (fun z => .int (numOf fs z.2 0 : Nat)) (fun H' s' => s'.seq (SqL.of hpm)) (by rw [List.length_map]; omega) (fun j x z H9 Qe Z hx hzj sm hq => ?_) (fun HC sC hDC => ?_)
    · have ex : x = .ref z.1 := by
        rw [List.getElem?_map, hzj] at hx
        exact (Option.some.inj hx).symm
      subst ex
      have hm := List.mem_of_getElem? hzj
      obtain ⟨n, hn1, hn2⟩ : ∃ n, n < tot fs ∧ z.2 = req fs n := by
        have m2 : z.2 ∈ zs.map (·.2) := List.mem_map.mpr ⟨z, pz.mem_iff.mp hm, rfl⟩
        rw [hk6] at m2
        obtain ⟨n, hn, e⟩ := List.mem_map.mp m2
        exact ⟨n, List.mem_range.mp hn, e.symm⟩
      refine ⟨rfl, yes ⟨_, rfl, p, dx2, _, rfl, sm _ _ hpB, sch_no _ _ _ (by decide +kernel) (by decide +kernel) (by decide +kernel), _, rfl, p, z.1, fs, z.2, rfl, hSB.same sm, SqT.of (sm _ _ (hzB z hm)), by rw [hn2]; exact fok_is hok n, hf5, by omega, h3', fun HX sX => hq _ sX⟩⟩
    have eDC : (zs'.map fun z => V.int (numOf fs z.2 0 : Nat)) = iV ((zs'.map fun z => numOf fs z.2 0).map fun (i : Nat) => (i : Int)) := by
      unfold iV
      rw [List.map_map, List.map_map]
      rfl
    rw [eDC] at hDC
    have pr : (zs'.map fun z => numOf fs z.2 0).Perm (List.range (tot fs)) := by
      have e1 : (zs.map fun z => numOf fs z.2 0) = List.range (tot fs) := by
        have e2 : (zs.map fun z => numOf fs z.2 0) = (zs.map (·.2)).map fun r => numOf fs r 0 := by rw [List.map_map]; rfl
        rw [e2, hk6, List.map_map]
        conv => rhs; rw [← List.map_id (List.range (tot fs))]
        exact List.map_congr_left fun n hn => fok_num hok (List.mem_range.mp hn)
      rw [← e1]
      exact pz.map _
    refine sortedA_on (.inl (SqL.of hDC)) fun ns' ps hps hso hp0 => ?_
    have ens := (sort_ord (n := tot fs) hps hso).mpr ⟨_, rfl, pr⟩
    subst ens
    have kS := same_new (o := .lst (iV ((List.range (tot fs)).map fun (i : Nat) => (i : Int)))) hp0
    refine ⟨_, rfl, _, rfl, RgOk.of_le (by decide) (by omega) (by decide) (by omega), fun la hla => ?_⟩
    have eR : rgV 0 ((tot fs : Nat) : Int) = iV ((List.range (tot fs)).map fun (i : Nat) => (i : Int)) := by
      rw [rg_nat, nV_i]
    rw [eR]
    have kL := same_new (o := .lst (iV ((List.range (tot fs)).map fun (i : Nat) => (i : Int)))) hla
    have dd : deep 4 (iD ((List.range (tot fs)).map fun (i : Nat) => (i : Int))) = true := iD_deep (n := 2) (by rw [List.length_map, List.length_range]; omega)
    refine ⟨_, _, .lst (SqL.of (kL _ _ upd_same)) (dpa_ints _), .lst (SqL.of upd_same) (dpa_ints _), deep_shaped dd (by decide), deep_shaped dd (by decide), ?_⟩
    have e := eqv_same dd
    unfold iD at e
    rw [e]
    exact q _
end
end Hr

set_option Elab.async false
set_option linter.all false
set_option maxRecDepth 100000
set_option maxHeartbeats 4000000
namespace Hr
open PySem PySem.Spec PyProof.Rows L2
theorem all_mk {l : PySem.W.OpenLaw} {w : World} {K : PySem.W.Frag} {h : Heap} {mg : Str → Option Value} {fa : Addr} (X : K.In h) (G : h.Ns mainGlobals mg) (hfa : mg "law" = some (.ref fa))
    {f0 : Addr} {od0 an0 : Option Addr} {sl0 : Array (Option Value)} {oc0 kV0 dc0 pm0 cd0 ct0 : Value}
    (a0 : PySem.W.nsIn K mainGlobals "_wall" = some (some (.ref f0))) (l0 : K.lookup f0 = some ⟨oc0, od0, .func (PySem.W.fnOf "_wall" "_wall" (defArgs s__wall) (defBody s__wall) (defScope s__wall) .none kV0 dc0 pm0 an0 cd0 ct0), sl0⟩) (c0 : PySem.W.codeIn K cd0 "_wall" = true) (k0 : PySem.W.keepIn K (.ref f0) = true)
    {f1 : Addr} {od1 an1 : Option Addr} {sl1 : Array (Option Value)} {oc1 kV1 dc1 pm1 cd1 ct1 : Value}
    (a1 : PySem.W.nsIn K mainGlobals "consists_of" = some (some (.ref f1))) (l1 : K.lookup f1 = some ⟨oc1, od1, .func (PySem.W.fnOf "consists_of" "consists_of" (defArgs s_consists_of) (defBody s_consists_of) (defScope s_consists_of) .none kV1 dc1 pm1 an1 cd1 ct1), sl1⟩) (c1 : PySem.W.codeIn K cd1 "consists_of" = true) (k1 : PySem.W.keepIn K (.ref f1) = true)
    {f2 : Addr} {od2 an2 : Option Addr} {sl2 : Array (Option Value)} {oc2 kV2 dc2 pm2 cd2 ct2 : Value}
    (a2 : PySem.W.nsIn K mainGlobals "is_name" = some (some (.ref f2))) (l2 : K.lookup f2 = some ⟨oc2, od2, .func (PySem.W.fnOf "is_name" "is_name" (defArgs s_is_name) (defBody s_is_name) (defScope s_is_name) .none kV2 dc2 pm2 an2 cd2 ct2), sl2⟩) (c2 : PySem.W.codeIn K cd2 "is_name" = true) (k2 : PySem.W.keepIn K (.ref f2) = true)
    {f3 : Addr} {od3 an3 : Option Addr} {sl3 : Array (Option Value)} {oc3 kV3 dc3 pm3 cd3 ct3 : Value}
    (a3 : PySem.W.nsIn K mainGlobals "is_value" = some (some (.ref f3))) (l3 : K.lookup f3 = some ⟨oc3, od3, .func (PySem.W.fnOf "is_value" "is_value" (defArgs s_is_value) (defBody s_is_value) (defScope s_is_value) .none kV3 dc3 pm3 an3 cd3 ct3), sl3⟩) (c3 : PySem.W.codeIn K cd3 "is_value" = true) (k3 : PySem.W.keepIn K (.ref f3) = true)
    {f4 : Addr} {od4 an4 : Option Addr} {sl4 : Array (Option Value)} {oc4 kV4 dc4 pm4 cd4 ct4 : Value}
    (a4 : PySem.W.nsIn K mainGlobals "is_field_name" = some (some (.ref f4))) (l4 : K.lookup f4 = some ⟨oc4, od4, .func (PySem.W.fnOf "is_field_name" "is_field_name" (defArgs s_is_field_name) (defBody s_is_field_name) (defScope s_is_field_name) .none kV4 dc4 pm4 an4 cd4 ct4), sl4⟩) (c4 : PySem.W.codeIn K cd4 "is_field_name" = true) (k4 : PySem.W.keepIn K (.ref f4) = true)
    {f5 : Addr} {od5 an5 : Option Addr} {sl5 : Array (Option Value)} {oc5 kV5 dc5 pm5 cd5 ct5 : Value}
    (a5 : PySem.W.nsIn K mainGlobals "check_count" = some (some (.ref f5))) (l5 : K.lookup f5 = some ⟨oc5, od5, .func (PySem.W.fnOf "check_count" "check_count" (defArgs s_check_count) (defBody s_check_count) (defScope s_check_count) .none kV5 dc5 pm5 an5 cd5 ct5), sl5⟩) (c5 : PySem.W.codeIn K cd5 "check_count" = true) (k5 : PySem.W.keepIn K (.ref f5) = true)
    {f6 : Addr} {od6 an6 : Option Addr} {sl6 : Array (Option Value)} {oc6 kV6 dc6 pm6 cd6 ct6 : Value}
    (a6 : PySem.W.nsIn K mainGlobals "checked_values" = some (some (.ref f6))) (l6 : K.lookup f6 = some ⟨oc6, od6, .func (PySem.W.fnOf "checked_values" "checked_values" (defArgs s_checked_values) (defBody s_checked_values) (defScope s_checked_values) .none kV6 dc6 pm6 an6 cd6 ct6), sl6⟩) (c6 : PySem.W.codeIn K cd6 "checked_values" = true) (k6 : PySem.W.keepIn K (.ref f6) = true)
    {f7 : Addr} {od7 an7 : Option Addr} {sl7 : Array (Option Value)} {oc7 kV7 dc7 pm7 cd7 ct7 : Value}
    (a7 : PySem.W.nsIn K mainGlobals "checked_fields" = some (some (.ref f7))) (l7 : K.lookup f7 = some ⟨oc7, od7, .func (PySem.W.fnOf "checked_fields" "checked_fields" (defArgs s_checked_fields) (defBody s_checked_fields) (defScope s_checked_fields) .none kV7 dc7 pm7 an7 cd7 ct7), sl7⟩) (c7 : PySem.W.codeIn K cd7 "checked_fields" = true) (k7 : PySem.W.keepIn K (.ref f7) = true)
    {f8 : Addr} {od8 an8 : Option Addr} {sl8 : Array (Option Value)} {oc8 kV8 dc8 pm8 cd8 ct8 : Value}
    (a8 : PySem.W.nsIn K mainGlobals "count_requests" = some (some (.ref f8))) (l8 : K.lookup f8 = some ⟨oc8, od8, .func (PySem.W.fnOf "count_requests" "count_requests" (defArgs s_count_requests) (defBody s_count_requests) (defScope s_count_requests) .none kV8 dc8 pm8 an8 cd8 ct8), sl8⟩) (c8 : PySem.W.codeIn K cd8 "count_requests" = true) (k8 : PySem.W.keepIn K (.ref f8) = true)
    {f9 : Addr} {od9 an9 : Option Addr} {sl9 : Array (Option Value)} {oc9 kV9 dc9 pm9 cd9 ct9 : Value}
    (a9 : PySem.W.nsIn K mainGlobals "_law_bag" = some (some (.ref f9))) (l9 : K.lookup f9 = some ⟨oc9, od9, .func (PySem.W.fnOf "_law_bag" "_law_bag" (defArgs s__law_bag) (defBody s__law_bag) (defScope s__law_bag) .none kV9 dc9 pm9 an9 cd9 ct9), sl9⟩) (c9 : PySem.W.codeIn K cd9 "_law_bag" = true) (k9 : PySem.W.keepIn K (.ref f9) = true)
    {f10 : Addr} {od10 an10 : Option Addr} {sl10 : Array (Option Value)} {oc10 kV10 dc10 pm10 cd10 ct10 : Value}
    (a10 : PySem.W.nsIn K mainGlobals "_law_pull" = some (some (.ref f10))) (l10 : K.lookup f10 = some ⟨oc10, od10, .func (PySem.W.fnOf "_law_pull" "_law_pull" (defArgs s__law_pull) (defBody s__law_pull) (defScope s__law_pull) .none kV10 dc10 pm10 an10 cd10 ct10), sl10⟩) (c10 : PySem.W.codeIn K cd10 "_law_pull" = true) (k10 : PySem.W.keepIn K (.ref f10) = true)
    {f11 : Addr} {od11 an11 : Option Addr} {sl11 : Array (Option Value)} {oc11 kV11 dc11 pm11 cd11 ct11 : Value}
    (a11 : PySem.W.nsIn K mainGlobals "_law_of" = some (some (.ref f11))) (l11 : K.lookup f11 = some ⟨oc11, od11, .func (PySem.W.fnOf "_law_of" "_law_of" (defArgs s__law_of) (defBody s__law_of) (defScope s__law_of) .none kV11 dc11 pm11 an11 cd11 ct11), sl11⟩) (c11 : PySem.W.codeIn K cd11 "_law_of" = true) (k11 : PySem.W.keepIn K (.ref f11) = true)
    {f12 : Addr} {od12 an12 : Option Addr} {sl12 : Array (Option Value)} {oc12 kV12 dc12 pm12 cd12 ct12 : Value}
    (a12 : PySem.W.nsIn K mainGlobals "_law_mixed" = some (some (.ref f12))) (l12 : K.lookup f12 = some ⟨oc12, od12, .func (PySem.W.fnOf "_law_mixed" "_law_mixed" (defArgs s__law_mixed) (defBody s__law_mixed) (defScope s__law_mixed) .none kV12 dc12 pm12 an12 cd12 ct12), sl12⟩) (c12 : PySem.W.codeIn K cd12 "_law_mixed" = true) (k12 : PySem.W.keepIn K (.ref f12) = true)
    {f13 : Addr} {od13 an13 : Option Addr} {sl13 : Array (Option Value)} {oc13 kV13 dc13 pm13 cd13 ct13 : Value}
    (a13 : PySem.W.nsIn K mainGlobals "_law_same" = some (some (.ref f13))) (l13 : K.lookup f13 = some ⟨oc13, od13, .func (PySem.W.fnOf "_law_same" "_law_same" (defArgs s__law_same) (defBody s__law_same) (defScope s__law_same) .none kV13 dc13 pm13 an13 cd13 ct13), sl13⟩) (c13 : PySem.W.codeIn K cd13 "_law_same" = true) (k13 : PySem.W.keepIn K (.ref f13) = true)
    {f14 : Addr} {od14 an14 : Option Addr} {sl14 : Array (Option Value)} {oc14 kV14 dc14 pm14 cd14 ct14 : Value}
    (a14 : PySem.W.nsIn K mainGlobals "_law_names" = some (some (.ref f14))) (l14 : K.lookup f14 = some ⟨oc14, od14, .func (PySem.W.fnOf "_law_names" "_law_names" (defArgs s__law_names) (defBody s__law_names) (defScope s__law_names) .none kV14 dc14 pm14 an14 cd14 ct14), sl14⟩) (c14 : PySem.W.codeIn K cd14 "_law_names" = true) (k14 : PySem.W.keepIn K (.ref f14) = true)
    {f15 : Addr} {od15 an15 : Option Addr} {sl15 : Array (Option Value)} {oc15 kV15 dc15 pm15 cd15 ct15 : Value}
    (a15 : PySem.W.nsIn K mainGlobals "_law_marks" = some (some (.ref f15))) (l15 : K.lookup f15 = some ⟨oc15, od15, .func (PySem.W.fnOf "_law_marks" "_law_marks" (defArgs s__law_marks) (defBody s__law_marks) (defScope s__law_marks) .none kV15 dc15 pm15 an15 cd15 ct15), sl15⟩) (c15 : PySem.W.codeIn K cd15 "_law_marks" = true) (k15 : PySem.W.keepIn K (.ref f15) = true)
    {f16 : Addr} {od16 an16 : Option Addr} {sl16 : Array (Option Value)} {oc16 kV16 dc16 pm16 cd16 ct16 : Value}
    (a16 : PySem.W.nsIn K mainGlobals "_law_fields" = some (some (.ref f16))) (l16 : K.lookup f16 = some ⟨oc16, od16, .func (PySem.W.fnOf "_law_fields" "_law_fields" (defArgs s__law_fields) (defBody s__law_fields) (defScope s__law_fields) .none kV16 dc16 pm16 an16 cd16 ct16), sl16⟩) (c16 : PySem.W.codeIn K cd16 "_law_fields" = true) (k16 : PySem.W.keepIn K (.ref f16) = true)
    {f17 : Addr} {od17 an17 : Option Addr} {sl17 : Array (Option Value)} {oc17 kV17 dc17 pm17 cd17 ct17 : Value}
    (a17 : PySem.W.nsIn K mainGlobals "_law_size" = some (some (.ref f17))) (l17 : K.lookup f17 = some ⟨oc17, od17, .func (PySem.W.fnOf "_law_size" "_law_size" (defArgs s__law_size) (defBody s__law_size) (defScope s__law_size) .none kV17 dc17 pm17 an17 cd17 ct17), sl17⟩) (c17 : PySem.W.codeIn K cd17 "_law_size" = true) (k17 : PySem.W.keepIn K (.ref f17) = true)
    {f18 : Addr} {od18 an18 : Option Addr} {sl18 : Array (Option Value)} {oc18 kV18 dc18 pm18 cd18 ct18 : Value}
    (a18 : PySem.W.nsIn K mainGlobals "_law_request" = some (some (.ref f18))) (l18 : K.lookup f18 = some ⟨oc18, od18, .func (PySem.W.fnOf "_law_request" "_law_request" (defArgs s__law_request) (defBody s__law_request) (defScope s__law_request) .none kV18 dc18 pm18 an18 cd18 ct18), sl18⟩) (c18 : PySem.W.codeIn K cd18 "_law_request" = true) (k18 : PySem.W.keepIn K (.ref f18) = true)
    {f19 : Addr} {od19 an19 : Option Addr} {sl19 : Array (Option Value)} {oc19 kV19 dc19 pm19 cd19 ct19 : Value}
    (a19 : PySem.W.nsIn K mainGlobals "_law_schema" = some (some (.ref f19))) (l19 : K.lookup f19 = some ⟨oc19, od19, .func (PySem.W.fnOf "_law_schema" "_law_schema" (defArgs s__law_schema) (defBody s__law_schema) (defScope s__law_schema) .none kV19 dc19 pm19 an19 cd19 ct19), sl19⟩) (c19 : PySem.W.codeIn K cd19 "_law_schema" = true) (k19 : PySem.W.keepIn K (.ref f19) = true)
    {f20 : Addr} {od20 an20 : Option Addr} {sl20 : Array (Option Value)} {oc20 kV20 dc20 pm20 cd20 ct20 : Value}
    (a20 : PySem.W.nsIn K mainGlobals "law" = some (some (.ref f20))) (l20 : K.lookup f20 = some ⟨oc20, od20, .func (PySem.W.fnOf "law" "law" (defArgs s_law) (defBody s_law) (defScope s_law) .none kV20 dc20 pm20 an20 cd20 ct20), sl20⟩) (c20 : PySem.W.codeIn K cd20 "law" = true) (k20 : PySem.W.keepIn K (.ref f20) = true)
    {C0 : Addr} (aC0 : PySem.W.nsIn K mainGlobals "Schema" = some (some (.ref C0)))
    (pg0 : PySem.W.plainGet K C0 Str.empty = true) (hd0 : PySem.W.hasDictIn K C0 = true) (po0 : PySem.W.plainOver K C0 = true) (sa0 : PySem.W.findIn K (.ref C0) "__setattr__" = some (some (.builtin "object.__setattr__"))) (mk0 : PySem.W.makesIn K C0 = true) (kc0 : PySem.W.keepIn K (.ref C0) = true)
    (n0labels : PySem.W.findIn K (.ref C0) "labels" = some none)
    (n0choices : PySem.W.findIn K (.ref C0) "choices" = some none)
    (n0total : PySem.W.findIn K (.ref C0) "total" = some none)
    {mf0 : Addr} {mod0 man0 : Option Addr} {msl0 : Array (Option Value)} {moc0 mkV0 mdc0 mpm0 mcd0 mct0 : Value}
    (ma0 : PySem.W.findIn K (.ref C0) "__init__" = some (some (.ref mf0))) (mi0 : PySem.W.isFn K (.ref mf0) = true) (ml0 : K.lookup mf0 = some ⟨moc0, mod0, .func (PySem.W.fnOf "__init__" "Schema.__init__" (defArgs s_Schema___init__) (defBody s_Schema___init__) (defScope s_Schema___init__) .none mkV0 mdc0 mpm0 man0 mcd0 mct0), msl0⟩) (mc0 : PySem.W.codeIn K mcd0 "Schema.__init__" = true) (mk_0 : PySem.W.keepIn K (.ref mf0) = true)
    {mf1 : Addr} {mod1 man1 : Option Addr} {msl1 : Array (Option Value)} {moc1 mkV1 mdc1 mpm1 mcd1 mct1 : Value}
    (ma1 : PySem.W.findIn K (.ref C0) "request_of" = some (some (.ref mf1))) (mi1 : PySem.W.isFn K (.ref mf1) = true) (ml1 : K.lookup mf1 = some ⟨moc1, mod1, .func (PySem.W.fnOf "request_of" "Schema.request_of" (defArgs s_Schema_request_of) (defBody s_Schema_request_of) (defScope s_Schema_request_of) .none mkV1 mdc1 mpm1 man1 mcd1 mct1), msl1⟩) (mc1 : PySem.W.codeIn K mcd1 "Schema.request_of" = true) (mk_1 : PySem.W.keepIn K (.ref mf1) = true)
    {mf2 : Addr} {mod2 man2 : Option Addr} {msl2 : Array (Option Value)} {moc2 mkV2 mdc2 mpm2 mcd2 mct2 : Value}
    (ma2 : PySem.W.findIn K (.ref C0) "number_of" = some (some (.ref mf2))) (mi2 : PySem.W.isFn K (.ref mf2) = true) (ml2 : K.lookup mf2 = some ⟨moc2, mod2, .func (PySem.W.fnOf "number_of" "Schema.number_of" (defArgs s_Schema_number_of) (defBody s_Schema_number_of) (defScope s_Schema_number_of) .none mkV2 mdc2 mpm2 man2 mcd2 mct2), msl2⟩) (mc2 : PySem.W.codeIn K mcd2 "Schema.number_of" = true) (mk_2 : PySem.W.keepIn K (.ref mf2) = true)
    (z0 : PySem.W.nsIn K mainGlobals "abs" = some none)
    (z1 : PySem.W.nsIn K mainGlobals "all" = some none)
    (z2 : PySem.W.nsIn K mainGlobals "bool" = some none)
    (z3 : PySem.W.nsIn K mainGlobals "enumerate" = some none)
    (z4 : PySem.W.nsIn K mainGlobals "int" = some none)
    (z5 : PySem.W.nsIn K mainGlobals "isinstance" = some none)
    (z6 : PySem.W.nsIn K mainGlobals "len" = some none)
    (z7 : PySem.W.nsIn K mainGlobals "list" = some none)
    (z8 : PySem.W.nsIn K mainGlobals "max" = some none)
    (z9 : PySem.W.nsIn K mainGlobals "range" = some none)
    (z10 : PySem.W.nsIn K mainGlobals "reversed" = some none)
    (z11 : PySem.W.nsIn K mainGlobals "set" = some none)
    (z12 : PySem.W.nsIn K mainGlobals "sorted" = some none)
    (z13 : PySem.W.nsIn K mainGlobals "str" = some none)
    (z14 : PySem.W.nsIn K mainGlobals "tuple" = some none)
    (z15 : PySem.W.nsIn K mainGlobals "zip" = some none)
    {t0 : Tok} (e0 : PySem.W.nsIn K mainGlobals "MAX_NAME" = some (some (.int 8 t0)))
    {t1 : Tok} (e1 : PySem.W.nsIn K mainGlobals "MAX_FIELDS" = some (some (.int 5 t1)))
    {t2 : Tok} (e2 : PySem.W.nsIn K mainGlobals "MAX_VALUES" = some (some (.int 6 t2)))
    {t3 : Tok} (e3 : PySem.W.nsIn K mainGlobals "MAX_REQUESTS" = some (some (.int 400 t3)))
    {t4 : Tok} (e4 : PySem.W.nsIn K mainGlobals "NAME_CHARACTERS" = some (some (.str "abcdefghijklmnopqrstuvwxyz" t4)))
    {t5 : Tok} (e5 : PySem.W.nsIn K mainGlobals "VALUE_CHARACTERS" = some (some (.str "abcdefghijklmnopqrstuvwxyz0123456789" t5)))
    : ∃ fd : FuncData, (∀ (s : Shared) (v : Value), BindsTo s fd ⟨[v], []⟩ [("_law_script", v)]) ∧ ∀ base : Heap, K.In base → base.Ns mainGlobals mg → FnOk l.prog w K mg base CX0 60 fa fd ["_law_script"] (sp_law K) := by
  have e := hfa.symm.trans (PySem.W.mg_of X G a20)
  cases e
  have F0 := fun_mk (st := s__wall) l0 c0 k0
  have b0 := F0.binds (ps := ["k"]) fun _ _ _ _ _ _ us hl => match us, hl with | [_], _ => rfl
  have F1 := fun_mk (st := s_consists_of) l1 c1 k1
  have b1 := F1.binds (ps := ["text", "characters"]) fun _ _ _ _ _ _ us hl => match us, hl with | [_, _], _ => rfl
  have F2 := fun_mk (st := s_is_name) l2 c2 k2
  have b2 := F2.binds (ps := ["text"]) fun _ _ _ _ _ _ us hl => match us, hl with | [_], _ => rfl
  have F3 := fun_mk (st := s_is_value) l3 c3 k3
  have b3 := F3.binds (ps := ["text"]) fun _ _ _ _ _ _ us hl => match us, hl with | [_], _ => rfl
  have F4 := fun_mk (st := s_is_field_name) l4 c4 k4
  have b4 := F4.binds (ps := ["text"]) fun _ _ _ _ _ _ us hl => match us, hl with | [_], _ => rfl
  have F5 := fun_mk (st := s_check_count) l5 c5 k5
  have b5 := F5.binds (ps := ["many", "limit"]) fun _ _ _ _ _ _ us hl => match us, hl with | [_, _], _ => rfl
  have F6 := fun_mk (st := s_checked_values) l6 c6 k6
  have b6 := F6.binds (ps := ["values"]) fun _ _ _ _ _ _ us hl => match us, hl with | [_], _ => rfl
  have F7 := fun_mk (st := s_checked_fields) l7 c7 k7
  have b7 := F7.binds (ps := ["fields"]) fun _ _ _ _ _ _ us hl => match us, hl with | [_], _ => rfl
  have F8 := fun_mk (st := s_count_requests) l8 c8 k8
  have b8 := F8.binds (ps := ["choices"]) fun _ _ _ _ _ _ us hl => match us, hl with | [_], _ => rfl
  have F9 := fun_mk (st := s__law_bag) l9 c9 k9
  have b9 := F9.binds (ps := ["_law_script"]) fun _ _ _ _ _ _ us hl => match us, hl with | [_], _ => rfl
  have F10 := fun_mk (st := s__law_pull) l10 c10 k10
  have b10 := F10.binds (ps := ["_law_bag_here", "_law_sides"]) fun _ _ _ _ _ _ us hl => match us, hl with | [_, _], _ => rfl
  have F11 := fun_mk (st := s__law_of) l11 c11 k11
  have b11 := F11.binds (ps := ["_law_bag_here", "_law_some"]) fun _ _ _ _ _ _ us hl => match us, hl with | [_, _], _ => rfl
  have F12 := fun_mk (st := s__law_mixed) l12 c12 k12
  have b12 := F12.binds (ps := ["_law_bag_here", "_law_some"]) fun _ _ _ _ _ _ us hl => match us, hl with | [_, _], _ => rfl
  have F13 := fun_mk (st := s__law_same) l13 c13 k13
  have b13 := F13.binds (ps := ["_law_found", "_law_due"]) fun _ _ _ _ _ _ us hl => match us, hl with | [_, _], _ => rfl
  have F14 := fun_mk (st := s__law_names) l14 c14 k14
  have b14 := F14.binds (ps := ["_law_bag_here", "_law_many"]) fun _ _ _ _ _ _ us hl => match us, hl with | [_, _], _ => rfl
  have F15 := fun_mk (st := s__law_marks) l15 c15 k15
  have b15 := F15.binds (ps := ["_law_bag_here", "_law_many"]) fun _ _ _ _ _ _ us hl => match us, hl with | [_, _], _ => rfl
  have F16 := fun_mk (st := s__law_fields) l16 c16 k16
  have b16 := F16.binds (ps := ["_law_bag_here", "_law_most"]) fun _ _ _ _ _ _ us hl => match us, hl with | [_, _], _ => rfl
  have F17 := fun_mk (st := s__law_size) l17 c17 k17
  have b17 := F17.binds (ps := ["_law_fields_here"]) fun _ _ _ _ _ _ us hl => match us, hl with | [_], _ => rfl
  have F18 := fun_mk (st := s__law_request) l18 c18 k18
  have b18 := F18.binds (ps := ["_law_fields_here", "_law_number_z"]) fun _ _ _ _ _ _ us hl => match us, hl with | [_, _], _ => rfl
  have F19 := fun_mk (st := s__law_schema) l19 c19 k19
  have b19 := F19.binds (ps := ["_law_fields_here"]) fun _ _ _ _ _ _ us hl => match us, hl with | [_], _ => rfl
  have F20 := fun_mk (st := s_law) l20 c20 k20
  have gC0 : mg "Schema" = some (.ref C0) := PySem.W.mg_of X G aC0
  have eC0 : adr (mg "Schema") = C0 := by rw [gC0]; rfl
  have MF0 := fun_mk (st := s_Schema___init__) ml0 mc0 mk_0
  have mb0 := MF0.binds (ps := ["self", "fields"]) fun _ _ _ _ _ _ us hl => match us, hl with | [_, _], _ => rfl
  have MF1 := fun_mk (st := s_Schema_request_of) ml1 mc1 mk_1
  have kq1 : KwM _ ["self", "number"] ["number"] := kwm_of MF1 fun _ _ _ _ _ _ _ us hl => match us, hl with | [_], _ => rfl
  have mb1 := MF1.binds (ps := ["self", "number"]) fun _ _ _ _ _ _ us hl => match us, hl with | [_, _], _ => rfl
  have MF2 := fun_mk (st := s_Schema_number_of) ml2 mc2 mk_2
  have kq2 : KwM _ ["self", "request"] ["request"] := kwm_of MF2 fun _ _ _ _ _ _ _ us hl => match us, hl with | [_], _ => rfl
  have mb2 := MF2.binds (ps := ["self", "request"]) fun _ _ _ _ _ _ us hl => match us, hl with | [_, _], _ => rfl
  have T : Txt K mg := {
    m_abs := PySem.W.mg_none_of X G z0,
    m_all := PySem.W.mg_none_of X G z1,
    m_bool := PySem.W.mg_none_of X G z2,
    m_enumerate := PySem.W.mg_none_of X G z3,
    m_int := PySem.W.mg_none_of X G z4,
    m_isinstance := PySem.W.mg_none_of X G z5,
    m_len := PySem.W.mg_none_of X G z6,
    m_list := PySem.W.mg_none_of X G z7,
    m_max := PySem.W.mg_none_of X G z8,
    m_range := PySem.W.mg_none_of X G z9,
    m_reversed := PySem.W.mg_none_of X G z10,
    m_set := PySem.W.mg_none_of X G z11,
    m_sorted := PySem.W.mg_none_of X G z12,
    m_str := PySem.W.mg_none_of X G z13,
    m_tuple := PySem.W.mg_none_of X G z14,
    m_zip := PySem.W.mg_none_of X G z15,
    c_MAX_NAME := ⟨_, PySem.W.mg_of X G e0, ⟨_, rfl⟩⟩,
    c_MAX_FIELDS := ⟨_, PySem.W.mg_of X G e1, ⟨_, rfl⟩⟩,
    c_MAX_VALUES := ⟨_, PySem.W.mg_of X G e2, ⟨_, rfl⟩⟩,
    c_MAX_REQUESTS := ⟨_, PySem.W.mg_of X G e3, ⟨_, rfl⟩⟩,
    c_NAME_CHARACTERS := ⟨_, PySem.W.mg_of X G e4, ⟨_, rfl⟩⟩,
    c_VALUE_CHARACTERS := ⟨_, PySem.W.mg_of X G e5, ⟨_, rfl⟩⟩,
    g_Schema := by rw [eC0]; exact gC0,
    k_Schema := by rw [eC0]; exact ⟨pg0, hd0, po0, sa0⟩,
    n_Schema_labels := by rw [eC0]; exact n0labels,
    n_Schema_choices := by rw [eC0]; exact n0choices,
    n_Schema_total := by rw [eC0]; exact n0total,
    h_Schema___init__ := ⟨_, _, MF0, mb0, by rw [eC0]; exact ⟨mk0, ma0, mi0, kc0⟩⟩,
    h_Schema_request_of := ⟨_, _, MF1, mb1, by rw [eC0]; exact ⟨ma1, mi1, mk_1⟩, kq1⟩,
    h_Schema_number_of := ⟨_, _, MF2, mb2, by rw [eC0]; exact ⟨ma2, mi2, mk_2⟩, kq2⟩,
    h__wall := ⟨_, _, F0, b0, PySem.W.mg_of X G a0⟩,
    h_consists_of := ⟨_, _, F1, b1, PySem.W.mg_of X G a1⟩,
    h_is_name := ⟨_, _, F2, b2, PySem.W.mg_of X G a2⟩,
    h_is_value := ⟨_, _, F3, b3, PySem.W.mg_of X G a3⟩,
    h_is_field_name := ⟨_, _, F4, b4, PySem.W.mg_of X G a4⟩,
    h_check_count := ⟨_, _, F5, b5, PySem.W.mg_of X G a5⟩,
    h_checked_values := ⟨_, _, F6, b6, PySem.W.mg_of X G a6⟩,
    h_checked_fields := ⟨_, _, F7, b7, PySem.W.mg_of X G a7⟩,
    h_count_requests := ⟨_, _, F8, b8, PySem.W.mg_of X G a8⟩,
    h__law_bag := ⟨_, _, F9, b9, PySem.W.mg_of X G a9⟩,
    h__law_pull := ⟨_, _, F10, b10, PySem.W.mg_of X G a10⟩,
    h__law_of := ⟨_, _, F11, b11, PySem.W.mg_of X G a11⟩,
    h__law_mixed := ⟨_, _, F12, b12, PySem.W.mg_of X G a12⟩,
    h__law_same := ⟨_, _, F13, b13, PySem.W.mg_of X G a13⟩,
    h__law_names := ⟨_, _, F14, b14, PySem.W.mg_of X G a14⟩,
    h__law_marks := ⟨_, _, F15, b15, PySem.W.mg_of X G a15⟩,
    h__law_fields := ⟨_, _, F16, b16, PySem.W.mg_of X G a16⟩,
    h__law_size := ⟨_, _, F17, b17, PySem.W.mg_of X G a17⟩,
    h__law_request := ⟨_, _, F18, b18, PySem.W.mg_of X G a18⟩,
    h__law_schema := ⟨_, _, F19, b19, PySem.W.mg_of X G a19⟩ }
  exact ⟨PySem.W.fnOf "law" "law" (defArgs s_law) (defBody s_law) (defScope s_law) .none kV20 dc20 pm20 an20 cd20 ct20, fun s v => .of_eq rfl, fun base _ _ => ok_law T F20⟩
end Hr
open PySem PySem.W PyProof.Rows
set_option maxRecDepth 100000 in
set_option maxHeartbeats 0 in
theorem PySem.Challenge.cw_hiddenrank_k05_whole_requests_are_number_holds : PySem.Challenge.rw_hiddenrank_k05_whole_requests_are_number.Holds := by
  w_on; o_law; k_head; (case hw => w_witness2)
  k_fill
  refine L2.walk_ofK (l := PySem.Challenge.rw_hiddenrank_k05_whole_requests_are_number) (n := 63) (k := 60) (x := "_law_script") (CX := L2.CX0) (sp := Hr.sp_law) rfl (by decide) rfl ⟨rfl, by decide, by decide⟩ (fun w h Y => PySem.W.kIn_of Y) ?F (fun _ _ a ns hl _ hS => ⟨a, ns, rfl, hS, hl, fun _ => rfl⟩) (fun _ _ _ _ h => h)
  case F =>
    intro w mg fa h KX G hmg
    refine' Hr.all_mk KX G hmg ?a0 ?l0 ?c0 ?k0 ?a1 ?l1 ?c1 ?k1 ?a2 ?l2 ?c2 ?k2 ?a3 ?l3 ?c3 ?k3 ?a4 ?l4 ?c4 ?k4 ?a5 ?l5 ?c5 ?k5 ?a6 ?l6 ?c6 ?k6 ?a7 ?l7 ?c7 ?k7 ?a8 ?l8 ?c8 ?k8 ?a9 ?l9 ?c9 ?k9 ?a10 ?l10 ?c10 ?k10 ?a11 ?l11 ?c11 ?k11 ?a12 ?l12 ?c12 ?k12 ?a13 ?l13 ?c13 ?k13 ?a14 ?l14 ?c14 ?k14 ?a15 ?l15 ?c15 ?k15 ?a16 ?l16 ?c16 ?k16 ?a17 ?l17 ?c17 ?k17 ?a18 ?l18 ?c18 ?k18 ?a19 ?l19 ?c19 ?k19 ?a20 ?l20 ?c20 ?k20 ?aC0 ?pg0 ?hd0 ?po0 ?sa0 ?mk0 ?kc0 ?n0labels ?n0choices ?n0total ?ma0 ?mi0 ?ml0 ?mc0 ?mk_0 ?ma1 ?mi1 ?ml1 ?mc1 ?mk_1 ?ma2 ?mi2 ?ml2 ?mc2 ?mk_2 ?z0 ?z1 ?z2 ?z3 ?z4 ?z5 ?z6 ?z7 ?z8 ?z9 ?z10 ?z11 ?z12 ?z13 ?z14 ?z15 ?e0 ?e1 ?e2 ?e3 ?e4 ?e5
    (case a0 => k_is)
    (case l0 => k_is)
    (case c0 => k_is)
    (case k0 => k_is)
    (case a1 => k_is)
    (case l1 => k_is)
    (case c1 => k_is)
    (case k1 => k_is)
    (case a2 => k_is)
    (case l2 => k_is)
    (case c2 => k_is)
    (case k2 => k_is)
    (case a3 => k_is)
    (case l3 => k_is)
    (case c3 => k_is)
    (case k3 => k_is)
    (case a4 => k_is)
    (case l4 => k_is)
    (case c4 => k_is)
    (case k4 => k_is)
    (case a5 => k_is)
    (case l5 => k_is)
    (case c5 => k_is)
    (case k5 => k_is)
    (case a6 => k_is)
    (case l6 => k_is)
    (case c6 => k_is)
    (case k6 => k_is)
    (case a7 => k_is)
    (case l7 => k_is)
    (case c7 => k_is)
    (case k7 => k_is)
    (case a8 => k_is)
    (case l8 => k_is)
    (case c8 => k_is)
    (case k8 => k_is)
    (case a9 => k_is)
    (case l9 => k_is)
    (case c9 => k_is)
    (case k9 => k_is)
    (case a10 => k_is)
    (case l10 => k_is)
    (case c10 => k_is)
    (case k10 => k_is)
    (case a11 => k_is)
    (case l11 => k_is)
    (case c11 => k_is)
    (case k11 => k_is)
    (case a12 => k_is)
    (case l12 => k_is)
    (case c12 => k_is)
    (case k12 => k_is)
    (case a13 => k_is)
    (case l13 => k_is)
    (case c13 => k_is)
    (case k13 => k_is)
    (case a14 => k_is)
    (case l14 => k_is)
    (case c14 => k_is)
    (case k14 => k_is)
    (case a15 => k_is)
    (case l15 => k_is)
    (case c15 => k_is)
    (case k15 => k_is)
    (case a16 => k_is)
    (case l16 => k_is)
    (case c16 => k_is)
    (case k16 => k_is)
    (case a17 => k_is)
    (case l17 => k_is)
    (case c17 => k_is)
    (case k17 => k_is)
    (case a18 => k_is)
    (case l18 => k_is)
    (case c18 => k_is)
    (case k18 => k_is)
    (case a19 => k_is)
    (case l19 => k_is)
    (case c19 => k_is)
    (case k19 => k_is)
    (case a20 => k_is)
    (case l20 => k_is)
    (case c20 => k_is)
    (case k20 => k_is)
    (case aC0 => k_is)
    (case pg0 => k_is)
    (case hd0 => k_is)
    (case po0 => k_is)
    (case sa0 => k_is)
    (case mk0 => k_is)
    (case kc0 => k_is)
    (case n0labels => k_is)
    (case n0choices => k_is)
    (case n0total => k_is)
    (case ma0 => k_is)
    (case mi0 => k_is)
    (case ml0 => k_is)
    (case mc0 => k_is)
    (case mk_0 => k_is)
    (case ma1 => k_is)
    (case mi1 => k_is)
    (case ml1 => k_is)
    (case mc1 => k_is)
    (case mk_1 => k_is)
    (case ma2 => k_is)
    (case mi2 => k_is)
    (case ml2 => k_is)
    (case mc2 => k_is)
    (case mk_2 => k_is)
    (case z0 => k_is)
    (case z1 => k_is)
    (case z2 => k_is)
    (case z3 => k_is)
    (case z4 => k_is)
    (case z5 => k_is)
    (case z6 => k_is)
    (case z7 => k_is)
    (case z8 => k_is)
    (case z9 => k_is)
    (case z10 => k_is)
    (case z11 => k_is)
    (case z12 => k_is)
    (case z13 => k_is)
    (case z14 => k_is)
    (case z15 => k_is)
    (case e0 => k_is)
    (case e1 => k_is)
    (case e2 => k_is)
    (case e3 => k_is)
    (case e4 => k_is)
    (case e5 => k_is)
